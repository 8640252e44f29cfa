/-
  What the document's own Write comes to.
-/
import Derived.Test.YtkecgfgeajkmmaaRefS
import Derived.BigRegion
namespace Go.Proofs.Ytkecgfgeajkmmaa
open Go.RowKit
theorem bstr_append (a b : List Nat) : bstr a ++ bstr b = bstr (a ++ b) := by
  apply ByteArray.ext
  simp [bstr]
theorem splice_small2 {B bs : List Nat} {off : Nat} (hB : B.length = 512) (h : off + bs.length ≤ 512) : (splice B off bs).length = 512 := by rw [length_splice _ _ _ (by omega), hB]
theorem bstr_splice (B bs : List Nat) (i : Nat) (hB : B.length = 512) (hb : bs.length = 32) : (bstr B).extract 0 (32 * i) ++ bstr bs ++ (bstr B).extract (32 * i + 32) 512 = bstr (splice B (32 * i) bs) := by
  rw [bstr_extract, bstr_extract, bstr_append, bstr_append]
  congr 1
  unfold splice
  rw [hb, List.drop_zero, Nat.sub_zero, List.append_assoc]
  congr 2
  rw [List.take_of_length_le (by rw [List.length_drop, hB]; omega)]
set_option maxRecDepth 100000 in
set_option maxHeartbeats 2000000 in
theorem RWrite_bad (g : Nat) (i : Int) (B : List Nat) (p : Int) (A : Option Addr) (n c : Nat) (w : World) (hC : Rc w g B p) (hE : wE i n p ≠ 0) :
    Calls Try.prog 11 #[.pointer (some ⟨g, 0, none⟩), .int .i64 i, .slice A n c] w fun e w' => e = .returned (.int .i64 (wE i n p)) ∧ w' = w := by
  have hc := hC.pow
  clear hC
  by_cases hi : 0 ≤ i ∧ i < 16
  · have t0 : decide (i < 0) = false := by simp only [decide_eq_false_iff_not]; omega
    have t1 : decide (15 < i) = false := by simp only [decide_eq_false_iff_not]; omega
    rcases Nat.lt_trichotomy n 32 with h | rfl | h
    · have E : Hid (wE i n p = 10) := by show _ = _; unfold wE; rw [if_pos hi, show szE n 32 = 10 by simp [szE, h], if_neg (by decide)]
      clear hE hi
      go_enter Try.func11, Try.ntmps11
      go_wp2_with fail
      go_ret
      rw [E.out]
      exact ⟨rfl, rfl⟩
    · obtain rfl : p = 0 := by
        rcases Decidable.em (p = 0) with h | h
        · exact h
        · exact absurd (by unfold wE; rw [if_pos hi, szE_same, if_pos rfl, if_neg h]) hE
      have E : Hid (wE i 32 0 = 30) := by show _ = _; unfold wE; rw [if_pos hi, szE_same, if_pos rfl, if_pos rfl]
      clear hE hi
      go_enter Try.func11, Try.ntmps11
      go_wp2_with fail
      go_ret
      rw [E.out]
      exact ⟨rfl, rfl⟩
    · have E : Hid (wE i n p = 11) := by show _ = _; unfold wE; rw [if_pos hi, show szE n 32 = 11 by (unfold szE; rw [if_neg (by omega), if_pos h]), if_neg (by decide)]
      clear hE hi
      go_enter Try.func11, Try.ntmps11
      go_wp2_with fail
      go_ret
      rw [E.out]
      exact ⟨rfl, rfl⟩
  · have E : Hid (wE i n p = 2) := by show _ = _; unfold wE; rw [if_neg hi]
    clear hE
    rcases Int.lt_or_le i 0 with h | h
    · have t0 : decide (i < 0) = true := by simpa using h
      clear hi
      go_enter Try.func11, Try.ntmps11
      go_wp2_with fail
      go_ret
      rw [E.out]
      exact ⟨rfl, rfl⟩
    · have t0 : decide (i < 0) = false := by simpa using h
      have t1 : decide (15 < i) = true := by simp only [decide_eq_true_eq]; omega
      clear hi
      go_enter Try.func11, Try.ntmps11
      go_wp2_with fail
      go_ret
      rw [E.out]
      exact ⟨rfl, rfl⟩
set_option maxRecDepth 100000 in
set_option maxHeartbeats 4000000 in
theorem RWrite_ok (g i : Nat) (B bs : List Nat) (p : Int) (A : Option Addr) (c : Nat) (F : Nat → Prop) (w : World) (hC : Rc w g B p) (hA : Arr w F A 32 (fun i => bV (bs.getD i 0))) (hF : ∀ k, F k → k ≠ g ∧ k < w.heap.size) (hnil : A = none → 32 = 0 ∧ c = 0) (hl : bs.length = 32) (hb : ∀ x ∈ bs, x < 256) (hi : i < 16) (hp : p ≠ 0) :
    Calls Try.prog 11 #[.pointer (some ⟨g, 0, none⟩), .int .i64 i, .slice A 32 c] w fun e w' => e = .returned (.int .i64 0) ∧ Rc w' g (splice B (32 * i) bs) (spent p) ∧ Chg (· = g) w w' := by
  have hc1 := hC.str
  have hc2 := hC.pow
  have hf0 := hC.free 0
  have hf1 := hC.free 1
  have hz := bstr_size B
  rw [hC.len] at hz
  have hz2 := bstr_size bs
  rw [hl] at hz2
  have Hs : Hid (∀ wx, Chg (· = g) w wx → (convert 28 9 (.slice A 32 c)).run Try.prog wx = .ok (.string (bstr bs)) wx) := fun wx hx =>
    arr_string Try.underlying28 Try.underlying5 Try.underlying9 (hA.chg hx (fun k hk => ⟨(hF k hk).2, (hF k hk).1⟩)) hl hb hnil
  have HC := Lib.hid hC; clear hC
  have Hl := Lib.hid hl; clear hl
  have Hb := Lib.hid hb; clear hb hA hnil hF
  have hlo := HC.out.lo
  have hhi := HC.out.hi
  rcases Int.lt_or_le p 0 with h | h
  · have hs := Hs.out w.drew (Chg.refl _ _).drew
    have t0 : (p == 0) = false := by simpa using hp
    have t1 : decide (0 < p) = false := by simp only [decide_eq_false_iff_not]; omega
    go_enter Try.func11, Try.ntmps11
    go_upto_region 11 with (fail)
    go_region
    go_wp2_with fail
    go_ret
    rw [bstr_splice B bs i HC.out.len Hl.out]
    have e : spent p = p := by unfold spent; rw [if_neg (by omega)]
    rw [e]
    exact ⟨rfl, ⟨HC.out.has.set 0 _, splice_small2 HC.out.len (by rw [Hl.out]; omega), splice_small HC.out.small Hb.out, hlo, hhi⟩, Chg.drew (Chg.setCell (S := (· = g)) (Chg.refl _ _) (fun _ => rfl) _)⟩
  · have hs := Hs.out (w.setCell ⟨g, 1, none⟩ (.int .i64 (p - 1))).drew (Chg.drew (Chg.setCell (S := (· = g)) (Chg.refl _ _) (fun _ => rfl) _))
    have t0 : (p == 0) = false := by simpa using hp
    have t1 : decide (0 < p) = true := by simp only [decide_eq_true_eq]; omega
    go_enter Try.func11, Try.ntmps11
    go_upto_region 11 with (fail)
    go_region
    go_wp2_with fail
    go_ret
    rw [bstr_splice B bs i HC.out.len Hl.out]
    have e : spent p = p - 1 := by unfold spent; rw [if_pos (by omega)]
    rw [e]
    exact ⟨rfl, ⟨(HC.out.has.set 1 _).set 0 _, splice_small2 HC.out.len (by rw [Hl.out]; omega), splice_small HC.out.small Hb.out, by omega, by omega⟩, Chg.drew (Chg.setCell (S := (· = g)) (Chg.setCell (S := (· = g)) (Chg.refl _ _) (fun _ => rfl) _) (fun _ => rfl) _)⟩
theorem RWrite_any (g : Nat) (i : Int) (B bs : List Nat) (p : Int) (A : Option Addr) (n c : Nat) (F : Nat → Prop) (w : World) (hC : Rc w g B p) (hA : Arr w F A n (fun i => bV (bs.getD i 0))) (hF : ∀ k, F k → k ≠ g ∧ k < w.heap.size) (hnil : A = none → n = 0 ∧ c = 0) (hl : bs.length = n) (hb : ∀ x ∈ bs, x < 256) :
    Calls Try.prog 11 #[.pointer (some ⟨g, 0, none⟩), .int .i64 i, .slice A n c] w fun e w' => e = .returned (.int .i64 (wE i n p)) ∧ Rc w' g (wB B bs i p) (wP n i p) ∧ Chg (· = g) w w' := by
  unfold wB wP
  rw [hl]
  by_cases hE : wE i n p = 0
  · rw [if_pos hE, if_pos hE, hE]
    have hq : (0 ≤ i ∧ i < 16) ∧ szE n 32 = 0 ∧ p ≠ 0 := by
      unfold wE at hE
      by_cases h : 0 ≤ i ∧ i < 16
      · rw [if_pos h] at hE
        by_cases hs : szE n 32 = 0
        · rw [if_pos hs] at hE
          refine ⟨h, hs, fun h0 => ?_⟩
          rw [if_pos h0] at hE
          cases hE
        · rw [if_neg hs] at hE; exact absurd hE hs
      · rw [if_neg h] at hE; cases hE
    obtain ⟨hi, hs, hp⟩ := hq
    obtain rfl := szE_zero hs
    obtain ⟨j, rfl⟩ : ∃ j : Nat, i = (j : Int) := ⟨i.toNat, by omega⟩
    rw [Int.toNat_natCast]
    exact RWrite_ok g j B bs p A c F w hC hA hF hnil hl hb (by omega) hp
  · rw [if_neg hE, if_neg hE]
    exact (RWrite_bad g i B p A n c w hC hE).mono (by rintro e w' ⟨rfl, rfl⟩; exact ⟨rfl, hC, Chg.refl _ _⟩)
end Go.Proofs.Ytkecgfgeajkmmaa
