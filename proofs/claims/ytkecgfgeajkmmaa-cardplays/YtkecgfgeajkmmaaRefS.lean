/-
  The document's own card in memory, and what its functions (New, Read, Load) come to.
-/
import Derived.Test.YtkecgfgeajkmmaaCdC
namespace Go.Proofs.Ytkecgfgeajkmmaa
open Go.RowKit
/-- Block g holds the document's card with bytes B and power p. -/
structure Rc (w : World) (g : Nat) (B : List Nat) (p : Int) : Prop where
  has : Has w g 36 #[.string (bstr B), .int .i64 p]
  len : B.length = 512
  small : ∀ x ∈ B, x < 256
  lo : -9223372036854775808 ≤ p
  hi : p ≤ 9223372036854775807
theorem Rc.chg {w w' : World} {S : Nat → Prop} {g : Nat} {B : List Nat} {p : Int} (h : Rc w g B p) (c : Chg S w w') (hS : ¬ S g) : Rc w' g B p := ⟨h.has.chg c hS, h.len, h.small, h.lo, h.hi⟩
theorem Rc.new {w w' : World} {g : Nat} {B : List Nat} {p : Int} (h : Rc w g B p) (c : New w w') : Rc w' g B p := h.chg c fun f => f
theorem Rc.lt {w : World} {g : Nat} {B : List Nat} {p : Int} (h : Rc w g B p) : g < w.heap.size := h.has.lt
theorem Rc.str {w : World} {g : Nat} {B : List Nat} {p : Int} (h : Rc w g B p) : w.cell? ⟨g, 0, none⟩ = some (.string (bstr B)) := (h.has.cell 0).trans rfl
theorem Rc.pow {w : World} {g : Nat} {B : List Nat} {p : Int} (h : Rc w g B p) : w.cell? ⟨g, 1, none⟩ = some (.int .i64 p) := (h.has.cell 1).trans rfl
theorem Rc.free {w : World} {g : Nat} {B : List Nat} {p : Int} (h : Rc w g B p) (i : Nat) : w.frozen? ⟨g, i, none⟩ = false := h.has.free i
theorem bstr_size (B : List Nat) : (bstr B).size = B.length := by simp [bstr, ByteArray.size]
theorem bstr_extract (B : List Nat) (a b : Nat) : (bstr B).extract a b = bstr ((B.drop a).take (b - a)) := by
  apply ByteArray.ext
  simp [bstr, ByteArray.data_extract, List.extract_eq_take_drop]
set_option maxRecDepth 100000 in
set_option maxHeartbeats 1000000 in
theorem RNew_any (w : World) : Calls Try.prog 9 #[] w fun e w' => ∃ g, e = .returned (.pointer (some ⟨g, 0, none⟩)) ∧ Hid (w.heap.size ≤ g) ∧ Rc w' g nought (-1) ∧ New w w' := by
  go_enter Try.func9, Try.ntmps9
  go_wp2_with (at_make; refine wpList_make_row rfl _ _ rfl 512 512 rfl rfl rfl (by omega) ?_)
  intro b w1 Hb hR hN
  have hs : (convert 28 9 (.slice (some ⟨b, 0, none⟩) 512 512)).run Try.prog w1 = .ok (.string (bstr (zs 512))) w1 := hR.string (zs_len 512) (zs_small 512)
  have HN := Lib.hid hN; clear hN hR
  go_wp2_with fail
  go_ret
  refine ⟨_, rfl, HN.out.size, ⟨Has.new w1 36 _, zs_len 512, zs_small 512, by omega, by omega⟩, HN.out.then_new ((Chg.refl _ _).alloc _)⟩
set_option maxRecDepth 100000 in
set_option maxHeartbeats 1000000 in
theorem RLoad_any (g : Nat) (B bs : List Nat) (p : Int) (A : Option Addr) (n c : Nat) (F : Nat → Prop) (w : World) (hC : Rc w g B p) (hA : Arr w F A n (fun i => bV (bs.getD i 0))) (hnil : A = none → n = 0 ∧ c = 0) (hl : bs.length = n) (hb : ∀ x ∈ bs, x < 256) :
    Calls Try.prog 14 #[.pointer (some ⟨g, 0, none⟩), .slice A n c] w fun e w' => e = .returned (.int .i64 (szE n 512)) ∧ Rc w' g (lB B bs) p ∧ Chg (· = g) w w' := by
  have hs : (convert 28 9 (.slice A n c)).run Try.prog w = .ok (.string (bstr bs)) w := arr_string Try.underlying28 Try.underlying5 Try.underlying9 hA hl hb hnil
  have hc := hC.str
  have hf := hC.free 0
  have HC := Lib.hid hC; clear hC
  have Hl := Lib.hid hl; clear hl
  have Hb := Lib.hid hb; clear hb hA hnil
  rcases Nat.lt_trichotomy n 512 with h | rfl | h
  · have E : Hid (szE n 512 = 10 ∧ lB B bs = B) := by
      have e0 : szE n 512 = 10 := by simp [szE, h]
      exact ⟨e0, by unfold lB; rw [Hl.out, e0, if_neg (by decide)]⟩
    go_enter Try.func14, Try.ntmps14
    go_wp2_with fail
    go_ret
    rw [E.out.1, E.out.2]
    exact ⟨rfl, HC.out, Chg.refl _ _⟩
  · have E : Hid (szE 512 512 = 0 ∧ lB B bs = bs) := ⟨rfl, by unfold lB; rw [Hl.out]; rfl⟩
    go_enter Try.func14, Try.ntmps14
    go_wp2_with fail
    go_ret
    rw [E.out.1, E.out.2]
    exact ⟨rfl, ⟨HC.out.has.set 0 _, Hl.out, Hb.out, HC.out.lo, HC.out.hi⟩, Chg.setCell (S := (· = g)) (Chg.refl _ _) (fun _ => rfl) _⟩
  · have E : Hid (szE n 512 = 11 ∧ lB B bs = B) := by
      have e0 : szE n 512 = 11 := by unfold szE; rw [if_neg (by omega), if_pos h]
      exact ⟨e0, by unfold lB; rw [Hl.out, e0, if_neg (by decide)]⟩
    go_enter Try.func14, Try.ntmps14
    go_wp2_with fail
    go_ret
    rw [E.out.1, E.out.2]
    exact ⟨rfl, HC.out, Chg.refl _ _⟩
set_option maxRecDepth 100000 in
set_option maxHeartbeats 1000000 in
theorem RRead_out (g : Nat) (i : Int) (w : World) (hi : ¬ (0 ≤ i ∧ i < 16)) : Calls Try.prog 17 #[.pointer (some ⟨g, 0, none⟩), .int .i64 i] w fun e w' => e = .returned (.tuple #[.string ⟨#[]⟩, .int .i64 2]) ∧ w' = w := by
  rcases Int.lt_or_le i 0 with h | h
  · have t0 : decide (i < 0) = true := by simpa using h
    go_enter Try.func17, Try.ntmps17
    go_wp2_with fail
    go_ret2
    exact ⟨rfl, rfl⟩
  · have t0 : decide (i < 0) = false := by simpa using h
    have t1 : decide (15 < i) = true := by simp only [decide_eq_true_eq]; omega
    go_enter Try.func17, Try.ntmps17
    go_wp2_with fail
    go_ret2
    exact ⟨rfl, rfl⟩
set_option maxRecDepth 100000 in
set_option maxHeartbeats 1000000 in
theorem RRead_in (g i : Nat) (B : List Nat) (p : Int) (w : World) (hC : Rc w g B p) (hi : i < 16) : Calls Try.prog 17 #[.pointer (some ⟨g, 0, none⟩), .int .i64 i] w fun e w' => e = .returned (.tuple #[.string (bstr (sec B i)), .int .i64 0]) ∧ w' = w := by
  have hc := hC.str
  have hz := bstr_size B
  rw [hC.len] at hz
  have HC := Lib.hid hC; clear hC
  go_enter Try.func17, Try.ntmps17
  go_wp2_with fail
  go_ret2
  refine ⟨?_, rfl⟩
  rw [bstr_extract, show 32 * i + 32 - 32 * i = 32 by omega]
  rfl
end Go.Proofs.Ytkecgfgeajkmmaa
