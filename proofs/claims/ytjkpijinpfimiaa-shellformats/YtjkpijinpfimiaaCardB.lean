/-
  What package card's Load and Write come to, for every input.
-/
import Derived.Test.YtjkpijinpfimiaaCardA
namespace Go.Proofs.Ytjkpijinpfimiaa
open Go.ChangeShapes Go.WideShapes Go.ChangeAt Go.RowKit
theorem splice_cd {B bs : List Nat} {p : Int} {off : Nat} (hB : B.length = 512) (h : off + bs.length ≤ 512) : splice (cdCells B p) off (bs.map bV) = cdCells (splice B off bs) p := by
  unfold splice cdCells
  rw [List.take_append_of_le_length (by simp [hB]; omega), List.drop_append_of_le_length (by simp [hB]; omega)]
  simp
theorem Cd.laid {w : World} {g : Nat} {B bs : List Nat} {p : Int} {off : Nat} {w' : World} (h : Cd w g B p) (hb : ∀ x ∈ bs, x < 256) (hfit : off + bs.length ≤ 512) (h' : Has w' g 92 (splice (cdCells B p) off (bs.map bV)).toArray) : Cd w' g (splice B off bs) p := by
  rw [splice_cd h.len hfit] at h'
  exact ⟨h', by rw [length_splice _ _ _ (by rw [h.len]; exact hfit)]; exact h.len, splice_small h.small hb, h.lo, h.hi⟩
theorem szE_zero {n m : Nat} (h : szE n m = 0) : n = m := by unfold szE at h; split at h <;> (try split at h) <;> omega
theorem szE_same (n : Nat) : szE n n = 0 := by simp [szE]
theorem sized_512 (A : Option Addr) (n c : Nat) (w : World) : Calls Try.prog 61 #[.slice A n c, .int .i64 512] w fun e w' => e = .returned (.int .i64 (szE n 512)) ∧ w' = w := sized_any A n c 512 w
theorem sized_32 (A : Option Addr) (n c : Nat) (w : World) : Calls Try.prog 61 #[.slice A n c, .int .i64 32] w fun e w' => e = .returned (.int .i64 (szE n 32)) ∧ w' = w := sized_any A n c 32 w
/-- bytes behind a Load -/
def lB (B bs : List Nat) : List Nat := if szE bs.length 512 = 0 then bs else B
set_option maxRecDepth 100000 in
set_option maxHeartbeats 1000000 in
theorem Load_any (g : Nat) (B bs : List Nat) (p : Int) (A : Option Addr) (n c : Nat) (F : Nat → Prop) (w : World) (hC : Cd w g B p) (hA : Arr w F A n (fun i => bV (bs.getD i 0))) (hl : bs.length = n) (hb : ∀ x ∈ bs, x < 256) :
    Calls Try.prog 31 #[.pointer (some ⟨g, 0, none⟩), .slice A n c] w fun e w' => e = .returned (.int .i64 (szE n 512)) ∧ Cd w' g (lB B bs) p ∧ Chg (· = g) w w' := by
  have HA := Lib.hid hA; clear hA
  have HC := Lib.hid hC; clear hC
  have Hl := Lib.hid hl; clear hl
  have Hb := Lib.hid hb; clear hb
  have hs := slice_all g
  go_enter Try.func31, Try.ntmps31
  go_wp2_with fail
  with_reducible refine (sized_512 A n c w).mono ?_
  rintro e w1 ⟨rfl, hw⟩
  obtain rfl : w = w1 := hw.symm
  clear hw
  rcases Decidable.em (szE n 512 = 0) with h | h
  · obtain rfl := szE_zero h
    rw [szE_same]
    clear h
    go_wp2_with (first | (refine wpList_copy_has rfl _ _ rfl g 0 512 512 rfl A 512 c rfl 92 _ HC.out.has F _ HA.out (fun _ _ => rfl) (by rw [cd_len HC.out.len]; omega) ?_; intro w2 hH hG; have HH := Lib.hid hH; have HG := Lib.hid hG; clear hH hG) | go_in)
    go_ret
    have hH := HH.out
    rw [show Nat.min 512 512 = 512 from rfl, bs_range _ _ Hl.out] at hH
    have hk := HC.out.laid (off := 0) Hb.out (by rw [Hl.out]; omega) hH
    have e1 : lB B bs = splice B 0 bs := by
      unfold lB splice
      rw [Hl.out, szE_same, if_pos rfl, List.drop_of_length_le (by rw [HC.out.len]; omega)]
      simp
    rw [e1]
    exact ⟨rfl, hk, HG.out⟩
  · have t0 : (szE n 512 == 0) = false := by simpa using h
    have E : Hid (lB B bs = B) := by unfold lB; rw [Hl.out, if_neg h]; rfl
    clear h
    obtain ⟨x, hx⟩ : ∃ x, x = szE n 512 := ⟨_, rfl⟩
    rw [← hx] at t0 ⊢
    have Hx := Lib.hid hx; clear hx
    go_wp2_with fail
    go_ret
    rw [E.out, ← Hx.out]
    exact ⟨rfl, HC.out, Chg.refl _ _⟩
/-- what a Write says -/
def wE (i : Int) (n : Nat) (p : Int) : Int := if 0 ≤ i ∧ i < 16 then (if szE n 32 = 0 then (if p = 0 then 30 else 0) else szE n 32) else 2
/-- bytes behind a Write -/
def wB (B bs : List Nat) (i p : Int) : List Nat := if wE i bs.length p = 0 then splice B (32 * i.toNat) bs else B
/-- power behind a Write -/
def wP (n : Nat) (i p : Int) : Int := if wE i n p = 0 then spent p else p
set_option maxRecDepth 100000 in
set_option maxHeartbeats 1000000 in
theorem Write_any (g : Nat) (i : Int) (B bs : List Nat) (p : Int) (A : Option Addr) (n c : Nat) (F : Nat → Prop) (w : World) (hC : Cd w g B p) (hA : Arr w F A n (fun i => bV (bs.getD i 0))) (hF : ∀ k, F k → k ≠ g ∧ k < w.heap.size) (hl : bs.length = n) (hb : ∀ x ∈ bs, x < 256) :
    Calls Try.prog 71 #[.pointer (some ⟨g, 0, none⟩), .int .i64 i, .slice A n c] w fun e w' => e = .returned (.int .i64 (wE i n p)) ∧ Cd w' g (wB B bs i p) (wP n i p) ∧ Chg (· = g) w w' := by
  have HA := Lib.hid hA; clear hA
  have HC := Lib.hid hC; clear hC
  have Hl := Lib.hid hl; clear hl
  have Hb := Lib.hid hb; clear hb
  have HF := Lib.hid hF; clear hF
  go_enter Try.func71, Try.ntmps71
  go_wp2_with fail
  with_reducible refine (exists_any i w).mono ?_
  rintro e w1 ⟨rfl, hw⟩
  obtain rfl : w = w1 := hw.symm
  clear hw
  rcases Decidable.em (0 ≤ i ∧ i < 16) with hi | hi
  · rw [show decide (0 ≤ i ∧ i < 16) = true by simpa using hi]
    obtain ⟨j, rfl⟩ : ∃ j : Nat, i = (j : Int) := ⟨i.toNat, by omega⟩
    have hj : j < 16 := by omega
    go_wp2_with fail
    with_reducible refine (sized_32 A n c w).mono ?_
    rintro e w1 ⟨rfl, hw⟩
    obtain rfl : w = w1 := hw.symm
    clear hw
    rcases Decidable.em (szE n 32 = 0) with h | h
    · obtain rfl := szE_zero h
      rw [szE_same]
      clear h
      go_wp2_with fail
      with_reducible refine (spend_any g B p w HC.out).mono ?_
      rintro e w1 ⟨rfl, hC1, hG1⟩
      have HC1 := Lib.hid hC1; clear hC1
      have HG1 := Lib.hid hG1; clear hG1
      rcases Decidable.em (p = 0) with rfl | hp
      · go_wp2_with fail
        go_ret
        have e0 : wE (j : Int) 32 0 = 30 := by unfold wE; rw [if_pos hi, szE_same, if_pos rfl, if_pos rfl]
        have e1 : wB B bs (j : Int) 0 = B := by unfold wB; rw [Hl.out, e0, if_neg (by decide)]
        have e2 : wP 32 (j : Int) 0 = 0 := by unfold wP; rw [e0, if_neg (by decide)]
        rw [e0, e1, e2]
        exact ⟨rfl, HC1.out, HG1.out⟩
      · rw [show decide (p ≠ 0) = true by simpa using hp]
        have e0 : wE (j : Int) 32 p = 0 := by unfold wE; rw [if_pos hi, szE_same, if_pos rfl, if_neg hp]
        have e1 : wB B bs (j : Int) p = splice B (32 * j) bs := by unfold wB; rw [Hl.out, e0, if_pos rfl]; simp
        have e2 : wP 32 (j : Int) p = spent p := by unfold wP; rw [e0, if_pos rfl]
        have E : Hid (wE (j : Int) 32 p = 0 ∧ wB B bs (j : Int) p = splice B (32 * j) bs ∧ wP 32 (j : Int) p = spent p) := ⟨e0, e1, e2⟩
        clear e0 e1 e2 hp
        have HA1 := Lib.hid (HA.out.chg HG1.out fun k hk => ⟨(HF.out k hk).2, (HF.out k hk).1⟩)
        go_wp2_with fail
        with_reducible refine (at_any g j w1 hj).mono ?_
        rintro e w2 ⟨rfl, hw⟩
        obtain rfl : w1 = w2 := hw.symm
        clear hw
        go_wp2_with (first | (refine wpList_copy_has rfl _ _ rfl g (32 * j) 32 _ rfl A 32 c rfl 92 _ HC1.out.has F _ HA1.out (fun _ _ => rfl) (by rw [cd_len HC1.out.len]; omega) ?_; intro w2 hH hG; have HH := Lib.hid hH; have HG := Lib.hid hG; clear hH hG) | go_in)
        go_ret
        have hH := HH.out
        rw [show Nat.min 32 32 = 32 from rfl, bs_range _ _ Hl.out] at hH
        have hk := HC1.out.laid (off := 32 * j) Hb.out (by rw [Hl.out]; omega) hH
        rw [E.out.1, E.out.2.1, E.out.2.2]
        exact ⟨rfl, hk, HG1.out.trans HG.out fun _ _ h => h⟩
    · have t0 : (szE n 32 == 0) = false := by simpa using h
      have e0 : wE (j : Int) n p = szE n 32 := by unfold wE; rw [if_pos hi, if_neg h]
      have e1 : wB B bs (j : Int) p = B := by unfold wB; rw [Hl.out, e0, if_neg h]
      have e2 : wP n (j : Int) p = p := by unfold wP; rw [e0, if_neg h]
      have E : Hid (wE (j : Int) n p = szE n 32 ∧ wB B bs (j : Int) p = B ∧ wP n (j : Int) p = p) := ⟨e0, e1, e2⟩
      clear e0 e1 e2 h
      obtain ⟨x, hx⟩ : ∃ x, x = szE n 32 := ⟨_, rfl⟩
      rw [← hx] at t0 ⊢
      have Hx := Lib.hid hx; clear hx
      go_wp2_with fail
      go_ret
      rw [E.out.1, E.out.2.1, E.out.2.2, ← Hx.out]
      exact ⟨rfl, HC.out, Chg.refl _ _⟩
  · rw [show decide (0 ≤ i ∧ i < 16) = false by simpa using hi]
    have e0 : wE i n p = 2 := by unfold wE; rw [if_neg hi]
    have e1 : wB B bs i p = B := by unfold wB; rw [Hl.out, e0, if_neg (by decide)]
    have e2 : wP n i p = p := by unfold wP; rw [e0, if_neg (by decide)]
    have E : Hid (wE i n p = 2 ∧ wB B bs i p = B ∧ wP n i p = p) := ⟨e0, e1, e2⟩
    clear e0 e1 e2 hi
    go_wp2_with fail
    go_ret
    rw [E.out.1, E.out.2.1, E.out.2.2]
    exact ⟨rfl, HC.out, Chg.refl _ _⟩

end Go.Proofs.Ytjkpijinpfimiaa
