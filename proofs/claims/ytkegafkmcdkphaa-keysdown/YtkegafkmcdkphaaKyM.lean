/-
  Keys, as plain mathematics: which can be, how far down they are, what is derived, what is above, which is from which.
-/
import Derived.Test.YtkegafkmcdkphaaInts
namespace Go.Proofs.Ytkegafkmcdkphaa
structure Ky where
  o : Int
  t : Int
  c : Int
  v : Int
theorem Ky.eq {k l : Ky} (h0 : k.o = l.o) (h1 : k.t = l.t) (h2 : k.c = l.c) (h3 : k.v = l.v) : k = l := by
  cases k; cases l; simp_all
def KRight (k : Ky) : Prop := (0 ≤ k.o ∧ k.o ≤ 4) ∧ (0 ≤ k.t ∧ k.t ≤ 4) ∧ (0 ≤ k.c ∧ k.c ≤ 65535) ∧ (1 ≤ k.v ∧ k.v ≤ 255) ∧ (k.o = 0 → k.t = 0) ∧ (k.t = 0 → k.c = 0)
instance (k : Ky) : Decidable (KRight k) := by unfold KRight; infer_instance
def rightB (k : Ky) : Bool := decide (KRight k)
theorem rightB_yes {k : Ky} (h : rightB k = true) : KRight k := of_decide_eq_true h
theorem rightB_no {k : Ky} (h : rightB k = false) : ¬ KRight k := of_decide_eq_false h
/-- how many of its numbers are not 0, from the root on -/
def lev (k : Ky) : Nat := if k.o = 0 then 0 else if k.t = 0 then 1 else if k.c = 0 then 2 else 3
def levI (k : Ky) : Int := if rightB k = true then (lev k : Int) else -1
theorem lev_le (k : Ky) : lev k ≤ 3 := by unfold lev; split <;> first | omega | (split <;> first | omega | (split <;> omega))
theorem lev_ways {k : Ky} (h : KRight k) : (lev k = 0 ∧ k.o = 0 ∧ k.t = 0 ∧ k.c = 0) ∨ (lev k = 1 ∧ k.o ≠ 0 ∧ k.t = 0 ∧ k.c = 0) ∨ (lev k = 2 ∧ k.o ≠ 0 ∧ k.t ≠ 0 ∧ k.c = 0) ∨ (lev k = 3 ∧ k.o ≠ 0 ∧ k.t ≠ 0 ∧ k.c ≠ 0) := by
  obtain ⟨_, _, _, _, h5, h6⟩ := h
  by_cases a0 : k.o = 0
  · exact Or.inl ⟨by simp [lev, a0], a0, h5 a0, h6 (h5 a0)⟩
  by_cases a1 : k.t = 0
  · exact Or.inr (Or.inl ⟨by simp [lev, a0, a1], a0, a1, h6 a1⟩)
  by_cases a2 : k.c = 0
  · exact Or.inr (Or.inr (Or.inl ⟨by simp [lev, a0, a1, a2], a0, a1, a2⟩))
  · exact Or.inr (Or.inr (Or.inr ⟨by simp [lev, a0, a1, a2], a0, a1, a2⟩))
theorem lev_0 {k : Ky} (h : k.o = 0) : lev k = 0 := by simp [lev, h]
theorem lev_1 {k : Ky} (h : k.o ≠ 0) (h1 : k.t = 0) : lev k = 1 := by simp [lev, h, h1]
theorem lev_2 {k : Ky} (h : k.o ≠ 0) (h1 : k.t ≠ 0) (h2 : k.c = 0) : lev k = 2 := by simp [lev, h, h1, h2]
theorem lev_3 {k : Ky} (h : k.o ≠ 0) (h1 : k.t ≠ 0) (h2 : k.c ≠ 0) : lev k = 3 := by simp [lev, h, h1, h2]
/-- its numbers as a row -/
def rowK (k : Ky) (i : Nat) : Int := if i = 0 then k.o else if i = 1 then k.t else k.c
/-- a key by its row -/
def keyR (f : Nat → Int) (v : Int) : Ky := ⟨f 0, f 1, f 2, v⟩
def kz : Ky := ⟨0, 0, 0, 0⟩
/-- the key above -/
def parR (k : Ky) : Ky := keyR (fun i => if i + 1 = lev k then 0 else rowK k i) k.v
def parE (k : Ky) : Int := if rightB k = true then (if lev k = 0 then 21 else 0) else 2
def parK (k : Ky) : Ky := if rightB k = true then (if lev k = 0 then kz else parR k) else kz
/-- the row of what is derived -/
def derR (k : Ky) (n : Nat) (p : Nat → Int) : Ky := keyR (fun i => if lev k ≤ i ∧ i < lev k + n then p (i - lev k) else rowK k i) k.v
def zeroB (n : Nat) (p : Nat → Int) : Bool := decide (∃ i, i < n ∧ p i = 0)
def derE (k : Ky) (n : Nat) (p : Nat → Int) : Int := if rightB k = true then (if 3 < lev k + n then 15 else if (rightB (derR k n p) = true ∧ lev (derR k n p) = lev k + n) then 0 else 2) else 2
def derK (k : Ky) (n : Nat) (p : Nat → Int) : Ky := if derE k n p = 0 then derR k n p else kz
/-- is it from that key? -/
def fromB (k a : Ky) : Bool := decide (KRight k ∧ KRight a ∧ lev a ≤ lev k ∧ k.v = a.v ∧ (1 ≤ lev a → k.o = a.o) ∧ (2 ≤ lev a → k.t = a.t) ∧ (3 ≤ lev a → k.c = a.c))
def eqK (k a : Ky) : Prop := k.o = a.o ∧ k.t = a.t ∧ k.c = a.c ∧ k.v = a.v
theorem eqK.eq {k a : Ky} (h : eqK k a) : k = a := Ky.eq h.1 h.2.1 h.2.2.1 h.2.2.2
theorem rowK_0 (k : Ky) : rowK k 0 = k.o := rfl
theorem rowK_1 (k : Ky) : rowK k 1 = k.t := rfl
theorem rowK_2 (k : Ky) : rowK k 2 = k.c := rfl
theorem parR_eq (k : Ky) : parR k = ⟨if lev k = 1 then 0 else k.o, if lev k = 2 then 0 else k.t, if lev k = 3 then 0 else k.c, k.v⟩ := by
  unfold parR keyR
  simp only [rowK_0, rowK_1, rowK_2, Nat.zero_add, Nat.reduceAdd, eq_comm (b := lev k)]
theorem par_right {k : Ky} (h : KRight k) (hl : lev k ≠ 0) : KRight (parR k) ∧ lev (parR k) + 1 = lev k := by
  rw [parR_eq]
  rcases lev_ways h with ⟨e, a, b, c⟩ | ⟨e, a, b, c⟩ | ⟨e, a, b, c⟩ | ⟨e, a, b, c⟩
  · omega
  · rw [e]; simp only [if_true, if_neg (show ¬ (1 : Nat) = 2 by omega), if_neg (show ¬ (1 : Nat) = 3 by omega)]
    unfold KRight at h ⊢
    exact ⟨by simp only; omega, by rw [lev_0 rfl]⟩
  · rw [e]; simp only [if_true, if_neg (show ¬ (2 : Nat) = 1 by omega), if_neg (show ¬ (2 : Nat) = 3 by omega)]
    unfold KRight at h ⊢
    exact ⟨by simp only; omega, by rw [lev_1 (k := ⟨k.o, 0, k.c, k.v⟩) a rfl]⟩
  · rw [e]; simp only [if_true, if_neg (show ¬ (3 : Nat) = 1 by omega), if_neg (show ¬ (3 : Nat) = 2 by omega)]
    unfold KRight at h ⊢
    exact ⟨by simp only; omega, by rw [lev_2 (k := ⟨k.o, k.t, 0, k.v⟩) a b rfl]⟩
def KFrom (k a : Ky) : Prop := KRight k ∧ KRight a ∧ lev a ≤ lev k ∧ k.v = a.v ∧ (1 ≤ lev a → k.o = a.o) ∧ (2 ≤ lev a → k.t = a.t) ∧ (3 ≤ lev a → k.c = a.c)
theorem fromB_iff (k a : Ky) : fromB k a = true ↔ KFrom k a := by unfold fromB KFrom; rw [decide_eq_true_eq]
theorem from_self {k : Ky} (h : KRight k) : fromB k k = true := (fromB_iff _ _).2 ⟨h, h, Nat.le_refl _, rfl, fun _ => rfl, fun _ => rfl, fun _ => rfl⟩
theorem from_same {k a : Ky} (h : KFrom k a) (hl : lev a = lev k) : eqK k a := by
  obtain ⟨h1, h2, _, h4, h5, h6, h7⟩ := h
  rcases lev_ways h1 with ⟨e, a, b, c⟩ | ⟨e, a, b, c⟩ | ⟨e, a, b, c⟩ | ⟨e, a, b, c⟩ <;> rcases lev_ways h2 with ⟨e', a', b', c'⟩ | ⟨e', a', b', c'⟩ | ⟨e', a', b', c'⟩ | ⟨e', a', b', c'⟩ <;>
    first | omega | (refine ⟨?_, ?_, ?_, h4⟩ <;> omega)
/-- one step up -/
theorem from_up {k a : Ky} (h : KRight k) (hne : ¬ eqK k a) (hl : lev k ≠ 0) : fromB k a = fromB (parR k) a := by
  obtain ⟨hp, hpl⟩ := par_right h hl
  rw [Bool.eq_iff_iff, fromB_iff, fromB_iff]
  have e := parR_eq k
  have eo : (parR k).o = if lev k = 1 then 0 else k.o := by rw [e]
  have et : (parR k).t = if lev k = 2 then 0 else k.t := by rw [e]
  have ec : (parR k).c = if lev k = 3 then 0 else k.c := by rw [e]
  have ev : (parR k).v = k.v := by rw [e]
  constructor
  · intro hk
    have hlt : lev a ≠ lev k := fun hh => hne (from_same hk hh)
    obtain ⟨_, ha, g1, g2, g3, g4, g5⟩ := hk
    refine ⟨hp, ha, by omega, ev.trans g2, fun hh => ?_, fun hh => ?_, fun hh => ?_⟩
    · rw [eo, if_neg (by omega)]; exact g3 hh
    · rw [et, if_neg (by omega)]; exact g4 hh
    · rw [ec, if_neg (by omega)]; exact g5 hh
  · rintro ⟨_, ha, g1, g2, g3, g4, g5⟩
    refine ⟨h, ha, by omega, ev.symm.trans g2, fun hh => ?_, fun hh => ?_, fun hh => ?_⟩
    · rw [← g3 hh, eo, if_neg (by omega)]
    · rw [← g4 hh, et, if_neg (by omega)]
    · rw [← g5 hh, ec, if_neg (by omega)]
/-- the root is from itself alone -/
theorem from_root {k a : Ky} (hne : ¬ eqK k a) (hl : lev k = 0) : fromB k a = false := by
  rw [Bool.eq_false_iff, ne_eq, fromB_iff]
  intro hk
  have hk1 := hk.2.2.1
  exact hne (from_same hk (by omega))
/-- how far down what is derived is, and where it leads -/
theorem derR_0 (k : Ky) (p : Nat → Int) : derR k 0 p = k := by
  unfold derR keyR rowK
  refine Ky.eq ?_ ?_ ?_ rfl <;> (simp only; rw [if_neg (by omega)]) <;> rfl
end Go.Proofs.Ytkegafkmcdkphaa
