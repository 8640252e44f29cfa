/-
  The number that an element of a tag holds: mathematics; bytes.Equal.
-/
import Derived.Test.YtkcokcanakljnaaIqE
import Derived.Test.YtkcokcanakljnaaNumB
import Derived.Test.YtkcokcanakljnaaTRefS
namespace Go.Proofs.Ytkcokcanakljnaa
open Go.RowKit
/-- the bytes of the first element with a tag -/
def fldB (tag : Int) : Tr → List Nat
  | .nil => []
  | .cons t b _ r => if t = tag then b else fldB tag r
/-- and what is nested in it -/
def fldS (tag : Int) : Tr → Tr
  | .nil => .nil
  | .cons t _ s r => if t = tag then s else fldS tag r
def fld (tag : Int) (T : Tr) : Nat := (intV (fldB tag T)).1
theorem fld_none {tag : Int} {T : Tr} : ∀ {k : Nat}, idx (tagIs tag) k T = -1 → fldB tag T = [] ∧ fldS tag T = .nil := by
  induction T with
  | nil => exact fun _ => ⟨rfl, rfl⟩
  | cons t b s r _ ih =>
    intro k h
    rw [idx_cons] at h
    by_cases ht : t = tag
    · rw [if_pos (by simp [tagIs, ht])] at h; omega
    · rw [if_neg (by simp [tagIs, ht])] at h
      have := ih h
      simp only [fldB, fldS, if_neg ht]
      exact this
theorem fld_some {tag : Int} {bs : List Nat} {s r : Tr} : ∀ {T0 : Tr} {k : Nat}, idx (tagIs tag) k (T0.app (.cons tag bs s r)) = ((k + T0.len : Nat) : Int) → fldB tag (T0.app (.cons tag bs s r)) = bs ∧ fldS tag (T0.app (.cons tag bs s r)) = s := by
  intro T0
  induction T0 with
  | nil => intro k _; simp [Tr.app, fldB, fldS]
  | cons t b s' r' _ ih =>
    intro k h
    simp only [Tr.app] at h ⊢
    rw [idx_cons] at h
    by_cases ht : t = tag
    · rw [if_pos (by simp [tagIs, ht])] at h; simp only [Tr.len] at h; omega
    · rw [if_neg (by simp [tagIs, ht])] at h
      simp only [fldB, fldS, if_neg ht]
      refine ih (k := k + 1) ?_
      rw [h]; simp only [Tr.len]; omega
theorem fldB_low : ∀ (l : List Int) (i : Nat) (tag : Int), tag < i → fldB tag (numT i l) = []
  | [], _, _, _ => rfl
  | n :: r, i, tag, h => by
    simp only [numT]
    split
    · exact fldB_low r (i + 1) tag (by omega)
    · simp only [fldB]
      rw [if_neg (by omega)]
      exact fldB_low r (i + 1) tag (by omega)
theorem fldB_numT : ∀ (l : List Int) (i j : Nat), fldB ((i + j : Nat) : Int) (numT i l) = be (l.getD j 0).toNat
  | [], i, j => by simp [numT, fldB, be_zero]
  | n :: r, i, 0 => by
    simp only [numT, List.getD_cons_zero, Nat.add_zero]
    split
    · next h => rw [h, fldB_low r (i + 1) i (by omega)]; exact be_zero.symm
    · simp only [fldB]; rw [if_pos trivial]
  | n :: r, i, j + 1 => by
    have ih := fldB_numT r (i + 1) j
    rw [show i + 1 + j = i + (j + 1) by omega] at ih
    simp only [numT, List.getD_cons_succ]
    split
    · exact ih
    · simp only [fldB]; rw [if_neg (by omega)]; exact ih
theorem intV_be {q : Nat} (h : q < 72057594037927936) : intV (be q) = (q, 0) := by
  have hlen : (be q).length ≤ 7 := be_len_le 7 q (by rw [show (256 : Nat) ^ 7 = 72057594037927936 by decide]; exact h)
  unfold intV
  rw [if_neg (by omega), if_neg (fun e => be_okN q 0 e rfl), val_be]
theorem fld_numT {m : List Int} (h : RightN m) (j : Nat) : ((fld ((1 + j : Nat) : Int) (numT 1 m) : Nat) : Int) = m.getD j 0 := by
  have hb := (right_bounds h).1 j
  unfold fld
  rw [fldB_numT, intV_be (by omega)]
  show (((m.getD j 0).toNat : Nat) : Int) = _
  omega
/-- the product that elements tell -/
def Pd.tell (f : Int → Int) : Pd := ⟨f 1, f 2, f 3, f 4, f 5, f 6, f 7, f 8, (f 9 != 0), f 10, f 11, f 12, f 13, (f 14 != 0)⟩
theorem tell_form {m : List Int} (h : RightN m) : Pd.tell (fun t => (fld t (numT 1 m) : Int)) = Pd.of m := by
  have e : ∀ j : Nat, ((fld ((1 + j : Nat) : Int) (numT 1 m) : Nat) : Int) = m.getD j 0 := fld_numT h
  have b8 := h.2 8 (by omega)
  have b13 := h.2 13 (by omega)
  have m8 : mosts.getD 8 0 = 1 := rfl
  have m13 : mosts.getD 13 0 = 1 := rfl
  have q8 : (m.getD 8 0 != 0) = (m.getD 8 0 == 1) := by
    rcases (show m.getD 8 0 = 0 ∨ m.getD 8 0 = 1 by omega) with h | h <;> rw [h] <;> rfl
  have q13 : (m.getD 13 0 != 0) = (m.getD 13 0 == 1) := by
    rcases (show m.getD 13 0 = 0 ∨ m.getD 13 0 = 1 by omega) with h | h <;> rw [h] <;> rfl
  unfold Pd.tell Pd.of
  have e0 := e 0
  have e1 := e 1
  have e2 := e 2
  have e3 := e 3
  have e4 := e 4
  have e5 := e 5
  have e6 := e 6
  have e7 := e 7
  have e8 := e 8
  have e9 := e 9
  have e10 := e 10
  have e11 := e 11
  have e12 := e 12
  have e13 := e 13
  simp only [Nat.reduceAdd] at e0 e1 e2 e3 e4 e5 e6 e7 e8 e9 e10 e11 e12 e13
  rw [← q8, ← q13]
  have f0 : ((fld 1 (numT 1 m) : Nat) : Int) = m.getD 0 0 := e0
  have f1 : ((fld 2 (numT 1 m) : Nat) : Int) = m.getD 1 0 := e1
  have f2 : ((fld 3 (numT 1 m) : Nat) : Int) = m.getD 2 0 := e2
  have f3 : ((fld 4 (numT 1 m) : Nat) : Int) = m.getD 3 0 := e3
  have f4 : ((fld 5 (numT 1 m) : Nat) : Int) = m.getD 4 0 := e4
  have f5 : ((fld 6 (numT 1 m) : Nat) : Int) = m.getD 5 0 := e5
  have f6 : ((fld 7 (numT 1 m) : Nat) : Int) = m.getD 6 0 := e6
  have f7 : ((fld 8 (numT 1 m) : Nat) : Int) = m.getD 7 0 := e7
  have f8 : ((fld 9 (numT 1 m) : Nat) : Int) = m.getD 8 0 := e8
  have f9 : ((fld 10 (numT 1 m) : Nat) : Int) = m.getD 9 0 := e9
  have f10 : ((fld 11 (numT 1 m) : Nat) : Int) = m.getD 10 0 := e10
  have f11 : ((fld 12 (numT 1 m) : Nat) : Int) = m.getD 11 0 := e11
  have f12 : ((fld 13 (numT 1 m) : Nat) : Int) = m.getD 12 0 := e12
  have f13 : ((fld 14 (numT 1 m) : Nat) : Int) = m.getD 13 0 := e13
  dsimp only
  rw [f0, f1, f2, f3, f4, f5, f6, f7, f8, f9, f10, f11, f12, f13]
theorem Byts.str {w : World} {F : Nat → Prop} {v : Value} {bs : List Nat} (h : Byts w F v bs) : (convert 27 9 v).run Try.prog w = .ok (.string (bstr bs)) w := by
  obtain ⟨A, c, rfl, hA, hnil, h256, _⟩ := h
  exact arr_string Try.underlying27 Try.underlying5 Try.underlying9 hA rfl h256 hnil
theorem bequal_any (A C : Option Addr) (n k c d : Nat) (F G : Nat → Prop) (bs cs : List Nat) (w : World) (hA : Byts w F (.slice A n c) bs) (hC : Byts w G (.slice C k d) cs) :
    Calls Try.prog 49 #[.slice A n c, .slice C k d] w fun e w' => e = .returned (.bool (@decide (bs = cs) (Classical.propDecidable _))) ∧ New w w' := by
  have s1 : (convert 27 9 (.slice A n c)).run Try.prog w = .ok (.string (bstr bs)) w := hA.str
  have s2 : (convert 27 9 (.slice C k d)).run Try.prog w = .ok (.string (bstr cs)) w := hC.str
  have ha := hA.len.2.2
  have hc := hC.len.2.2
  by_cases h : bs = cs
  · subst h
    have e : @decide (bs = bs) (Classical.propDecidable _) = true := @decide_eq_true _ (Classical.propDecidable _) rfl
    rw [e]
    clear e ha hc hA hC
    go_enter Try.func49, Try.ntmps49
    go_wp2_with fail
    go_ret
    exact ⟨by simp, Chg.refl _ _⟩
  · have e : @decide (bs = cs) (Classical.propDecidable _) = false := @decide_eq_false _ (Classical.propDecidable _) h
    have hne : ((bstr bs).toList == (bstr cs).toList) = false := bstr_ne ha hc h
    rw [e]
    clear e ha hc hA hC h
    go_enter Try.func49, Try.ntmps49
    go_wp2_with fail
    go_ret
    exact ⟨by simp, Chg.refl _ _⟩
end Go.Proofs.Ytkcokcanakljnaa
