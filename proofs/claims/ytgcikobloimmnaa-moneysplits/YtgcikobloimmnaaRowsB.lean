/-
  Rows of bools given by a function of the place; the document's look for the greatest rest among those that got none.
-/
import Derived.Test.YtgcikobloimmnaaRowsI
namespace Go.Proofs.Ytgcikobloimmnaa
open Go.RowKit
theorem Try.info4 : (Try.prog.info? 4).map (fun i => (i.zero, i.size, i.bytes)) = some (some (.bool false), 1, 1) := by kernel_rfl
def brow (n : Nat) (f : Nat → Bool) : List Value := (List.range n).map (fun i => Value.bool (f i))
def upB (f : Nat → Bool) (i : Nat) : Nat → Bool := fun j => if j = i then true else f j
theorem brow_len (n : Nat) (f : Nat → Bool) : (brow n f).length = n := by simp [brow]
theorem brow_get {n i : Nat} (f : Nat → Bool) (h : i < n) : (brow n f)[i]? = some (.bool (f i)) := by simp [brow, h]
theorem brow_set (n : Nat) (f : Nat → Bool) (i : Nat) : (brow n f).set i (.bool true) = brow n (upB f i) := by
  apply List.ext_getElem?
  intro j
  rcases Nat.lt_or_ge j n with hj | hj
  · rw [brow_get _ hj]
    by_cases h : j = i
    · subst h
      rw [List.getElem?_set_self (by rw [brow_len]; exact hj)]
      simp [upB]
    · rw [List.getElem?_set_ne (by omega), brow_get _ hj]
      simp [upB, h]
  · rw [List.getElem?_eq_none (by rw [List.length_set, brow_len]; exact hj), List.getElem?_eq_none (by rw [brow_len]; exact hj)]
theorem brow_made (n : Nat) : (madeCells #[Value.bool false] n).toList = brow n (fun _ => false) := by
  refine (toList_madeCells_one _ _).trans ?_
  apply List.ext_getElem?
  intro j
  rcases Nat.lt_or_ge j n with hj | hj
  · rw [brow_get _ hj]; simp [hj]
  · rw [List.getElem?_eq_none (by simp; omega), List.getElem?_eq_none (by rw [brow_len]; exact hj)]
theorem brow_cell {w : World} {base g n c i : Nat} {f : Nat → Bool} (h : w.ownsRow base 4 1 (.slice (some ⟨g, 0, none⟩) n c) n (brow n f)) (hi : i < n) : w.cell? ⟨g, i, none⟩ = some (.bool (f i)) := by
  rw [h.cellAt i (by omega), brow_get _ hi]
theorem brow_put {w : World} {base g n c : Nat} {f : Nat → Bool} (h : w.ownsRow base 4 1 (.slice (some ⟨g, 0, none⟩) n c) n (brow n f)) (i : Nat) : (w.setCell ⟨g, i, none⟩ (.bool true)).ownsRow base 4 1 (.slice (some ⟨g, 0, none⟩) n c) n (brow n (upB f i)) := by
  rw [← brow_set]; exact own_put h i _
theorem brow_far {w : World} {base g n c : Nat} {f : Nat → Bool} {p : Addr} (h : w.ownsRow base 4 1 (.slice (some ⟨g, 0, none⟩) n c) n (brow n f)) (hp : g ≠ p.block) (u : Value) : (w.setCell p u).ownsRow base 4 1 (.slice (some ⟨g, 0, none⟩) n c) n (brow n f) :=
  own_chg (S := fun k => k = p.block) h (Chg.setCell (S := fun k => k = p.block) (Chg.refl _ _) (fun _ => rfl) u) fun k hk => by
    simp only [Value.ownBlock, Option.some.injEq] at hk
    subst hk; exact hp
/-- the greatest of the first i that got none: -1 while there is none -/
def Bst (M : Nat → Bool) (R : Nat → Int) (i : Nat) (b : Int) : Prop := (b = -1 ∧ ∀ j, j < i → M j = true) ∨ ∃ c : Nat, b = c ∧ c < i ∧ M c = false ∧ c = best R i
section
variable {M : Nat → Bool} {R r : Nat → Int} {n i : Nat}
theorem Bst.skip {b : Int} (hR : ∀ j, j < n → R j = if M j = true then -1 else r j) (hr : ∀ j, j < n → 0 ≤ r j) (hi : i < n) (h : Bst M R i b) (hM : M i = true) : Bst M R (i + 1) b := by
  rcases h with ⟨rfl, h⟩ | ⟨c, rfl, hc, hMc, he⟩
  · refine Or.inl ⟨rfl, fun j hj => ?_⟩
    by_cases hji : j = i
    · subst hji; exact hM
    · exact h j (by omega)
  · refine Or.inr ⟨c, rfl, by omega, hMc, ?_⟩
    rw [best, ← he, if_neg]
    rw [hR c (by omega), hR i hi, hM, hMc]
    have := hr c (by omega)
    simp; omega
theorem Bst.first (hR : ∀ j, j < n → R j = if M j = true then -1 else r j) (hr : ∀ j, j < n → 0 ≤ r j) (hi : i < n) (h : ∀ j, j < i → M j = true) (hM : M i = false) : Bst M R (i + 1) i := by
  refine Or.inr ⟨i, rfl, by omega, hM, ?_⟩
  rcases Nat.eq_zero_or_pos i with rfl | h0
  · simp [best]
  · have hb := best_lt R i h0
    rw [best, if_pos]
    rw [hR _ (by omega : best R i < n), hR i hi, h _ hb, hM]
    have := hr i hi
    simp; omega
theorem Bst.more {c : Nat} (hR : ∀ j, j < n → R j = if M j = true then -1 else r j) (hi : i < n) (hc : c < i) (hMc : M c = false) (he : c = best R i) (hM : M i = false) (hlt : r c < r i) : Bst M R (i + 1) i := by
  refine Or.inr ⟨i, rfl, by omega, hM, ?_⟩
  rw [best, ← he, if_pos]
  rw [hR c (by omega), hR i hi, hM, hMc]
  simpa using hlt
theorem Bst.stay {c : Nat} (hR : ∀ j, j < n → R j = if M j = true then -1 else r j) (hi : i < n) (hc : c < i) (hMc : M c = false) (he : c = best R i) (hM : M i = false) (hlt : ¬ r c < r i) : Bst M R (i + 1) c := by
  refine Or.inr ⟨c, rfl, by omega, hMc, ?_⟩
  rw [best, ← he, if_neg]
  rw [hR c (by omega), hR i hi, hM, hMc]
  simpa using hlt
end
end Go.Proofs.Ytgcikobloimmnaa
