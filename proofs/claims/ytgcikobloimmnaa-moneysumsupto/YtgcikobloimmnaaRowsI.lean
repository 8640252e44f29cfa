/-
  Rows of whole numbers given by a function of the place.
-/
import Derived.Test.YtgcikobloimmnaaInts
import Derived.Test.YtgcikobloimmnaaShr
namespace Go.Proofs.Ytgcikobloimmnaa
open Go.RowKit
def row (n : Nat) (f : Nat → Int) : List Value := (List.range n).map (fun i => iV (f i))
theorem row_len (n : Nat) (f : Nat → Int) : (row n f).length = n := by simp [row]
theorem row_get {n i : Nat} (f : Nat → Int) (h : i < n) : (row n f)[i]? = some (iV (f i)) := by simp [row, h]
theorem row_set (n : Nat) (f : Nat → Int) (i : Nat) (v : Int) : (row n f).set i (iV v) = row n (up f i v) := by
  apply List.ext_getElem?
  intro j
  rcases Nat.lt_or_ge j n with hj | hj
  · rw [row_get _ hj]
    by_cases h : j = i
    · subst h
      rw [List.getElem?_set_self (by rw [row_len]; exact hj), up_self]
    · rw [List.getElem?_set_ne (by omega), row_get _ hj, up_ne _ _ h]
  · rw [List.getElem?_eq_none (by rw [List.length_set, row_len]; exact hj), List.getElem?_eq_none (by rw [row_len]; exact hj)]
theorem row_congr {n : Nat} {f g : Nat → Int} (h : ∀ i, i < n → f i = g i) : row n f = row n g := by
  apply List.ext_getElem?
  intro j
  rcases Nat.lt_or_ge j n with hj | hj
  · rw [row_get _ hj, row_get _ hj, h j hj]
  · rw [List.getElem?_eq_none (by rw [row_len]; exact hj), List.getElem?_eq_none (by rw [row_len]; exact hj)]
theorem row_made (n : Nat) : (madeCells #[Value.int .i64 0] n).toList = row n (fun _ => 0) := by
  refine (toList_madeCells_one _ _).trans ?_
  apply List.ext_getElem?
  intro j
  rcases Nat.lt_or_ge j n with hj | hj
  · rw [row_get _ hj]; simp [hj, iV]
  · rw [List.getElem?_eq_none (by simp; omega), List.getElem?_eq_none (by rw [row_len]; exact hj)]
theorem row_of_list (xs : List Int) : xs.map iV = row xs.length (fun i => xs.getD i 0) := by
  apply List.ext_getElem?
  intro j
  rcases Nat.lt_or_ge j xs.length with hj | hj
  · rw [row_get _ hj]; simp [hj]
  · rw [List.getElem?_eq_none (by simp; omega), List.getElem?_eq_none (by rw [row_len]; exact hj)]
theorem row_arr {w : World} {base n c : Nat} {A : Option Addr} {f : Nat → Int} (h : w.ownsRow base 3 1 (.slice A n c) n (row n f)) : Arr w (fun k => Value.ownBlock (.slice A n c) = some k) A n (fun i => iV (f i)) := by
  intro i hi
  obtain ⟨a, ha, hb, hc⟩ := Arr.of_own h i hi
  exact ⟨a, ha, hb, by rw [hc]; simp [row, hi]⟩
theorem row_cell {w : World} {base g n c i : Nat} {f : Nat → Int} (h : w.ownsRow base 3 1 (.slice (some ⟨g, 0, none⟩) n c) n (row n f)) (hi : i < n) : w.cell? ⟨g, i, none⟩ = some (.int .i64 (f i)) := by
  rw [h.cellAt i (by omega), row_get _ hi]; rfl
theorem row_put {w : World} {base g n c : Nat} {f : Nat → Int} (h : w.ownsRow base 3 1 (.slice (some ⟨g, 0, none⟩) n c) n (row n f)) (i : Nat) (v : Int) : (w.setCell ⟨g, i, none⟩ (.int .i64 v)).ownsRow base 3 1 (.slice (some ⟨g, 0, none⟩) n c) n (row n (up f i v)) := by
  rw [← row_set]; exact own_put h i (iV v)
theorem row_far {w : World} {base g n c : Nat} {f : Nat → Int} {p : Addr} (h : w.ownsRow base 3 1 (.slice (some ⟨g, 0, none⟩) n c) n (row n f)) (hp : g ≠ p.block) (u : Value) : (w.setCell p u).ownsRow base 3 1 (.slice (some ⟨g, 0, none⟩) n c) n (row n f) :=
  own_chg (S := fun k => k = p.block) h (Chg.setCell (S := fun k => k = p.block) (Chg.refl _ _) (fun _ => rfl) u) fun k hk => by
    simp only [Value.ownBlock, Option.some.injEq] at hk
    subst hk; exact hp
end Go.Proofs.Ytgcikobloimmnaa
