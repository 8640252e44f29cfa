/-
  What is given out is numbered once (plain mathematics); keys compared.
-/
import Derived.Test.YtoifcaogcphfhaaOrS
namespace Go.Proofs.Ytoifcaogcphfhaa
open Go.ChangeShapes Go.WideShapes Go.ChangeAt Go.RowKit Go.Joins
set_option maxRecDepth 100000 in
theorem eqKey (a b c d a' b' c' d' : Int) (w : World) : (binOp .eql 32 (.agg #[.int .i64 a, .int .i64 b, .int .i64 c, .int .i64 d]) (.agg #[.int .i64 a', .int .i64 b', .int .i64 c', .int .i64 d'])).run Try.prog w = .ok (.bool (a == a' && (b == b' && (c == c' && d == d')))) w := by
  go_simp
  by_cases h0 : a = a' <;> by_cases h1 : b = b' <;> by_cases h2 : c = c' <;> by_cases h3 : d = d' <;> simp [h0, h1, h2, h3]
theorem mem_mint (M : List Sl) (x : Sl) : x ∈ mintL M x := by
  unfold mintL
  split
  · assumption
  · simp
theorem mem_mint_other {M : List Sl} {x y : Sl} (h : y ≠ x) : y ∈ mintL M x ↔ y ∈ M := by
  unfold mintL
  split
  · rfl
  · simp [h]
theorem atN_mint (M : List Sl) (x : Sl) : atN (mintL M x) x = mintN M x := by
  unfold mintN mintL
  by_cases h : x ∈ M
  · rw [if_pos h, if_pos h]
  · rw [if_neg h, if_neg h, atN, if_pos (by simp), List.idxOf_append, if_neg h]
    simp
theorem atN_mint_other {M : List Sl} {x y : Sl} (h : y ∈ M) : atN (mintL M x) y = atN M y := by
  unfold mintL
  split
  · rfl
  · rw [atN, atN, if_pos h, if_pos (List.mem_append_left _ h), List.idxOf_append, if_pos h]
theorem atN_inj {M : List Sl} {x y : Sl} (hx : x ∈ M) (hy : y ∈ M) (h : atN M x = atN M y) : x = y := by
  rw [atN, atN, if_pos hx, if_pos hy] at h
  have hi : M.idxOf x = M.idxOf y := by omega
  have h1 := List.getElem_idxOf (List.idxOf_lt_length_of_mem hx)
  have h2 := List.getElem_idxOf (List.idxOf_lt_length_of_mem hy)
  rw [← h1, ← h2]
  congr 1
theorem atN_pos {M : List Sl} {x : Sl} (hx : x ∈ M) : 1 ≤ atN M x ∧ atN M x ≤ M.length := by
  rw [atN, if_pos hx]
  have := List.idxOf_lt_length_of_mem hx
  omega
theorem mintN_le (M : List Sl) (x : Sl) : 1 ≤ mintN M x ∧ mintN M x ≤ M.length + 1 := by
  unfold mintN
  split
  · have := atN_pos ‹x ∈ M›; omega
  · omega
theorem mintL_len (M : List Sl) (x : Sl) : (mintL M x).length ≤ M.length + 1 := by
  unfold mintL
  split
  · omega
  · simp
theorem holds_minted (M : List Sl) (x : Sl) : holdsB (mintL M x) x (mintN M x : Nat) = true := by
  simp [holdsB, mem_mint, atN_mint]
/-- the one that is asked for came -/
theorem holds_same (M : List Sl) (x : Sl) (t : Int) : holdsB (mintL M x) x t = (holdsB M x t || ((mintN M x : Int) == t)) := by
  unfold holdsB
  rw [decide_eq_true (mem_mint M x), atN_mint, Bool.true_and]
  by_cases h : x ∈ M
  · have : mintN M x = atN M x := if_pos h
    rw [decide_eq_true h, this]
    simp
  · rw [decide_eq_false h]
    simp
/-- another one came -/
theorem holds_other {M : List Sl} {x y : Sl} (h : y ≠ x) (t : Int) : holdsB (mintL M x) y t = holdsB M y t := by
  unfold holdsB
  by_cases hy : y ∈ M
  · rw [decide_eq_true ((mem_mint_other h).2 hy), decide_eq_true hy, atN_mint_other hy]
  · rw [decide_eq_false (fun k => hy ((mem_mint_other h).1 k)), decide_eq_false hy]
    simp
theorem holds_not {M : List Sl} {x y : Sl} (h : y ≠ x) : holdsB (mintL M x) y (mintN M x : Nat) = false := by
  unfold holdsB
  by_cases hy : y ∈ mintL M x
  · rw [decide_eq_true hy, Bool.true_and, beq_eq_false_iff_ne]
    intro e
    rw [← atN_mint] at e
    exact h (atN_inj hy (mem_mint M x) (by omega))
  · rw [decide_eq_false hy]
    simp
theorem mint_ok {M : List Sl} {x : Sl} (h : ∀ y ∈ M, SlOk y) (hx : SlOk x) : ∀ y ∈ mintL M x, SlOk y := by
  unfold mintL
  split
  · exact h
  · intro y hy
    rcases List.mem_append.1 hy with hy | hy
    · exact h y hy
    · rw [List.mem_singleton] at hy; rw [hy]; exact hx
/-- keys and bytes compared, part by part -/
theorem sl_same (x y : Cl) : ((x.k0 == y.k0 && (x.k1 == y.k1 && (x.k2 == y.k2 && x.k3 == y.k3))) && decide (bstr x.L.flatten = bstr y.L.flatten)) = decide (x.sl = y.sl) := by
  unfold Cl.sl
  rw [Bool.eq_iff_iff]
  simp
  constructor
  · rintro ⟨⟨h0, h1, h2, h3⟩, h4⟩; exact ⟨h0, h1, h2, h3, h4⟩
  · rintro ⟨h0, h1, h2, h3, h4⟩; exact ⟨⟨h0, h1, h2, h3⟩, h4⟩
end Go.Proofs.Ytoifcaogcphfhaa
