/-
  Stamps that came in, opened: one by value, and a slice of them.
-/
import Derived.Test.YtcnnakidpnhecaaOpens
import Derived.Lib.SmallJoins
namespace Go.Proofs.Ytcnnakidpnhecaa
open Go.ChangeShapes Go.WideShapes Go.ChangeAt Go.RowKit Go.Joins
theorem Try.cells38 : Try.prog.cellsOf 38 = 2 := by kernel_rfl
theorem open_stamp {H : Type} {enc : TypeId × Value → H} {W : World} {sp : Nat → Bool} {held : Bool} {r : Reach} {b0 : Nat} {v : Value} {d : DataW H} {p : List MemPlace}
    (hv : Value.okWide Try.prog W r b0 38 v) (h : DataW.Trod enc Try.prog W 0 sp held 38 v d p) : ∃ x y : Int, v = .agg #[.int .i64 x, .int .i64 y] ∧ (Lit.int .i64 x).wf = true ∧ (Lit.int .i64 y).wf = true := by
  obtain ⟨v0, v1, y0, y1, n, rfl, _, _, t0, t1⟩ := open_agg2 Try.underlying38 (by kernel_rfl) Try.cells38 hv h
  obtain ⟨x, e0, _, wx⟩ := DataW.trod_int Try.underlying3 t0
  obtain ⟨y, e1, _, wy⟩ := DataW.trod_int Try.underlying3 t1
  simp only [List.cons.injEq, and_true] at e0 e1
  subst e0
  subst e1
  exact ⟨x, y, rfl, wx, wy⟩
/-- a slice of stamps that came in -/
theorem open_stamps {H : Type} {enc : TypeId × Value → H} {W : World} {sp : Nat → Bool} {held : Bool} {A : Option Addr} {n c : Nat} {d : DataW H} {p : List MemPlace}
    (h : DataW.Trod enc Try.prog W 0 sp held 35 (.slice A n c) d p) : ∃ fw fv, Flds W (· < W.heap.size) A n fw fv ∧ n ≤ c ∧ c ≤ maxLen ∧ (A = none → n = 0 ∧ c = 0) := by
  obtain ⟨fuel, hf⟩ := h
  rcases Deep.open_slice_pairs Try.underlying35 Try.underlying38 Try.cells38 rfl rfl Try.cells3 Try.cells3 hf with ⟨hcs, _⟩ | ⟨a, len, cap, m, nn, V0, V1, D0, D1, P0, P1, hcs, _, hl, hm, hmm, _, hx⟩
  · simp [Value.cells] at hcs
    obtain ⟨rfl, rfl, rfl⟩ := hcs
    exact ⟨fun _ => 0, fun _ => 0, fun i hi => by omega, by omega, by decide, fun _ => ⟨rfl, rfl⟩⟩
  · simp [Value.cells] at hcs
    obtain ⟨rfl, rfl, rfl⟩ := hcs
    have hnm : n ≤ m := by rw [hmm]; split <;> omega
    refine ⟨fun i => intOf (V0 i), fun i => intOf (V1 i), fun i hi => ?_, hl, hm, fun h => by cases h⟩
    obtain ⟨h0, h1, t0, t1⟩ := hx i (by omega)
    obtain ⟨x, e0, _⟩ := DataW.trod_int Try.underlying3 t0
    obtain ⟨y, e1, _⟩ := DataW.trod_int Try.underlying3 t1
    simp only [List.cons.injEq, and_true] at e0 e1
    rw [e0] at h0
    rw [e1] at h1
    refine ⟨a, rfl, ?_, ?_, ?_⟩
    · have := World.block_lt_of_cell? _ _ h0; rwa [add_block] at this
    · simp only [e0, intOf]; exact h0
    · simp only [e1, intOf]
      have e : (a.add (i * 2)).add 1 = a.add (i * 2 + 1) := Deep.add_add a _ _
      rw [← e] at h1
      exact h1
end Go.Proofs.Ytcnnakidpnhecaa
