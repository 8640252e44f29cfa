/-
  A slice of fields that came in, opened.
-/
import Derived.Test.YtemhcfbdpplcgaaLawA
import Derived.ProofKit
import Derived.OpenShut
import Derived.ShutString
import Derived.ChangeOld
import Derived.Below
import Derived.Deep.SlicePairs
namespace Go.Proofs.Ytemhcfbdpplcgaa
open Go.ChangeShapes Go.WideShapes Go.ChangeAt Go.RowKit
set_option linter.unusedVariables false

theorem Try.own : ownKnob Try.prog.godebug = none := by kernel_rfl
theorem Try.laidOut : laidOutB Try.prog = true := by kernel_rfl
theorem Try.cells3 : Try.prog.cellsOf 3 = 1 := by kernel_rfl

/-- a slice of fields that came in -/
theorem open_flds {H : Type} {enc : TypeId × Value → H} {W : World} {sp : Nat → Bool} {held : Bool} {A : Option Addr} {n c : Nat} {d : DataW H} {p : List MemPlace}
    (h : DataW.Trod enc Try.prog W 0 sp held 27 (.slice A n c) d p) : ∃ fw fv, Flds W (· < W.heap.size) A n fw fv ∧ n ≤ c ∧ c ≤ maxLen ∧ (A = none → n = 0 ∧ c = 0) := by
  obtain ⟨fuel, hf⟩ := h
  rcases Deep.open_slice_pairs Try.underlying27 Try.underlying31 Try.cells31 rfl rfl Try.cells3 Try.cells3 hf with ⟨hcs, _⟩ | ⟨a, len, cap, m, nn, V0, V1, D0, D1, P0, P1, hcs, _, hl, hm, hmm, _, hx⟩
  · simp [Value.cells] at hcs
    obtain ⟨rfl, rfl, rfl⟩ := hcs
    exact ⟨fun _ => 0, fun _ => 0, fun i hi => by omega, by omega, by decide, fun _ => ⟨rfl, rfl⟩⟩
  · simp [Value.cells] at hcs
    obtain ⟨rfl, rfl, rfl⟩ := hcs
    have hnm : n ≤ m := by rw [hmm]; split <;> omega
    refine ⟨fun i => intOf (V0 i), fun i => intOf (V1 i), fun i hi => ?_, hl, hm, fun h => by cases h⟩
    obtain ⟨h0, h1, t0, t1⟩ := hx i (by omega)
    obtain ⟨x, e0, _⟩ := DataW.trod_int Try.underlying3 t0
    obtain ⟨y, e1, _⟩ := DataW.trod_int Try.underlying3 t1
    simp only [List.cons.injEq, and_true] at e0 e1
    rw [e0] at h0
    rw [e1] at h1
    refine ⟨a, rfl, ?_, ?_, ?_⟩
    · have := World.block_lt_of_cell? _ _ h0; rwa [add_block] at this
    · simp only [e0, intOf]; exact h0
    · simp only [e1, intOf]
      have e : (a.add (i * 2)).add 1 = a.add (i * 2 + 1) := Deep.add_add a _ _
      rw [← e] at h1
      exact h1
end Go.Proofs.Ytemhcfbdpplcgaa
