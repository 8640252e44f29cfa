/-
  Bytes that came in, their number within the reach.
-/
import Derived.Test.YtficopkjpdfilaaSeq
namespace Go.Proofs.Ytficopkjpdfilaa
open Go.ChangeShapes Go.WideShapes Go.ChangeAt Go.RowKit
theorem Try.bytes5 : Try.prog.bytesOf 5 = 1 := by kernel_rfl
/-- bytes that came in, their number within the reach -/
theorem open_bytesz {H : Type} {enc : TypeId × Value → H} {W : World} {sp : Nat → Bool} {held : Bool} {A : Option Addr} {n c : Nat} {d : DataW H} {p : List MemPlace}
    (h : DataW.Trod enc Try.prog W 0 sp held 56 (.slice A n c) d p) (hw : ∀ n ∈ d.weights Try.prog 56, n ≤ reachBytes) : (∃ bs : List Nat, bs.length = n ∧ Arr W (· < W.heap.size) A n (fun i => bV (bs.getD i 0)) ∧ (∀ x ∈ bs, x < 256) ∧ n ≤ c ∧ c ≤ maxLen ∧ (A = none → n = 0 ∧ c = 0)) ∧ n ≤ 140737488351232 := by
  refine ⟨open_bytes h, ?_⟩
  obtain ⟨fuel, hf⟩ := h
  rcases Deep.open_slice1 Try.underlying56 Try.cells5 hf with ⟨hcs, _⟩ | ⟨a, len, cap, m, nn, V, D, Pl, hcs, _, hl, hm, hmm, hx, hV⟩
  · simp [Value.cells] at hcs
    obtain ⟨rfl, rfl, rfl⟩ := hcs
    omega
  · simp [Value.cells] at hcs
    obtain ⟨rfl, rfl, rfl⟩ := hcs
    simp only [Prod.mk.injEq] at hx
    obtain ⟨rfl, _⟩ := hx
    have := hw ((((List.range n).map D).length + ((List.range (m - n)).map fun j => D (n + j)).length) * Try.prog.bytesOf 5) (by simp only [DataW.weights, Try.underlying56]; exact List.mem_cons_self ..)
    rw [Try.bytes5] at this
    simp only [List.length_map, List.length_range, reachBytes] at this
    omega
end Go.Proofs.Ytficopkjpdfilaa
