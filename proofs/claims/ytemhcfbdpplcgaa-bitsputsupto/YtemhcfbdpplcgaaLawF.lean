/-
  Lists of fields that came in, opened, where they are of bounded bulk.
-/
import Derived.Test.YtemhcfbdpplcgaaRefB
import Derived.Test.YtemhcfbdpplcgaaOpen
namespace Go.Proofs.Ytemhcfbdpplcgaa
open Go.ChangeShapes Go.WideShapes Go.ChangeAt Go.RowKit
theorem Try.cells27 : Try.prog.cellsOf 27 = 1 := by kernel_rfl
theorem i64_top {n : Int} (h : (Lit.int .i64 n).wf = true) : n ≤ 9223372036854775807 := by
  have : -9223372036854775808 ≤ n ∧ n ≤ 9223372036854775807 := by simpa [Lit.wf, IntKind.min, IntKind.max, IntKind.signed, IntKind.bits] using h
  exact this.2
theorem Try.infoF : (Try.prog.info? 31).map (fun i => (i.zero, i.size, i.bytes)) = some (some (.agg #[.int .i64 0, .int .i64 0]), 2, 16) := by kernel_rfl
theorem open_flds_cells {H : Type} {enc : TypeId × Value → H} {W : World} {sp : Nat → Bool} {held : Bool} {fuel : Nat} {cs : List Value} {x : DataW H × List MemPlace}
    (hf : DataW.trod enc Try.prog W 0 sp held fuel 27 cs = some x) (hb : Rows.uptoBulk x.1 ≤ 1048576) : ∃ A n c, cs = [.slice A n c] ∧ n ≤ 1048576 ∧ (A = none → n = 0 ∧ c = 0) ∧ ∃ fw fv, Flds W (· < W.heap.size) A n fw fv ∧ ∀ i, i < n → fv i ≤ 9223372036854775807 := by
  rcases Deep.open_slice_pairs Try.underlying27 Try.underlying31 Try.cells31 rfl rfl Try.cells3 Try.cells3 hf with ⟨hcs, _⟩ | ⟨a, len, cap, m, nn, V0, V1, D0, D1, P0, P1, hcs, _, hl, hm, hmm, hx, hV⟩
  · exact ⟨none, 0, 0, hcs, by omega, fun _ => ⟨rfl, rfl⟩, fun _ => 0, fun _ => 0, fun i hi => by omega, fun i hi => by omega⟩
  · have hnm : len ≤ m := by rw [hmm]; split <;> omega
    refine ⟨some a, len, cap, hcs, ?_, (by intro h; cases h), fun i => intOf (V0 i), fun i => intOf (V1 i), fun i hi => ?_, fun i hi => ?_⟩
    · subst hx
      simp only [Rows.uptoBulk] at hb
      have := bulk_len ((List.range len).map fun i => DataW.agg [D0 i, D1 i])
      simp only [List.length_map, List.length_range] at this
      omega
    · obtain ⟨h0, h1, t0, t1⟩ := hV i (by omega)
      obtain ⟨x, e0, _⟩ := DataW.trod_int Try.underlying3 t0
      obtain ⟨y, e1, _⟩ := DataW.trod_int Try.underlying3 t1
      simp only [List.cons.injEq, and_true] at e0 e1
      rw [e0] at h0
      rw [e1] at h1
      refine ⟨a, rfl, ?_, ?_, ?_⟩
      · have := World.block_lt_of_cell? _ _ h0; rwa [add_block] at this
      · simp only [e0, intOf]; exact h0
      · simp only [e1, intOf]
        have e : (a.add (i * 2)).add 1 = a.add (i * 2 + 1) := Deep.add_add a _ _
        rw [← e] at h1
        exact h1
    · obtain ⟨_, _, _, t1⟩ := hV i (by omega)
      obtain ⟨y, e1, _, wy⟩ := DataW.trod_int Try.underlying3 t1
      simp only [List.cons.injEq, and_true] at e1
      simp only [e1, intOf]
      exact i64_top wy
/-- lists of fields that came in -/
def Fldss (W : World) (A : Option Addr) (n : Nat) : Prop := ∀ i, i < n → ∃ a LA ln lc, ∃ fw fv : Nat → Int, A = some a ∧ a.block < W.heap.size ∧ ln ≤ 1048576 ∧ (LA = none → ln = 0 ∧ lc = 0) ∧ W.cell? (a.add i) = some (.slice LA ln lc) ∧ Flds W (· < W.heap.size) LA ln fw fv ∧ ∀ j, j < ln → fv j ≤ 9223372036854775807
theorem open_fldss {H : Type} {enc : TypeId × Value → H} {W : World} {sp : Nat → Bool} {held : Bool} {A : Option Addr} {n c : Nat} {d : DataW H} {p : List MemPlace}
    (h : DataW.Trod enc Try.prog W 0 sp held 22 (.slice A n c) d p) (hb : Rows.uptoBulk d ≤ 1048576) : Fldss W A n ∧ c ≤ maxLen ∧ n ≤ c := by
  obtain ⟨fuel, hf⟩ := h
  rcases Deep.open_slice1 Try.underlying22 Try.cells27 hf with ⟨hcs, _⟩ | ⟨a, len, cap, m, nn, V, D, Pl, hcs, _, hl, hm, hmm, hx, hV⟩
  · simp [Value.cells] at hcs
    obtain ⟨rfl, rfl, rfl⟩ := hcs
    exact ⟨fun i hi => by omega, by decide, by omega⟩
  · simp [Value.cells] at hcs
    obtain ⟨rfl, rfl, rfl⟩ := hcs
    have hnm : n ≤ m := by rw [hmm]; split <;> omega
    simp only [Prod.mk.injEq] at hx
    obtain ⟨rfl, _⟩ := hx
    refine ⟨fun i hi => ?_, hm, hl⟩
    obtain ⟨h0, t0⟩ := hV i (by omega)
    have hbi : Rows.uptoBulk (D i) ≤ 1048576 := by
      simp only [Rows.uptoBulk] at hb
      have := bulk_mem (d := D i) (List.mem_map.2 ⟨i, List.mem_range.2 hi, rfl⟩ : D i ∈ (List.range n).map D)
      omega
    obtain ⟨A', n', c', e0, h1, h2, fw, fv, h3, h4⟩ := open_flds_cells t0 hbi
    simp only [List.cons.injEq, and_true] at e0
    rw [e0] at h0
    refine ⟨a, A', n', c', fw, fv, rfl, ?_, h1, h2, h0, h3, h4⟩
    have := World.block_lt_of_cell? _ _ h0; rwa [add_block] at this
end Go.Proofs.Ytemhcfbdpplcgaa
