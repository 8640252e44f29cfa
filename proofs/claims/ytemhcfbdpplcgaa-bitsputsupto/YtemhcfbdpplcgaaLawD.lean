/-
  Lists of ints that came in, opened, within the form's own reach.
-/
import Derived.Test.YtemhcfbdpplcgaaRef
import Derived.SizedLaws
namespace Go.Proofs.Ytemhcfbdpplcgaa
open Go.ChangeShapes Go.WideShapes Go.ChangeAt Go.RowKit
theorem Try.cells42 : Try.prog.cellsOf 42 = 1 := by kernel_rfl
theorem Try.bytes3 : Try.prog.bytesOf 3 = 8 := by kernel_rfl
theorem weights_elem {H : Type} {P : Program} {e : TypeId} : ∀ {ds : List (DataW H)} {d : DataW H}, d ∈ ds → ∀ n ∈ d.weights P e, n ∈ DataW.weightsAll P e ds
  | d0 :: ds, d, hd, n, hn => by
    simp only [DataW.weightsAll, List.mem_append]
    rcases List.mem_cons.1 hd with rfl | hd
    · exact Or.inl hn
    · exact Or.inr (weights_elem hd n hn)
/-- a slice of ints, its length within the reach -/
theorem open_row {H : Type} {enc : TypeId × Value → H} {W : World} {sp : Nat → Bool} {held : Bool} {fuel : Nat} {cs : List Value} {x : DataW H × List MemPlace}
    (h : DataW.trod enc Try.prog W 0 sp held fuel 42 cs = some x) (hw : ∀ n ∈ x.1.weights Try.prog 42, n ≤ reachBytes) :
    ∃ A n c, cs = [.slice A n c] ∧ n ≤ 17592186043904 ∧ (A = none → n = 0 ∧ c = 0) ∧ n ≤ c ∧ ∃ f : Nat → Int, Arr W (· < W.heap.size) A n (fun i => .int .i64 (f i)) := by
  rcases Deep.open_slice1 Try.underlying42 Try.cells3 h with ⟨hcs, _⟩ | ⟨a, len, cap, m, nn, V, D, Pl, hcs, _, hl, hm, hmm, hx, hV⟩
  · exact ⟨none, 0, 0, hcs, by omega, fun _ => ⟨rfl, rfl⟩, by omega, fun _ => 0, fun i hi => by omega⟩
  · have hnm : len ≤ m := by rw [hmm]; split <;> omega
    refine ⟨some a, len, cap, hcs, ?_, (by intro h; cases h), hl, fun i => intOf (V i), fun i hi => ⟨a, rfl, ?_, ?_⟩⟩
    · subst hx
      have := hw ((((List.range len).map D).length + ((List.range (m - len)).map fun j => D (len + j)).length) * Try.prog.bytesOf 3) (by simp only [DataW.weights, Try.underlying42]; exact List.mem_cons_self ..)
      rw [Try.bytes3] at this
      simp only [List.length_map, List.length_range, reachBytes] at this
      omega
    · have := World.block_lt_of_cell? _ _ (hV i (by omega)).1; rwa [add_block] at this
    · obtain ⟨h0, t0⟩ := hV i (by omega)
      obtain ⟨x, e0, _⟩ := DataW.trod_int Try.underlying3 t0
      simp only [List.cons.injEq, and_true] at e0
      rw [h0]; simp only [e0, intOf]
/-- lists of ints that came in -/
def Intss (W : World) (A : Option Addr) (n : Nat) : Prop := ∃ (LA : Nat → Option Addr) (ln lc : Nat → Nat) (f : Nat → Nat → Int), Arr W (· < W.heap.size) A n (fun i => .slice (LA i) (ln i) (lc i)) ∧
  ∀ i, i < n → ln i ≤ 17592186043904 ∧ (LA i = none → ln i = 0 ∧ lc i = 0) ∧ Arr W (· < W.heap.size) (LA i) (ln i) (fun j => .int .i64 (f i j))
theorem open_intss {H : Type} {enc : TypeId × Value → H} {W : World} {sp : Nat → Bool} {held : Bool} {A : Option Addr} {n c : Nat} {d : DataW H} {p : List MemPlace}
    (h : DataW.Trod enc Try.prog W 0 sp held 38 (.slice A n c) d p) (hw : ∀ n ∈ d.weights Try.prog 38, n ≤ reachBytes) : Intss W A n ∧ c ≤ maxLen ∧ n ≤ c := by
  obtain ⟨fuel, hf⟩ := h
  rcases Deep.open_slice1 Try.underlying38 Try.cells42 hf with ⟨hcs, _⟩ | ⟨a, len, cap, m, nn, V, D, Pl, hcs, _, hl, hm, hmm, hx, hV⟩
  · simp [Value.cells] at hcs
    obtain ⟨rfl, rfl, rfl⟩ := hcs
    exact ⟨⟨fun _ => none, fun _ => 0, fun _ => 0, fun _ _ => 0, fun i hi => by omega, fun i hi => by omega⟩, by decide, by omega⟩
  · simp [Value.cells] at hcs
    obtain ⟨rfl, rfl, rfl⟩ := hcs
    have hnm : n ≤ m := by rw [hmm]; split <;> omega
    simp only [Prod.mk.injEq] at hx
    obtain ⟨rfl, _⟩ := hx
    have hrow : ∀ i, i < n → ∃ q : (Option Addr × Nat × Nat) × (Nat → Int), V i = .slice q.1.1 q.1.2.1 q.1.2.2 ∧ q.1.2.1 ≤ 17592186043904 ∧ (q.1.1 = none → q.1.2.1 = 0 ∧ q.1.2.2 = 0) ∧ Arr W (· < W.heap.size) q.1.1 q.1.2.1 (fun j => .int .i64 (q.2 j)) := by
      intro i hi
      obtain ⟨_, t0⟩ := hV i (by omega)
      obtain ⟨A', n', c', e0, h1, h2, _, f, h3⟩ := open_row t0 (fun k hk => hw k (by
        simp only [DataW.weights, Try.underlying38]
        refine List.mem_cons_of_mem _ (List.mem_append_left _ (weights_elem (d := D i) ?_ k hk))
        exact List.mem_map.2 ⟨i, List.mem_range.2 hi, rfl⟩))
      simp only [List.cons.injEq, and_true] at e0
      exact ⟨((A', n', c'), f), e0, h1, h2, h3⟩
    obtain ⟨q, hq⟩ := Deep.choose_lt hrow
    refine ⟨⟨fun i => (q i).1.1, fun i => (q i).1.2.1, fun i => (q i).1.2.2, fun i => (q i).2, fun i hi => ⟨a, rfl, ?_, ?_⟩, fun i hi => (hq i hi).2⟩, hm, hl⟩
    · have := World.block_lt_of_cell? _ _ (hV i (by omega)).1; rwa [add_block] at this
    · rw [(hV i (by omega)).1, (hq i hi).1]
/-- the nested list's facts in a later world -/
theorem Intss.at_ {W : World} {A : Option Addr} {n : Nat} (h : Intss W A n) (i : Nat) (hi : i < n) : ∃ a LA ln lc, ∃ f : Nat → Int, A = some a ∧ a.block < W.heap.size ∧ ln ≤ 17592186043904 ∧ (LA = none → ln = 0 ∧ lc = 0) ∧
    (∀ wx, New W wx → wx.cell? (a.add i) = some (.slice LA ln lc) ∧ Arr wx (· < W.heap.size) LA ln (fun j => .int .i64 (f j))) := by
  obtain ⟨LA, ln, lc, f, h1, h2⟩ := h
  obtain ⟨a, rfl, hb, hc⟩ := h1 i hi
  obtain ⟨h3, h4, h5⟩ := h2 i hi
  refine ⟨a, LA i, ln i, lc i, f i, rfl, hb, h3, h4, fun wx hx => ⟨?_, h5.new hx (fun k hk => hk)⟩⟩
  exact (hx.cell (by rw [add_block]; exact hb) (fun f => f)).trans hc
end Go.Proofs.Ytemhcfbdpplcgaa
