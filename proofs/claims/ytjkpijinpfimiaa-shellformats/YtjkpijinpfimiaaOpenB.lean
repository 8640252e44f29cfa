/-
  Slices of slices of bytes that came in.
-/
import Derived.Test.YtjkpijinpfimiaaSizes
import Derived.Test.YtjkpijinpfimiaaSeqC
namespace Go.Proofs.Ytjkpijinpfimiaa
open Go.ChangeShapes Go.WideShapes Go.ChangeAt Go.RowKit
theorem weights_all {H : Type} {e : TypeId} {ds : List (DataW H)} {d : DataW H} (hd : d ∈ ds) {n : Nat} (hn : n ∈ d.weights Try.prog e) : n ∈ DataW.weightsAll Try.prog e ds := by
  induction ds with
  | nil => cases hd
  | cons x r ih =>
    simp only [DataW.weightsAll, List.mem_append]
    rcases List.mem_cons.1 hd with rfl | hd
    · exact Or.inl hn
    · exact Or.inr (ih hd)
theorem Try.cells22 : Try.prog.cellsOf 22 = 1 := by kernel_rfl
/-- bytes at a slice's value, and their number within the reach -/
def Bz (W : World) (v : Value) (bs : List Nat) : Prop := Byts W (· < W.heap.size) v bs ∧ bs.length ≤ 140737488351232
theorem open_bz {H : Type} {enc : TypeId × Value → H} {W : World} {sp : Nat → Bool} {held : Bool} {fuel : Nat} {v : Value} {d : DataW H} {p : List MemPlace}
    (h : DataW.trod enc Try.prog W 0 sp held fuel 22 [v] = some (d, p)) (hw : ∀ n ∈ d.weights Try.prog 22, n ≤ reachBytes) : ∃ bs, Bz W v bs := by
  have hv : ∃ A n c, v = .slice A n c := by
    rcases Deep.open_slice1 Try.underlying22 Try.cells5 h with ⟨hcs, _⟩ | ⟨a, len, cap, m, nn, V, D, Pl, hcs, _⟩ <;> simp only [List.cons.injEq, and_true] at hcs <;> exact ⟨_, _, _, hcs⟩
  obtain ⟨A, n, c, rfl⟩ := hv
  obtain ⟨⟨bs, hbl, hA, h256, _, _, hnil⟩, hb⟩ := open_bytesz (d := d) (p := p) ⟨fuel, h⟩ hw
  subst hbl
  exact ⟨bs, ⟨A, c, rfl, hA, hnil, h256, by omega⟩, hb⟩
/-- a slice of slices of bytes -/
def Bytss (W : World) (A : Option Addr) (n : Nat) (L : Nat → List Nat) : Prop := ∃ V : Nat → Value, Arr W (· < W.heap.size) A n V ∧ ∀ i, i < n → Bz W (V i) (L i)
theorem open_bytess {H : Type} {enc : TypeId × Value → H} {W : World} {sp : Nat → Bool} {held : Bool} {A : Option Addr} {n c : Nat} {d : DataW H} {p : List MemPlace}
    (h : DataW.Trod enc Try.prog W 0 sp held 114 (.slice A n c) d p) (hw : ∀ n ∈ d.weights Try.prog 114, n ≤ reachBytes) : (∃ L, Bytss W A n L) ∧ n ≤ maxLen := by
  obtain ⟨fuel, hf⟩ := h
  rcases Deep.open_slice1 Try.underlying114 Try.cells22 hf with ⟨hcs, _⟩ | ⟨a, len, cap, m, nn, V, D, Pl, hcs, _, hl, hm, hmm, hx, hV⟩
  · simp [Value.cells] at hcs
    obtain ⟨rfl, rfl, rfl⟩ := hcs
    exact ⟨⟨fun _ => [], fun _ => undef, fun i hi => by omega, fun i hi => by omega⟩, by decide⟩
  · simp [Value.cells] at hcs
    obtain ⟨rfl, rfl, rfl⟩ := hcs
    have hnm : n ≤ m := by rw [hmm]; split <;> omega
    simp only [Prod.mk.injEq] at hx
    obtain ⟨rfl, _⟩ := hx
    have hrow : ∀ i, i < n → ∃ bs : List Nat, Bz W (V i) bs := by
      intro i hi
      obtain ⟨_, t0⟩ := hV i (by omega)
      refine open_bz t0 (fun k hk => hw k ?_)
      simp only [DataW.weights, Try.underlying114]
      exact List.mem_cons_of_mem _ (List.mem_append_left _ (weights_all (d := D i) (List.mem_map.2 ⟨i, List.mem_range.2 hi, rfl⟩) hk))
    obtain ⟨q, hq⟩ := Deep.choose_lt hrow
    refine ⟨⟨q, V, fun i hi => ⟨a, rfl, ?_, (hV i (by omega)).1⟩, hq⟩, by omega⟩
    have := World.block_lt_of_cell? _ _ (hV i (by omega)).1; rwa [add_block] at this
/-- one row of slices of bytes, in a later world -/
theorem Bytss.get {W : World} {A : Option Addr} {n : Nat} {L : Nat → List Nat} (h : Bytss W A n L) (i : Nat) (hi : i < n) : ∃ a LA ln lc, A = some a ∧ a.block < W.heap.size ∧ (L i).length = ln ∧ (∀ x ∈ L i, x < 256) ∧
    (∀ wx, New W wx → wx.cell? (a.add i) = some (.slice LA ln lc) ∧ Arr wx (· < W.heap.size) LA ln (fun j => bV ((L i).getD j 0))) := by
  obtain ⟨V, h1, h2⟩ := h
  obtain ⟨a, rfl, hb, hc⟩ := h1 i hi
  obtain ⟨⟨LA, lc, hv, hA, _, hs, _⟩, _⟩ := h2 i hi
  refine ⟨a, LA, _, lc, rfl, hb, rfl, hs, fun wx hx => ⟨?_, hA.new hx (fun k hk => hk)⟩⟩
  rw [← hv]
  exact (hx.cell (by rw [add_block]; exact hb) (fun f => f)).trans hc
theorem add_far (p : Addr) (j : Nat) : p.add j = ⟨p.block, p.off + j, none⟩ ∨ j = 0 := by
  rcases Nat.eq_zero_or_pos j with h | h
  · exact Or.inr h
  · left; unfold Addr.add; rw [if_neg (by omega)]
end Go.Proofs.Ytjkpijinpfimiaa
