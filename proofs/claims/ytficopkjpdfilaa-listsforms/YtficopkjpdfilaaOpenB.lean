/-
  Slices of slices of bytes that came in.
-/
import Derived.Test.YtficopkjpdfilaaSizes
import Derived.Test.YtficopkjpdfilaaSeqC
namespace Go.Proofs.Ytficopkjpdfilaa
open Go.ChangeShapes Go.WideShapes Go.ChangeAt Go.RowKit
theorem weights_all {H : Type} {e : TypeId} {ds : List (DataW H)} {d : DataW H} (hd : d ∈ ds) {n : Nat} (hn : n ∈ d.weights Try.prog e) : n ∈ DataW.weightsAll Try.prog e ds := by
  induction ds with
  | nil => cases hd
  | cons x r ih =>
    simp only [DataW.weightsAll, List.mem_append]
    rcases List.mem_cons.1 hd with rfl | hd
    · exact Or.inl hn
    · exact Or.inr (ih hd)
theorem Try.cells56 : Try.prog.cellsOf 56 = 1 := by kernel_rfl
/-- bytes at a slice's value, and their number within the reach -/
def Bz (W : World) (v : Value) (bs : List Nat) : Prop := Byts W (· < W.heap.size) v bs ∧ bs.length ≤ 140737488351232
theorem open_bz {H : Type} {enc : TypeId × Value → H} {W : World} {sp : Nat → Bool} {held : Bool} {fuel : Nat} {v : Value} {d : DataW H} {p : List MemPlace}
    (h : DataW.trod enc Try.prog W 0 sp held fuel 56 [v] = some (d, p)) (hw : ∀ n ∈ d.weights Try.prog 56, n ≤ reachBytes) : ∃ bs, Bz W v bs := by
  have hv : ∃ A n c, v = .slice A n c := by
    rcases Deep.open_slice1 Try.underlying56 Try.cells5 h with ⟨hcs, _⟩ | ⟨a, len, cap, m, nn, V, D, Pl, hcs, _⟩ <;> simp only [List.cons.injEq, and_true] at hcs <;> exact ⟨_, _, _, hcs⟩
  obtain ⟨A, n, c, rfl⟩ := hv
  obtain ⟨⟨bs, hbl, hA, h256, _, _, hnil⟩, hb⟩ := open_bytesz (d := d) (p := p) ⟨fuel, h⟩ hw
  subst hbl
  exact ⟨bs, ⟨A, c, rfl, hA, hnil, h256, by omega⟩, hb⟩
/-- a slice of slices of bytes -/
def Bytss (W : World) (A : Option Addr) (n : Nat) (L : Nat → List Nat) : Prop := ∃ V : Nat → Value, Arr W (· < W.heap.size) A n V ∧ ∀ i, i < n → Bz W (V i) (L i)
/-- one row of slices of bytes, in a later world -/
theorem Bytss.get {W : World} {A : Option Addr} {n : Nat} {L : Nat → List Nat} (h : Bytss W A n L) (i : Nat) (hi : i < n) : ∃ a LA ln lc, A = some a ∧ a.block < W.heap.size ∧ (L i).length = ln ∧ (∀ x ∈ L i, x < 256) ∧
    (∀ wx, New W wx → wx.cell? (a.add i) = some (.slice LA ln lc) ∧ Arr wx (· < W.heap.size) LA ln (fun j => bV ((L i).getD j 0))) := by
  obtain ⟨V, h1, h2⟩ := h
  obtain ⟨a, rfl, hb, hc⟩ := h1 i hi
  obtain ⟨⟨LA, lc, hv, hA, _, hs, _⟩, _⟩ := h2 i hi
  refine ⟨a, LA, _, lc, rfl, hb, rfl, hs, fun wx hx => ⟨?_, hA.new hx (fun k hk => hk)⟩⟩
  rw [← hv]
  exact (hx.cell (by rw [add_block]; exact hb) (fun f => f)).trans hc
theorem add_far (p : Addr) (j : Nat) : p.add j = ⟨p.block, p.off + j, none⟩ ∨ j = 0 := by
  rcases Nat.eq_zero_or_pos j with h | h
  · exact Or.inr h
  · left; unfold Addr.add; rw [if_neg (by omega)]
end Go.Proofs.Ytficopkjpdfilaa
