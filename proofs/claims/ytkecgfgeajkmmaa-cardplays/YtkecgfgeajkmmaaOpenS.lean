/-
  Slices of slices of bytes, and scripts of calls (a kind, a number, bytes), that came in.
-/
import Derived.Test.YtkecgfgeajkmmaaSizes
import Derived.Test.YtkecgfgeajkmmaaSeqC
namespace Go.Proofs.Ytkecgfgeajkmmaa
open Go.ChangeShapes Go.WideShapes Go.ChangeAt Go.RowKit
theorem weights_all {H : Type} {e : TypeId} {ds : List (DataW H)} {d : DataW H} (hd : d ∈ ds) {n : Nat} (hn : n ∈ d.weights Try.prog e) : n ∈ DataW.weightsAll Try.prog e ds := by
  induction ds with
  | nil => cases hd
  | cons x r ih =>
    simp only [DataW.weightsAll, List.mem_append]
    rcases List.mem_cons.1 hd with rfl | hd
    · exact Or.inl hn
    · exact Or.inr (ih hd)
theorem Try.cells28 : Try.prog.cellsOf 28 = 1 := by kernel_rfl
theorem Try.cells30 : Try.prog.cellsOf 30 = 3 := by kernel_rfl
/-- bytes at a slice's value, and their number within the reach -/
def Bz (W : World) (v : Value) (bs : List Nat) : Prop := Byts W (· < W.heap.size) v bs ∧ bs.length ≤ 140737488351232
theorem open_bz {H : Type} {enc : TypeId × Value → H} {W : World} {sp : Nat → Bool} {held : Bool} {fuel : Nat} {v : Value} {d : DataW H} {p : List MemPlace}
    (h : DataW.trod enc Try.prog W 0 sp held fuel 28 [v] = some (d, p)) (hw : ∀ n ∈ d.weights Try.prog 28, n ≤ reachBytes) : ∃ bs, Bz W v bs := by
  have hv : ∃ A n c, v = .slice A n c := by
    rcases Deep.open_slice1 Try.underlying28 Try.cells5 h with ⟨hcs, _⟩ | ⟨a, len, cap, m, nn, V, D, Pl, hcs, _⟩ <;> simp only [List.cons.injEq, and_true] at hcs <;> exact ⟨_, _, _, hcs⟩
  obtain ⟨A, n, c, rfl⟩ := hv
  obtain ⟨⟨bs, hbl, hA, h256, _, _, hnil⟩, hb⟩ := open_bytesz (d := d) (p := p) ⟨fuel, h⟩ hw
  subst hbl
  exact ⟨bs, ⟨A, c, rfl, hA, hnil, h256, by omega⟩, hb⟩
/-- a slice of slices of bytes -/
def Bytss (W : World) (A : Option Addr) (n : Nat) (L : Nat → List Nat) : Prop := ∃ V : Nat → Value, Arr W (· < W.heap.size) A n V ∧ ∀ i, i < n → Bz W (V i) (L i)
theorem open_bytess {H : Type} {enc : TypeId × Value → H} {W : World} {sp : Nat → Bool} {held : Bool} {A : Option Addr} {n c : Nat} {d : DataW H} {p : List MemPlace}
    (h : DataW.Trod enc Try.prog W 0 sp held 45 (.slice A n c) d p) (hw : ∀ n ∈ d.weights Try.prog 45, n ≤ reachBytes) : (∃ L, Bytss W A n L) ∧ n ≤ maxLen := by
  obtain ⟨fuel, hf⟩ := h
  rcases Deep.open_slice1 Try.underlying45 Try.cells28 hf with ⟨hcs, _⟩ | ⟨a, len, cap, m, nn, V, D, Pl, hcs, _, hl, hm, hmm, hx, hV⟩
  · simp [Value.cells] at hcs
    obtain ⟨rfl, rfl, rfl⟩ := hcs
    exact ⟨⟨fun _ => [], fun _ => undef, fun i hi => by omega, fun i hi => by omega⟩, by decide⟩
  · simp [Value.cells] at hcs
    obtain ⟨rfl, rfl, rfl⟩ := hcs
    have hnm : n ≤ m := by rw [hmm]; split <;> omega
    simp only [Prod.mk.injEq] at hx
    obtain ⟨rfl, _⟩ := hx
    have hrow : ∀ i, i < n → ∃ bs : List Nat, Bz W (V i) bs := by
      intro i hi
      obtain ⟨_, t0⟩ := hV i (by omega)
      refine open_bz t0 (fun k hk => hw k ?_)
      simp only [DataW.weights, Try.underlying45]
      exact List.mem_cons_of_mem _ (List.mem_append_left _ (weights_all (d := D i) (List.mem_map.2 ⟨i, List.mem_range.2 hi, rfl⟩) hk))
    obtain ⟨q, hq⟩ := Deep.choose_lt hrow
    refine ⟨⟨q, V, fun i hi => ⟨a, rfl, ?_, (hV i (by omega)).1⟩, hq⟩, by omega⟩
    have := World.block_lt_of_cell? _ _ (hV i (by omega)).1; rwa [add_block] at this
/-- one call of a script -/
def Opr (W : World) (A : Option Addr) (i : Nat) (k m : Int) (bs : List Nat) : Prop :=
  ∃ a v, A = some a ∧ a.block < W.heap.size ∧ W.cell? (a.add (i * 3)) = some (.int .i64 k) ∧ W.cell? ⟨(a.add (i * 3)).block, (a.add (i * 3)).off + 1, none⟩ = some (.int .i64 m) ∧ W.cell? ⟨(a.add (i * 3)).block, (a.add (i * 3)).off + 2, none⟩ = some v ∧ Bz W v bs ∧
    (-9223372036854775808 ≤ m ∧ m ≤ 9223372036854775807)
def Oprs (W : World) (A : Option Addr) (n : Nat) : Prop := ∀ i, i < n → ∃ k m bs, Opr W A i k m bs
theorem Try.fields30 : (Try.prog.underlying 30).map (fun u => match u with | .struct fs => fs.toList.map (fun f => (f.type, f.offset)) | _ => []) = some [(3, 0), (3, 1), (28, 2)] := by kernel_rfl
theorem three_cells {H : Type} {enc : TypeId × Value → H} {W : World} {sp : Nat → Bool} {held : Bool} {fuel : Nat} {cs : List Value} {x : DataW H × List MemPlace} (hl : cs.length = 3) (h : DataW.trod enc Try.prog W 0 sp held fuel 30 cs = some x) :
    ∃ v0 v1 v2 d0 d1 d2 p0 p1 p2 k, cs = [v0, v1, v2] ∧ x.1 = .agg [d0, d1, d2] ∧ DataW.trod enc Try.prog W 0 sp held k 3 [v0] = some (d0, p0) ∧ DataW.trod enc Try.prog W 0 sp held k 3 [v1] = some (d1, p1) ∧ DataW.trod enc Try.prog W 0 sp held k 28 [v2] = some (d2, p2) ∧
      x.1.weights Try.prog 30 = d0.weights Try.prog 3 ++ (d1.weights Try.prog 3 ++ (d2.weights Try.prog 28 ++ [])) := by
  have hf41 := Try.fields30
  obtain ⟨u, hu, hfs⟩ := Option.map_eq_some_iff.1 hf41
  cases u with
  | struct fs =>
    obtain ⟨xs, k, hk, hxy, _, hxl, hf⟩ := DataW.trod_struct hu h
    obtain ⟨fs⟩ := fs
    match fs, hfs with
    | [f0, f1, f2], hfs =>
      simp only [List.map_cons, List.map_nil, List.cons.injEq, Prod.mk.injEq, and_true] at hfs
      obtain ⟨⟨t0, o0⟩, ⟨t1, o1⟩, t2, o2⟩ := hfs
      match xs, hxl, cs, hl with
      | [y0, y1, y2], _, [v0, v1, v2], _ =>
        have g0 := hf 0 f0 rfl
        have g1 := hf 1 f1 rfl
        have g2 := hf 2 f2 rfl
        simp [o0, o1, o2, t0, t1, t2, Try.cells3, Try.cells28] at g0 g1 g2
        subst hxy
        refine ⟨v0, v1, v2, y0.1, y1.1, y2.1, y0.2, y1.2, y2.2, k, rfl, rfl, g0, g1, g2, ?_⟩
        simp only [List.map_cons, List.map_nil, DataW.weights, hu, DataW.weightsEach, t0, t1, t2]
  | _ => simp at hfs
theorem add_far (p : Addr) (j : Nat) : p.add j = ⟨p.block, p.off + j, none⟩ ∨ j = 0 := by
  rcases Nat.eq_zero_or_pos j with h | h
  · exact Or.inr h
  · left; unfold Addr.add; rw [if_neg (by omega)]
theorem one_op {H : Type} {enc : TypeId × Value → H} {W : World} {sp : Nat → Bool} {held : Bool} {a : Addr} {i fuel : Nat} {cs : List Value} {x : DataW H × List MemPlace}
    (hc : W.cells? 0 (a.add (i * 3)) 3 = some cs) (h : DataW.trod enc Try.prog W 0 sp held fuel 30 cs = some x) (hw : ∀ n ∈ x.1.weights Try.prog 30, n ≤ reachBytes) :
    ∃ k m bs, Opr W (some a) i k m bs := by
  obtain ⟨_, hlen, hcell⟩ := World.cells?_some hc
  obtain ⟨v0, v1, v2, d0, d1, d2, p0, p1, p2, k, rfl, hx1, h0, h1, h2, hwe⟩ := three_cells hlen h
  obtain ⟨t, e0, _, wt⟩ := DataW.trod_int Try.underlying3 h0
  simp only [List.cons.injEq, and_true] at e0
  subst e0
  obtain ⟨m, e0, _, wm⟩ := DataW.trod_int Try.underlying3 h1
  simp only [List.cons.injEq, and_true] at e0
  subst e0
  obtain ⟨bs, hb⟩ := open_bz h2 (fun n hn => hw n (by rw [hwe]; simp [hn]))
  have e0 := hcell 0 (by omega)
  have e1 := hcell 1 (by omega)
  have e2 := hcell 2 (by omega)
  have hblk : a.block < W.heap.size := by
    have := World.block_lt_of_cell? _ _ (u := Value.int .i64 t) (by simpa using e0)
    rwa [add_block, add_block] at this
  have hadd := fun j => add_far (a.add (i * 3)) j
  refine ⟨t, m, bs, a, v2, rfl, hblk, ?_, ?_, ?_, hb, i64_wf wm⟩
  · simpa [Addr.add] using e0
  · rcases hadd 1 with h | h
    · rw [h] at e1; simpa using e1
    · cases h
  · rcases hadd 2 with h | h
    · rw [h] at e2; simpa using e2
    · cases h
theorem open_ops {H : Type} {enc : TypeId × Value → H} {W : World} {sp : Nat → Bool} {held : Bool} {A : Option Addr} {n c : Nat} {d : DataW H} {p : List MemPlace}
    (h : DataW.Trod enc Try.prog W 0 sp held 22 (.slice A n c) d p) (hw : ∀ n ∈ d.weights Try.prog 22, n ≤ reachBytes) : Oprs W A n ∧ n ≤ maxLen := by
  obtain ⟨fuel, hf⟩ := h
  rcases Deep.open_slice Try.underlying22 hf with ⟨hcs, _⟩ | ⟨a, len, cap, m, nn, D, Pl, hcs, _, hl, hm, hmm, hx, hV⟩
  · simp [Value.cells] at hcs
    obtain ⟨rfl, rfl, rfl⟩ := hcs
    exact ⟨fun i hi => by omega, by decide⟩
  · simp [Value.cells] at hcs
    obtain ⟨rfl, rfl, rfl⟩ := hcs
    simp only [Prod.mk.injEq] at hx
    obtain ⟨rfl, _⟩ := hx
    have hlm : n ≤ m := by rw [hmm]; split <;> omega
    refine ⟨fun i hi => ?_, by omega⟩
    obtain ⟨cs', h1, h2⟩ := hV i (by omega)
    rw [Try.cells30] at h1
    have hmem : D i ∈ (List.range n).map D := List.mem_map.2 ⟨i, List.mem_range.2 hi, rfl⟩
    refine one_op h1 h2 (fun k hk => hw k ?_)
    simp only [DataW.weights, Try.underlying22]
    exact List.mem_cons_of_mem _ (List.mem_append_left _ (weights_all hmem hk))
end Go.Proofs.Ytkecgfgeajkmmaa
