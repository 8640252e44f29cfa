/-
  Items, deltas, asks and numbers that came in.
-/
import Derived.Test.YtficopkjpdfilaaLiB
import Derived.Test.YtficopkjpdfilaaOpenB
import Derived.Lib.SmallJoins
namespace Go.Proofs.Ytficopkjpdfilaa
open Go.ChangeShapes Go.WideShapes Go.ChangeAt Go.RowKit Go.Joins
set_option maxRecDepth 100000 in
theorem Try.cellsI3 : Try.prog.cellsOf 3 = 1 := by kernel_rfl
set_option maxRecDepth 100000 in
theorem Try.bytesI3 : Try.prog.bytesOf 3 = 8 := by kernel_rfl
/-- numbers that came in -/
def Nums (W : World) (A : Option Addr) (n c : Nat) (xs : List Int) : Prop := xs.length = n ∧ Arr W (· < W.heap.size) A n (fun i => iV (xs.getD i 0)) ∧ (A = none → n = 0 ∧ c = 0) ∧ n ≤ 17592186043904
set_option maxRecDepth 100000 in
theorem open_numsI {H : Type} {enc : TypeId × Value → H} {W : World} {sp : Nat → Bool} {held : Bool} {fuel : Nat} {v : Value} {d : DataW H} {p : List MemPlace}
    (hf : DataW.trod enc Try.prog W 0 sp held fuel 67 [v] = some (d, p)) (hw : ∀ n ∈ d.weights Try.prog 67, n ≤ reachBytes) : ∃ A n c xs, v = .slice A n c ∧ Nums W A n c xs := by
  rcases Deep.open_slice1 Try.underlying67 Try.cellsI3 hf with ⟨hcs, _⟩ | ⟨a, n, c, m, nn, V, D, Pl, hcs, _, hl, hm, hmm, hd, hx⟩
  · simp only [List.cons.injEq, and_true] at hcs
    exact ⟨none, 0, 0, [], hcs, rfl, fun i hi => by omega, fun _ => ⟨rfl, rfl⟩, by omega⟩
  · simp only [List.cons.injEq, and_true] at hcs
    have hnm : n ≤ m := by rw [hmm]; split <;> omega
    have hv : ∀ i, i < n → ∃ x : Int, W.cell? (a.add i) = some (iV x) := by
      intro i hi
      obtain ⟨h0, t0⟩ := hx i (by omega)
      obtain ⟨x, e0, _, wx⟩ := DataW.trod_int Try.underlying3 t0
      simp only [List.cons.injEq, and_true] at e0
      exact ⟨x, by rw [h0, e0]; rfl⟩
    obtain ⟨q, hq⟩ := Deep.choose_lt hv
    refine ⟨some a, n, c, (List.range n).map q, hcs, by simp, fun i hi => ⟨a, rfl, ?_, ?_⟩, (fun h => by cases h), ?_⟩
    · have := World.block_lt_of_cell? _ _ (hq i hi); rwa [add_block] at this
    · rw [hq i hi]; simp [hi]
    · simp only [Prod.mk.injEq] at hd
      obtain ⟨rfl, _⟩ := hd
      have := hw ((((List.range n).map D).length + ((List.range (m - n)).map fun j => D (n + j)).length) * Try.prog.bytesOf 3) (by simp only [DataW.weights, Try.underlying67]; exact List.mem_cons_self ..)
      rw [Try.bytesI3] at this
      simp only [List.length_map, List.length_range, reachBytes] at this
      omega
instance : Inhabited It := ⟨itz⟩
set_option maxRecDepth 100000 in
theorem Try.cellsIt : Try.prog.cellsOf 44 = 5 := by kernel_rfl
set_option maxRecDepth 100000 in
theorem Try.bytesIt : Try.prog.bytesOf 44 = 40 := by kernel_rfl
set_option maxRecDepth 100000 in
theorem Try.cellsIs : Try.prog.cellsOf 26 = 1 := by kernel_rfl
set_option maxRecDepth 100000 in
theorem Try.cellsDe : Try.prog.cellsOf 37 = 3 := by kernel_rfl
set_option maxRecDepth 100000 in
theorem Try.cellsAs : Try.prog.cellsOf 48 = 4 := by kernel_rfl
set_option maxRecDepth 100000 in
theorem five_item {H : Type} {enc : TypeId × Value → H} {W : World} {sp : Nat → Bool} {held : Bool} {fuel : Nat} {cs : List Value} {x : DataW H × List MemPlace} (hl : cs.length = 5) (h : DataW.trod enc Try.prog W 0 sp held fuel 44 cs = some x) :
    ∃ k : It, cs = [.int .i64 k.c, .int .i64 k.o, .int .i64 k.i, .int .i64 k.n, .int .i64 k.a] := by
  obtain ⟨xs, k, hk, hxy, _, hxl, hf⟩ := DataW.trod_struct Try.underlying44 h
  match xs, hxl, cs, hl with
  | [y0, y1, y2, y3, y4], _, [v0, v1, v2, v3, v4], _ =>
    have g0 := hf 0 _ rfl
    have g1 := hf 1 _ rfl
    have g2 := hf 2 _ rfl
    have g3 := hf 3 _ rfl
    have g4 := hf 4 _ rfl
    simp [Try.cells3] at g0 g1 g2 g3 g4
    obtain ⟨c, e0, _, _⟩ := DataW.trod_int Try.underlying3 g0
    obtain ⟨o, e1, _, _⟩ := DataW.trod_int Try.underlying3 g1
    obtain ⟨i, e2, _, _⟩ := DataW.trod_int Try.underlying3 g2
    obtain ⟨n, e3, _, _⟩ := DataW.trod_int Try.underlying3 g3
    obtain ⟨a, e4, _, _⟩ := DataW.trod_int Try.underlying3 g4
    simp only [List.cons.injEq, and_true] at e0 e1 e2 e3 e4
    exact ⟨⟨c, o, i, n, a⟩, by rw [e0, e1, e2, e3, e4]⟩
/-- items that came in -/
def ItsN (W : World) (A : Option Addr) (n c : Nat) (xs : List It) : Prop := xs.length = n ∧ Its W (· < W.heap.size) A xs ∧ (A = none → n = 0 ∧ c = 0) ∧ n ≤ 3518437208780
set_option maxRecDepth 100000 in
theorem open_items {H : Type} {enc : TypeId × Value → H} {W : World} {sp : Nat → Bool} {held : Bool} {fuel : Nat} {v : Value} {d : DataW H} {p : List MemPlace}
    (hf : DataW.trod enc Try.prog W 0 sp held fuel 26 [v] = some (d, p)) (hw : ∀ n ∈ d.weights Try.prog 26, n ≤ reachBytes) : ∃ A n c xs, v = .slice A n c ∧ ItsN W A n c xs := by
  rcases Deep.open_slice Try.underlying26 hf with ⟨hcs, _⟩ | ⟨a, n, cap, m, nn, D, Pl, hcs, _, hl, hm, hmm, hx, hV⟩
  · simp only [List.cons.injEq, and_true] at hcs
    exact ⟨none, 0, 0, [], hcs, rfl, Its.empty, fun _ => ⟨rfl, rfl⟩, by omega⟩
  · simp only [List.cons.injEq, and_true] at hcs
    simp only [Prod.mk.injEq] at hx
    obtain ⟨rfl, _⟩ := hx
    have hlm : n ≤ m := by rw [hmm]; split <;> omega
    have hp : ∀ i, i < n → ∃ k, ItAt W (· < W.heap.size) (some a) i k := fun i hi => by
      obtain ⟨cs', h1, h2⟩ := hV i (by omega)
      rw [Try.cellsIt] at h1
      obtain ⟨_, hlen, hcell⟩ := World.cells?_some h1
      obtain ⟨y, rfl⟩ := five_item hlen h2
      have e0 := hcell 0 (by omega)
      have hblk : a.block < W.heap.size := by
        have := World.block_lt_of_cell? _ _ (u := Value.int .i64 y.c) (by simpa using e0)
        rwa [add_block, add_block] at this
      have hc : ∀ t, 0 < t → t < 5 → W.cell? ⟨(a.add (i * 5)).block, (a.add (i * 5)).off + t, none⟩ = [Value.int .i64 y.c, .int .i64 y.o, .int .i64 y.i, .int .i64 y.n, .int .i64 y.a][t]? := by
        intro t ht ht7
        have e := hcell t (by omega)
        have hadd : (a.add (i * 5)).add t = ⟨(a.add (i * 5)).block, (a.add (i * 5)).off + t, none⟩ := by
          generalize a.add (i * 5) = p
          unfold Addr.add
          rw [if_neg (by omega)]
        rw [hadd] at e
        rw [e]
      exact ⟨y, a, rfl, hblk, by simpa [Addr.add] using e0, hc 1 (by omega) (by omega), hc 2 (by omega) (by omega), hc 3 (by omega) (by omega), hc 4 (by omega) (by omega)⟩
    obtain ⟨q, hq⟩ := Deep.choose_lt hp
    refine ⟨some a, n, cap, (List.range n).map q, hcs, by simp, fun j x hj => ?_, (fun h => by cases h), ?_⟩
    · obtain ⟨h1, h2⟩ := map_range_get hj
      rw [← h2]
      exact hq j h1
    · have := hw ((((List.range n).map D).length + ((List.range (m - n)).map fun j => D (n + j)).length) * Try.prog.bytesOf 44) (by simp only [DataW.weights, Try.underlying26]; exact List.mem_cons_self ..)
      rw [Try.bytesIt] at this
      simp only [List.length_map, List.length_range, reachBytes] at this
      omega
/-- a delta -/
structure De where
  to_ : Int
  add : List It
  off : List It
instance : Inhabited De := ⟨⟨0, [], []⟩⟩
/-- a delta's value: its two slices -/
def DeV (W : World) (v : Value) (d : De) : Prop := ∃ B m ca D p co, v = .agg #[.int .i64 d.to_, .slice B m ca, .slice D p co] ∧ ItsN W B m ca d.add ∧ ItsN W D p co d.off
set_option maxRecDepth 100000 in
theorem open_delta {H : Type} {enc : TypeId × Value → H} {W : World} {sp : Nat → Bool} {held : Bool} {r : Reach} {b0 : Nat} {v : Value} {d : DataW H} {p : List MemPlace}
    (hv : Value.okWide Try.prog W r b0 37 v) (h : DataW.Trod enc Try.prog W 0 sp held 37 v d p) (hw : ∀ n ∈ d.weights Try.prog 37, n ≤ reachBytes) :
    ∃ (tv : Int) (B : Option Addr) (m ca : Nat) (D : Option Addr) (p co : Nat) (add off : List It), v = .agg #[.int .i64 tv, .slice B m ca, .slice D p co] ∧ ItsN W B m ca add ∧ ItsN W D p co off := by
  obtain ⟨v0, v1, v2, y0, y1, y2, n, rfl, rfl, rfl, t0, t1, t2⟩ := open_agg3 Try.underlying37 (by kernel_rfl) Try.cellsDe hv h
  obtain ⟨x, e0, _, _⟩ := DataW.trod_int Try.underlying3 t0
  simp only [List.cons.injEq, and_true] at e0
  subst e0
  obtain ⟨B, m, ca, add, rfl, hB⟩ := open_items (v := v1) (d := y1.1) (p := y1.2) t1 (fun k hk => hw k (by simp only [DataW.weights, Try.underlying37]; simp [DataW.weightsEach, hk]))
  obtain ⟨D, q, co, off, rfl, hD⟩ := open_items (v := v2) (d := y2.1) (p := y2.2) t2 (fun k hk => hw k (by simp only [DataW.weights, Try.underlying37]; simp [DataW.weightsEach, hk]))
  exact ⟨x, B, m, ca, D, q, co, add, off, rfl, hB, hD⟩
/-- the i-th delta of a slice -/
def DelAt (W : World) (A : Option Addr) (i : Nat) (d : De) : Prop :=
  ∃ a B m ca D p co, A = some a ∧ a.block < W.heap.size ∧ W.cell? (a.add (i * 3)) = some (.int .i64 d.to_) ∧ W.cell? ⟨(a.add (i * 3)).block, (a.add (i * 3)).off + 1, none⟩ = some (.slice B m ca) ∧ W.cell? ⟨(a.add (i * 3)).block, (a.add (i * 3)).off + 2, none⟩ = some (.slice D p co) ∧ ItsN W B m ca d.add ∧ ItsN W D p co d.off
def Dels (W : World) (A : Option Addr) (n : Nat) (f : Nat → De) : Prop := ∀ i, i < n → DelAt W A i (f i)
set_option maxRecDepth 100000 in
theorem Try.fieldsDe : (Try.prog.underlying 37).map (fun u => match u with | .struct fs => fs.toList.map (fun f => (f.type, f.offset)) | _ => []) = some [(3, 0), (26, 1), (26, 2)] := by kernel_rfl
set_option maxRecDepth 100000 in
theorem three_delta {H : Type} {enc : TypeId × Value → H} {W : World} {sp : Nat → Bool} {held : Bool} {fuel : Nat} {cs : List Value} {x : DataW H × List MemPlace} (hl : cs.length = 3) (h : DataW.trod enc Try.prog W 0 sp held fuel 37 cs = some x) :
    ∃ v0 v1 v2 d0 d1 d2 p0 p1 p2 k, cs = [v0, v1, v2] ∧ x.1 = .agg [d0, d1, d2] ∧ DataW.trod enc Try.prog W 0 sp held k 3 [v0] = some (d0, p0) ∧ DataW.trod enc Try.prog W 0 sp held k 26 [v1] = some (d1, p1) ∧ DataW.trod enc Try.prog W 0 sp held k 26 [v2] = some (d2, p2) ∧
      x.1.weights Try.prog 37 = d0.weights Try.prog 3 ++ (d1.weights Try.prog 26 ++ (d2.weights Try.prog 26 ++ [])) := by
  have hf41 := Try.fieldsDe
  obtain ⟨u, hu, hfs⟩ := Option.map_eq_some_iff.1 hf41
  cases u with
  | struct fs =>
    obtain ⟨xs, k, hk, hxy, _, hxl, hf⟩ := DataW.trod_struct hu h
    obtain ⟨fs⟩ := fs
    match fs, hfs with
    | [f0, f1, f2], hfs =>
      simp only [List.map_cons, List.map_nil, List.cons.injEq, Prod.mk.injEq, and_true] at hfs
      obtain ⟨⟨t0, o0⟩, ⟨t1, o1⟩, t2, o2⟩ := hfs
      match xs, hxl, cs, hl with
      | [y0, y1, y2], _, [v0, v1, v2], _ =>
        have g0 := hf 0 f0 rfl
        have g1 := hf 1 f1 rfl
        have g2 := hf 2 f2 rfl
        simp [o0, o1, o2, t0, t1, t2, Try.cells3, Try.cellsIs] at g0 g1 g2
        subst hxy
        refine ⟨v0, v1, v2, y0.1, y1.1, y2.1, y0.2, y1.2, y2.2, k, rfl, rfl, g0, g1, g2, ?_⟩
        simp only [List.map_cons, List.map_nil, DataW.weights, hu, DataW.weightsEach, t0, t1, t2]
  | _ => simp at hfs
set_option maxRecDepth 100000 in
theorem one_delta {H : Type} {enc : TypeId × Value → H} {W : World} {sp : Nat → Bool} {held : Bool} {a : Addr} {i fuel : Nat} {cs : List Value} {x : DataW H × List MemPlace}
    (hc : W.cells? 0 (a.add (i * 3)) 3 = some cs) (h : DataW.trod enc Try.prog W 0 sp held fuel 37 cs = some x) (hw : ∀ n ∈ x.1.weights Try.prog 37, n ≤ reachBytes) :
    ∃ d, DelAt W (some a) i d := by
  obtain ⟨_, hlen, hcell⟩ := World.cells?_some hc
  obtain ⟨v0, v1, v2, d0, d1, d2, p0, p1, p2, k, rfl, hx1, h0, h1, h2, hwe⟩ := three_delta hlen h
  obtain ⟨t, e0, _, wt⟩ := DataW.trod_int Try.underlying3 h0
  simp only [List.cons.injEq, and_true] at e0
  subst e0
  obtain ⟨B, m, ca, add, rfl, hB⟩ := open_items h1 (fun n hn => hw n (by rw [hwe]; simp [hn]))
  obtain ⟨D, p, co, off, rfl, hD⟩ := open_items h2 (fun n hn => hw n (by rw [hwe]; simp [hn]))
  have e0 := hcell 0 (by omega)
  have e1 := hcell 1 (by omega)
  have e2 := hcell 2 (by omega)
  have hblk : a.block < W.heap.size := by
    have := World.block_lt_of_cell? _ _ (u := Value.int .i64 t) (by simpa using e0)
    rwa [add_block, add_block] at this
  have hadd := fun j => add_far (a.add (i * 3)) j
  refine ⟨⟨t, add, off⟩, a, B, m, ca, D, p, co, rfl, hblk, ?_, ?_, ?_, hB, hD⟩
  · simpa [Addr.add] using e0
  · rcases hadd 1 with h | h
    · rw [h] at e1; simpa using e1
    · cases h
  · rcases hadd 2 with h | h
    · rw [h] at e2; simpa using e2
    · cases h
set_option maxRecDepth 100000 in
theorem open_deltas {H : Type} {enc : TypeId × Value → H} {W : World} {sp : Nat → Bool} {held : Bool} {A : Option Addr} {n c : Nat} {d : DataW H} {p : List MemPlace}
    (h : DataW.Trod enc Try.prog W 0 sp held 22 (.slice A n c) d p) (hw : ∀ n ∈ d.weights Try.prog 22, n ≤ reachBytes) : (∃ f, Dels W A n f) ∧ n ≤ 1000000000000000000 := by
  obtain ⟨fuel, hf⟩ := h
  rcases Deep.open_slice Try.underlying22 hf with ⟨hcs, _⟩ | ⟨a, len, cap, m, nn, D, Pl, hcs, _, hl, hm, hmm, hx, hV⟩
  · simp [Value.cells] at hcs
    obtain ⟨rfl, rfl, rfl⟩ := hcs
    exact ⟨⟨fun _ => ⟨0, [], []⟩, fun i hi => by omega⟩, by decide⟩
  · simp [Value.cells] at hcs
    obtain ⟨rfl, rfl, rfl⟩ := hcs
    simp only [Prod.mk.injEq] at hx
    obtain ⟨rfl, _⟩ := hx
    have hlm : n ≤ m := by rw [hmm]; split <;> omega
    have hp : ∀ i, i < n → ∃ d, DelAt W (some a) i d := fun i hi => by
      obtain ⟨cs', h1, h2⟩ := hV i (by omega)
      rw [Try.cellsDe] at h1
      have hmem : D i ∈ (List.range n).map D := List.mem_map.2 ⟨i, List.mem_range.2 hi, rfl⟩
      refine one_delta h1 h2 (fun k hk => hw k ?_)
      simp only [DataW.weights, Try.underlying22]
      exact List.mem_cons_of_mem _ (List.mem_append_left _ (weights_all hmem hk))
    obtain ⟨q, hq⟩ := Deep.choose_lt hp
    refine ⟨⟨q, hq⟩, ?_⟩
    have := hw ((((List.range n).map D).length + ((List.range (m - n)).map fun j => D (n + j)).length) * Try.prog.bytesOf 37) (by simp only [DataW.weights, Try.underlying22]; exact List.mem_cons_self ..)
    rw [show Try.prog.bytesOf 37 = 56 by kernel_rfl] at this
    simp only [List.length_map, List.length_range, reachBytes] at this
    omega
set_option maxRecDepth 100000 in
/-- an ask: card, owner, product, last action -/
theorem open_ask {H : Type} {enc : TypeId × Value → H} {W : World} {sp : Nat → Bool} {held : Bool} {r : Reach} {b0 : Nat} {v : Value} {d : DataW H} {p : List MemPlace}
    (hv : Value.okWide Try.prog W r b0 48 v) (h : DataW.Trod enc Try.prog W 0 sp held 48 v d p) : ∃ q0 q1 q2 q3 : Int, v = .agg #[.int .i64 q0, .int .i64 q1, .int .i64 q2, .int .i64 q3] ∧ (-9223372036854775808 ≤ q3 ∧ q3 ≤ 9223372036854775807) := by
  obtain ⟨v0, v1, v2, v3, y0, y1, y2, y3, n, rfl, _, _, t0, t1, t2, t3⟩ := open_agg4 Try.underlying48 (by kernel_rfl) Try.cellsAs hv h
  obtain ⟨x, e0, _, wx⟩ := DataW.trod_int Try.underlying3 t0
  obtain ⟨y, e1, _, wy⟩ := DataW.trod_int Try.underlying3 t1
  obtain ⟨z, e2, _, wz⟩ := DataW.trod_int Try.underlying3 t2
  obtain ⟨u, e3, _, wu⟩ := DataW.trod_int Try.underlying3 t3
  simp only [List.cons.injEq, and_true] at e0 e1 e2 e3
  subst e0 e1 e2 e3
  exact ⟨x, y, z, u, rfl, i64_wf wu⟩
end Go.Proofs.Ytficopkjpdfilaa
