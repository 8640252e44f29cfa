/-
  A product, and what is to be done with it, that came in.
-/
import Derived.Test.YtdaaejoglikhaaaIqM
import Derived.Lib.SmallJoins
namespace Go.Proofs.Ytdaaejoglikhaaa
open Go.ChangeShapes Go.WideShapes Go.ChangeAt Go.RowKit Go.Joins
structure Dd where
  k : Int
  a : Int
  b : Int
def dz : Dd := ⟨0, 0, 0⟩
/-- the j-th of what is to be done -/
def DdAt (w : World) (F : Nat → Prop) (A : Option Addr) (j : Nat) (e : Dd) : Prop := ∃ a, A = some a ∧ F a.block ∧ w.cell? (a.add (j * 3)) = some (.int .i64 e.k) ∧ w.cell? ⟨(a.add (j * 3)).block, (a.add (j * 3)).off + 1, none⟩ = some (.int .i64 e.a) ∧ w.cell? ⟨(a.add (j * 3)).block, (a.add (j * 3)).off + 2, none⟩ = some (.int .i64 e.b)
def Dds (w : World) (F : Nat → Prop) (A : Option Addr) (n : Nat) (f : Nat → Dd) : Prop := ∀ j, j < n → DdAt w F A j (f j)
theorem Dds.new {w w' : World} {F : Nat → Prop} {A : Option Addr} {n : Nat} {f : Nat → Dd} (h : Dds w F A n f) (c : New w w') (hF : ∀ k, F k → k < w.heap.size) : Dds w' F A n f := fun j hj => by
  obtain ⟨a, rfl, hb, h0, h1, h2⟩ := h j hj
  have hb1 : (a.add (j * 3)).block < w.heap.size := by rw [add_block]; exact hF _ hb
  exact ⟨a, rfl, hb, (c.cell hb1 (fun f => f)).trans h0, (c.cell (p := ⟨(a.add (j * 3)).block, _, none⟩) hb1 (fun f => f)).trans h1, (c.cell (p := ⟨(a.add (j * 3)).block, _, none⟩) hb1 (fun f => f)).trans h2⟩
theorem Try.cellsDo : Try.prog.cellsOf 52 = 3 := by kernel_rfl
theorem Try.cells4 : Try.prog.cellsOf 4 = 1 := by kernel_rfl
theorem Try.cellsK : Try.prog.cellsOf 22 = 1 := by kernel_rfl
theorem Try.cellsP : Try.prog.cellsOf 24 = 14 := by kernel_rfl
theorem Try.fieldsP : (Try.prog.underlying 24).map (fun u => match u with | .struct fs => fs.toList.map (fun f => (f.type, f.offset)) | _ => []) = some [(22, 0), (3, 1), (3, 2), (3, 3), (3, 4), (3, 5), (3, 6), (3, 7), (4, 8), (3, 9), (3, 10), (3, 11), (3, 12), (4, 13)] := by kernel_rfl
set_option maxRecDepth 100000 in
set_option maxHeartbeats 4000000 in
theorem open_product {H : Type} {enc : TypeId × Value → H} {W : World} {sp : Nat → Bool} {held : Bool} {r : Reach} {b0 : Nat} {v : Value} {d : DataW H} {p : List MemPlace}
    (hv : Value.okWide Try.prog W r b0 24 v) (h : DataW.Trod enc Try.prog W 0 sp held 24 v d p) : ∃ p : Pd, v = p.V := by
  obtain ⟨u, hu, hfs⟩ := Option.map_eq_some_iff.1 Try.fieldsP
  cases u with
  | struct fs =>
    obtain ⟨cs, rfl, hsz⟩ := okWide_struct hu hv
    obtain ⟨fuel, hf0⟩ := h
    obtain ⟨xs, k, hk, hxy, _, hxl, hf⟩ := DataW.trod_struct hu hf0
    obtain ⟨fs⟩ := fs
    obtain ⟨cs⟩ := cs
    have hcl : cs.length = 14 := by have := hsz.trans Try.cellsP; simpa using this
    match fs, hfs with
    | [f0, f1, f2, f3, f4, f5, f6, f7, f8, f9, f10, f11, f12, f13], hfs =>
      simp only [List.map_cons, List.map_nil, List.cons.injEq, Prod.mk.injEq, and_true] at hfs
      obtain ⟨⟨t0, o0⟩, ⟨t1, o1⟩, ⟨t2, o2⟩, ⟨t3, o3⟩, ⟨t4, o4⟩, ⟨t5, o5⟩, ⟨t6, o6⟩, ⟨t7, o7⟩, ⟨t8, o8⟩, ⟨t9, o9⟩, ⟨t10, o10⟩, ⟨t11, o11⟩, ⟨t12, o12⟩, t13, o13⟩ := hfs
      match xs, hxl, cs, hcl with
      | [y0, y1, y2, y3, y4, y5, y6, y7, y8, y9, y10, y11, y12, y13], _, [v0, v1, v2, v3, v4, v5, v6, v7, v8, v9, v10, v11, v12, v13], _ =>
        have g0 := hf 0 f0 rfl
        simp [Value.cells, o0, t0, Try.cellsK] at g0
        obtain ⟨x0, e0, _, _⟩ := DataW.trod_int Try.underlying22 g0
        simp only [List.cons.injEq, and_true] at e0
        subst e0
        have g1 := hf 1 f1 rfl
        simp [Value.cells, o1, t1, Try.cells3] at g1
        obtain ⟨x1, e1, _, _⟩ := DataW.trod_int Try.underlying3 g1
        simp only [List.cons.injEq, and_true] at e1
        subst e1
        have g2 := hf 2 f2 rfl
        simp [Value.cells, o2, t2, Try.cells3] at g2
        obtain ⟨x2, e2, _, _⟩ := DataW.trod_int Try.underlying3 g2
        simp only [List.cons.injEq, and_true] at e2
        subst e2
        have g3 := hf 3 f3 rfl
        simp [Value.cells, o3, t3, Try.cells3] at g3
        obtain ⟨x3, e3, _, _⟩ := DataW.trod_int Try.underlying3 g3
        simp only [List.cons.injEq, and_true] at e3
        subst e3
        have g4 := hf 4 f4 rfl
        simp [Value.cells, o4, t4, Try.cells3] at g4
        obtain ⟨x4, e4, _, _⟩ := DataW.trod_int Try.underlying3 g4
        simp only [List.cons.injEq, and_true] at e4
        subst e4
        have g5 := hf 5 f5 rfl
        simp [Value.cells, o5, t5, Try.cells3] at g5
        obtain ⟨x5, e5, _, _⟩ := DataW.trod_int Try.underlying3 g5
        simp only [List.cons.injEq, and_true] at e5
        subst e5
        have g6 := hf 6 f6 rfl
        simp [Value.cells, o6, t6, Try.cells3] at g6
        obtain ⟨x6, e6, _, _⟩ := DataW.trod_int Try.underlying3 g6
        simp only [List.cons.injEq, and_true] at e6
        subst e6
        have g7 := hf 7 f7 rfl
        simp [Value.cells, o7, t7, Try.cells3] at g7
        obtain ⟨x7, e7, _, _⟩ := DataW.trod_int Try.underlying3 g7
        simp only [List.cons.injEq, and_true] at e7
        subst e7
        have g8 := hf 8 f8 rfl
        simp [Value.cells, o8, t8, Try.cells4] at g8
        obtain ⟨x8, e8, _⟩ := DataW.trod_bool Try.underlying4 g8
        simp only [List.cons.injEq, and_true] at e8
        subst e8
        have g9 := hf 9 f9 rfl
        simp [Value.cells, o9, t9, Try.cells3] at g9
        obtain ⟨x9, e9, _, _⟩ := DataW.trod_int Try.underlying3 g9
        simp only [List.cons.injEq, and_true] at e9
        subst e9
        have g10 := hf 10 f10 rfl
        simp [Value.cells, o10, t10, Try.cells3] at g10
        obtain ⟨x10, e10, _, _⟩ := DataW.trod_int Try.underlying3 g10
        simp only [List.cons.injEq, and_true] at e10
        subst e10
        have g11 := hf 11 f11 rfl
        simp [Value.cells, o11, t11, Try.cells3] at g11
        obtain ⟨x11, e11, _, _⟩ := DataW.trod_int Try.underlying3 g11
        simp only [List.cons.injEq, and_true] at e11
        subst e11
        have g12 := hf 12 f12 rfl
        simp [Value.cells, o12, t12, Try.cells3] at g12
        obtain ⟨x12, e12, _, _⟩ := DataW.trod_int Try.underlying3 g12
        simp only [List.cons.injEq, and_true] at e12
        subst e12
        have g13 := hf 13 f13 rfl
        simp [Value.cells, o13, t13, Try.cells4] at g13
        obtain ⟨x13, e13, _⟩ := DataW.trod_bool Try.underlying4 g13
        simp only [List.cons.injEq, and_true] at e13
        subst e13
        exact ⟨⟨x0, x1, x2, x3, x4, x5, x6, x7, x8, x9, x10, x11, x12, x13⟩, rfl⟩
  | _ => simp at hfs
set_option maxRecDepth 100000 in
theorem three_do {H : Type} {enc : TypeId × Value → H} {W : World} {sp : Nat → Bool} {held : Bool} {fuel : Nat} {cs : List Value} {x : DataW H × List MemPlace} (hl : cs.length = 3) (h : DataW.trod enc Try.prog W 0 sp held fuel 52 cs = some x) :
    ∃ e : Dd, cs = [.int .i64 e.k, .int .i64 e.a, .int .i64 e.b] := by
  obtain ⟨xs, k, hk, hxy, _, hxl, hf⟩ := DataW.trod_struct Try.underlying52 h
  match xs, hxl, cs, hl with
  | [y0, y1, y2], _, [v0, v1, v2], _ =>
    have g0 := hf 0 _ rfl
    have g1 := hf 1 _ rfl
    have g2 := hf 2 _ rfl
    simp [Try.cells3] at g0 g1 g2
    obtain ⟨k, e0, _, _⟩ := DataW.trod_int Try.underlying3 g0
    obtain ⟨o, e1, _, _⟩ := DataW.trod_int Try.underlying3 g1
    obtain ⟨i, e2, _, _⟩ := DataW.trod_int Try.underlying3 g2
    simp only [List.cons.injEq, and_true] at e0 e1 e2
    exact ⟨⟨k, o, i⟩, by rw [e0, e1, e2]⟩
theorem Try.bytesDo : Try.prog.bytesOf 52 = 24 := by kernel_rfl
set_option maxRecDepth 100000 in
theorem open_dosz {H : Type} {enc : TypeId × Value → H} {W : World} {sp : Nat → Bool} {held : Bool} {A : Option Addr} {n c : Nat} {d : DataW H} {p : List MemPlace}
    (h : DataW.Trod enc Try.prog W 0 sp held 48 (.slice A n c) d p) (hw : ∀ n ∈ d.weights Try.prog 48, n ≤ reachBytes) :
    (∃ f : Nat → Dd, Dds W (· < W.heap.size) A n f ∧ (A = none → n = 0 ∧ c = 0)) ∧ n ≤ 5864062014634 := by
  obtain ⟨fuel, hf⟩ := h
  rcases Deep.open_slice Try.underlying48 hf with ⟨hcs, _⟩ | ⟨a, len, cap, m, nn, D, Pl, hcs, _, hl, hm, hmm, hx, hV⟩
  · simp [Value.cells] at hcs
    obtain ⟨rfl, rfl, rfl⟩ := hcs
    exact ⟨⟨fun _ => dz, fun i hi => by omega, fun _ => ⟨rfl, rfl⟩⟩, by omega⟩
  · simp [Value.cells] at hcs
    obtain ⟨rfl, rfl, rfl⟩ := hcs
    simp only [Prod.mk.injEq] at hx
    obtain ⟨rfl, _⟩ := hx
    have hlm : n ≤ m := by rw [hmm]; split <;> omega
    have hp : ∀ i, i < n → ∃ k, DdAt W (· < W.heap.size) (some a) i k := fun i hi => by
      obtain ⟨cs', h1, h2⟩ := hV i (by omega)
      rw [Try.cellsDo] at h1
      obtain ⟨_, hlen, hcell⟩ := World.cells?_some h1
      obtain ⟨y, rfl⟩ := three_do hlen h2
      have e0 := hcell 0 (by omega)
      have hblk : a.block < W.heap.size := by
        have := World.block_lt_of_cell? _ _ (u := Value.int .i64 y.k) (by simpa using e0)
        rwa [add_block, add_block] at this
      have hc : ∀ t, 0 < t → t < 3 → W.cell? ⟨(a.add (i * 3)).block, (a.add (i * 3)).off + t, none⟩ = [Value.int .i64 y.k, .int .i64 y.a, .int .i64 y.b][t]? := by
        intro t ht ht7
        have e := hcell t (by omega)
        have hadd : (a.add (i * 3)).add t = ⟨(a.add (i * 3)).block, (a.add (i * 3)).off + t, none⟩ := by
          generalize a.add (i * 3) = p
          unfold Addr.add
          rw [if_neg (by omega)]
        rw [hadd] at e
        rw [e]
      exact ⟨y, a, rfl, hblk, by simpa [Addr.add] using e0, hc 1 (by omega) (by omega), hc 2 (by omega) (by omega)⟩
    refine ⟨⟨fun i => if h : i < n then Classical.choose (hp i h) else dz, fun i hi => ?_, fun h => by cases h⟩, ?_⟩
    · simp only [dif_pos hi]
      exact Classical.choose_spec (hp i hi)
    · have := hw ((((List.range n).map D).length + ((List.range (m - n)).map fun j => D (n + j)).length) * Try.prog.bytesOf 52) (by simp only [DataW.weights, Try.underlying48]; exact List.mem_cons_self ..)
      rw [Try.bytesDo] at this
      simp only [List.length_map, List.length_range, reachBytes] at this
      omega
end Go.Proofs.Ytdaaejoglikhaaa
