/-
  A product, and what is to be done with it, that came in.
-/
import Derived.Test.YtdaaejoglikhaaaIqM
import Derived.Lib.SmallJoins
import Derived.Test.YtdaaejoglikhaaaIqB
import Derived.Test.YtdaaejoglikhaaaIqJ
import Derived.Test.YtdaaejoglikhaaaIpG
namespace Go.Proofs.Ytdaaejoglikhaaa
open Go.ChangeShapes Go.WideShapes Go.ChangeAt Go.RowKit Go.Joins
structure Dd where
  k : Int
  a : Int
  b : Int
def dz : Dd := ⟨0, 0, 0⟩
/-- the j-th of what is to be done -/
def DdAt (w : World) (F : Nat → Prop) (A : Option Addr) (j : Nat) (e : Dd) : Prop := ∃ a, A = some a ∧ F a.block ∧ w.cell? (a.add (j * 3)) = some (.int .i64 e.k) ∧ w.cell? ⟨(a.add (j * 3)).block, (a.add (j * 3)).off + 1, none⟩ = some (.int .i64 e.a) ∧ w.cell? ⟨(a.add (j * 3)).block, (a.add (j * 3)).off + 2, none⟩ = some (.int .i64 e.b)
def Dds (w : World) (F : Nat → Prop) (A : Option Addr) (n : Nat) (f : Nat → Dd) : Prop := ∀ j, j < n → DdAt w F A j (f j)
theorem Dds.new {w w' : World} {F : Nat → Prop} {A : Option Addr} {n : Nat} {f : Nat → Dd} (h : Dds w F A n f) (c : New w w') (hF : ∀ k, F k → k < w.heap.size) : Dds w' F A n f := fun j hj => by
  obtain ⟨a, rfl, hb, h0, h1, h2⟩ := h j hj
  have hb1 : (a.add (j * 3)).block < w.heap.size := by rw [add_block]; exact hF _ hb
  exact ⟨a, rfl, hb, (c.cell hb1 (fun f => f)).trans h0, (c.cell (p := ⟨(a.add (j * 3)).block, _, none⟩) hb1 (fun f => f)).trans h1, (c.cell (p := ⟨(a.add (j * 3)).block, _, none⟩) hb1 (fun f => f)).trans h2⟩
theorem Try.cellsDo : Try.prog.cellsOf 52 = 3 := by kernel_rfl
theorem Try.cells4 : Try.prog.cellsOf 4 = 1 := by kernel_rfl
theorem Try.cellsK : Try.prog.cellsOf 22 = 1 := by kernel_rfl
theorem Try.cellsP : Try.prog.cellsOf 24 = 14 := by kernel_rfl
theorem Try.fieldsP : (Try.prog.underlying 24).map (fun u => match u with | .struct fs => fs.toList.map (fun f => (f.type, f.offset)) | _ => []) = some [(22, 0), (3, 1), (3, 2), (3, 3), (3, 4), (3, 5), (3, 6), (3, 7), (4, 8), (3, 9), (3, 10), (3, 11), (3, 12), (4, 13)] := by kernel_rfl
set_option maxRecDepth 100000 in
set_option maxHeartbeats 4000000 in
theorem open_product {H : Type} {enc : TypeId × Value → H} {W : World} {sp : Nat → Bool} {held : Bool} {r : Reach} {b0 : Nat} {v : Value} {d : DataW H} {p : List MemPlace}
    (hv : Value.okWide Try.prog W r b0 24 v) (h : DataW.Trod enc Try.prog W 0 sp held 24 v d p) : ∃ p : Pd, v = p.V := by
  obtain ⟨u, hu, hfs⟩ := Option.map_eq_some_iff.1 Try.fieldsP
  cases u with
  | struct fs =>
    obtain ⟨cs, rfl, hsz⟩ := okWide_struct hu hv
    obtain ⟨fuel, hf0⟩ := h
    obtain ⟨xs, k, hk, hxy, _, hxl, hf⟩ := DataW.trod_struct hu hf0
    obtain ⟨fs⟩ := fs
    obtain ⟨cs⟩ := cs
    have hcl : cs.length = 14 := by have := hsz.trans Try.cellsP; simpa using this
    match fs, hfs with
    | [f0, f1, f2, f3, f4, f5, f6, f7, f8, f9, f10, f11, f12, f13], hfs =>
      simp only [List.map_cons, List.map_nil, List.cons.injEq, Prod.mk.injEq, and_true] at hfs
      obtain ⟨⟨t0, o0⟩, ⟨t1, o1⟩, ⟨t2, o2⟩, ⟨t3, o3⟩, ⟨t4, o4⟩, ⟨t5, o5⟩, ⟨t6, o6⟩, ⟨t7, o7⟩, ⟨t8, o8⟩, ⟨t9, o9⟩, ⟨t10, o10⟩, ⟨t11, o11⟩, ⟨t12, o12⟩, t13, o13⟩ := hfs
      match xs, hxl, cs, hcl with
      | [y0, y1, y2, y3, y4, y5, y6, y7, y8, y9, y10, y11, y12, y13], _, [v0, v1, v2, v3, v4, v5, v6, v7, v8, v9, v10, v11, v12, v13], _ =>
        have g0 := hf 0 f0 rfl
        simp [Value.cells, o0, t0, Try.cellsK] at g0
        obtain ⟨x0, e0, _, _⟩ := DataW.trod_int Try.underlying22 g0
        simp only [List.cons.injEq, and_true] at e0
        subst e0
        have g1 := hf 1 f1 rfl
        simp [Value.cells, o1, t1, Try.cells3] at g1
        obtain ⟨x1, e1, _, _⟩ := DataW.trod_int Try.underlying3 g1
        simp only [List.cons.injEq, and_true] at e1
        subst e1
        have g2 := hf 2 f2 rfl
        simp [Value.cells, o2, t2, Try.cells3] at g2
        obtain ⟨x2, e2, _, _⟩ := DataW.trod_int Try.underlying3 g2
        simp only [List.cons.injEq, and_true] at e2
        subst e2
        have g3 := hf 3 f3 rfl
        simp [Value.cells, o3, t3, Try.cells3] at g3
        obtain ⟨x3, e3, _, _⟩ := DataW.trod_int Try.underlying3 g3
        simp only [List.cons.injEq, and_true] at e3
        subst e3
        have g4 := hf 4 f4 rfl
        simp [Value.cells, o4, t4, Try.cells3] at g4
        obtain ⟨x4, e4, _, _⟩ := DataW.trod_int Try.underlying3 g4
        simp only [List.cons.injEq, and_true] at e4
        subst e4
        have g5 := hf 5 f5 rfl
        simp [Value.cells, o5, t5, Try.cells3] at g5
        obtain ⟨x5, e5, _, _⟩ := DataW.trod_int Try.underlying3 g5
        simp only [List.cons.injEq, and_true] at e5
        subst e5
        have g6 := hf 6 f6 rfl
        simp [Value.cells, o6, t6, Try.cells3] at g6
        obtain ⟨x6, e6, _, _⟩ := DataW.trod_int Try.underlying3 g6
        simp only [List.cons.injEq, and_true] at e6
        subst e6
        have g7 := hf 7 f7 rfl
        simp [Value.cells, o7, t7, Try.cells3] at g7
        obtain ⟨x7, e7, _, _⟩ := DataW.trod_int Try.underlying3 g7
        simp only [List.cons.injEq, and_true] at e7
        subst e7
        have g8 := hf 8 f8 rfl
        simp [Value.cells, o8, t8, Try.cells4] at g8
        obtain ⟨x8, e8, _⟩ := DataW.trod_bool Try.underlying4 g8
        simp only [List.cons.injEq, and_true] at e8
        subst e8
        have g9 := hf 9 f9 rfl
        simp [Value.cells, o9, t9, Try.cells3] at g9
        obtain ⟨x9, e9, _, _⟩ := DataW.trod_int Try.underlying3 g9
        simp only [List.cons.injEq, and_true] at e9
        subst e9
        have g10 := hf 10 f10 rfl
        simp [Value.cells, o10, t10, Try.cells3] at g10
        obtain ⟨x10, e10, _, _⟩ := DataW.trod_int Try.underlying3 g10
        simp only [List.cons.injEq, and_true] at e10
        subst e10
        have g11 := hf 11 f11 rfl
        simp [Value.cells, o11, t11, Try.cells3] at g11
        obtain ⟨x11, e11, _, _⟩ := DataW.trod_int Try.underlying3 g11
        simp only [List.cons.injEq, and_true] at e11
        subst e11
        have g12 := hf 12 f12 rfl
        simp [Value.cells, o12, t12, Try.cells3] at g12
        obtain ⟨x12, e12, _, _⟩ := DataW.trod_int Try.underlying3 g12
        simp only [List.cons.injEq, and_true] at e12
        subst e12
        have g13 := hf 13 f13 rfl
        simp [Value.cells, o13, t13, Try.cells4] at g13
        obtain ⟨x13, e13, _⟩ := DataW.trod_bool Try.underlying4 g13
        simp only [List.cons.injEq, and_true] at e13
        subst e13
        exact ⟨⟨x0, x1, x2, x3, x4, x5, x6, x7, x8, x9, x10, x11, x12, x13⟩, rfl⟩
  | _ => simp at hfs
set_option maxRecDepth 100000 in
theorem three_do {H : Type} {enc : TypeId × Value → H} {W : World} {sp : Nat → Bool} {held : Bool} {fuel : Nat} {cs : List Value} {x : DataW H × List MemPlace} (hl : cs.length = 3) (h : DataW.trod enc Try.prog W 0 sp held fuel 52 cs = some x) :
    ∃ e : Dd, cs = [.int .i64 e.k, .int .i64 e.a, .int .i64 e.b] := by
  obtain ⟨xs, k, hk, hxy, _, hxl, hf⟩ := DataW.trod_struct Try.underlying52 h
  match xs, hxl, cs, hl with
  | [y0, y1, y2], _, [v0, v1, v2], _ =>
    have g0 := hf 0 _ rfl
    have g1 := hf 1 _ rfl
    have g2 := hf 2 _ rfl
    simp [Try.cells3] at g0 g1 g2
    obtain ⟨k, e0, _, _⟩ := DataW.trod_int Try.underlying3 g0
    obtain ⟨o, e1, _, _⟩ := DataW.trod_int Try.underlying3 g1
    obtain ⟨i, e2, _, _⟩ := DataW.trod_int Try.underlying3 g2
    simp only [List.cons.injEq, and_true] at e0 e1 e2
    exact ⟨⟨k, o, i⟩, by rw [e0, e1, e2]⟩
theorem Try.bytesDo : Try.prog.bytesOf 52 = 24 := by kernel_rfl
set_option maxRecDepth 100000 in
theorem open_dosz {H : Type} {enc : TypeId × Value → H} {W : World} {sp : Nat → Bool} {held : Bool} {A : Option Addr} {n c : Nat} {d : DataW H} {p : List MemPlace}
    (h : DataW.Trod enc Try.prog W 0 sp held 48 (.slice A n c) d p) (hw : ∀ n ∈ d.weights Try.prog 48, n ≤ reachBytes) :
    (∃ f : Nat → Dd, Dds W (· < W.heap.size) A n f ∧ (A = none → n = 0 ∧ c = 0)) ∧ n ≤ 5864062014634 := by
  obtain ⟨fuel, hf⟩ := h
  rcases Deep.open_slice Try.underlying48 hf with ⟨hcs, _⟩ | ⟨a, len, cap, m, nn, D, Pl, hcs, _, hl, hm, hmm, hx, hV⟩
  · simp [Value.cells] at hcs
    obtain ⟨rfl, rfl, rfl⟩ := hcs
    exact ⟨⟨fun _ => dz, fun i hi => by omega, fun _ => ⟨rfl, rfl⟩⟩, by omega⟩
  · simp [Value.cells] at hcs
    obtain ⟨rfl, rfl, rfl⟩ := hcs
    simp only [Prod.mk.injEq] at hx
    obtain ⟨rfl, _⟩ := hx
    have hlm : n ≤ m := by rw [hmm]; split <;> omega
    have hp : ∀ i, i < n → ∃ k, DdAt W (· < W.heap.size) (some a) i k := fun i hi => by
      obtain ⟨cs', h1, h2⟩ := hV i (by omega)
      rw [Try.cellsDo] at h1
      obtain ⟨_, hlen, hcell⟩ := World.cells?_some h1
      obtain ⟨y, rfl⟩ := three_do hlen h2
      have e0 := hcell 0 (by omega)
      have hblk : a.block < W.heap.size := by
        have := World.block_lt_of_cell? _ _ (u := Value.int .i64 y.k) (by simpa using e0)
        rwa [add_block, add_block] at this
      have hc : ∀ t, 0 < t → t < 3 → W.cell? ⟨(a.add (i * 3)).block, (a.add (i * 3)).off + t, none⟩ = [Value.int .i64 y.k, .int .i64 y.a, .int .i64 y.b][t]? := by
        intro t ht ht7
        have e := hcell t (by omega)
        have hadd : (a.add (i * 3)).add t = ⟨(a.add (i * 3)).block, (a.add (i * 3)).off + t, none⟩ := by
          generalize a.add (i * 3) = p
          unfold Addr.add
          rw [if_neg (by omega)]
        rw [hadd] at e
        rw [e]
      exact ⟨y, a, rfl, hblk, by simpa [Addr.add] using e0, hc 1 (by omega) (by omega), hc 2 (by omega) (by omega)⟩
    refine ⟨⟨fun i => if h : i < n then Classical.choose (hp i h) else dz, fun i hi => ?_, fun h => by cases h⟩, ?_⟩
    · simp only [dif_pos hi]
      exact Classical.choose_spec (hp i hi)
    · have := hw ((((List.range n).map D).length + ((List.range (m - n)).map fun j => D (n + j)).length) * Try.prog.bytesOf 52) (by simp only [DataW.weights, Try.underlying48]; exact List.mem_cons_self ..)
      rw [Try.bytesDo] at this
      simp only [List.length_map, List.length_range, reachBytes] at this
      omega
end Go.Proofs.Ytdaaejoglikhaaa
/-
  Package ipe's Right: of some products each is right.
-/
namespace Go.Proofs.Ytdaaejoglikhaaa
open Go.RowKit
theorem addP_block (a : Addr) (i : Nat) : (a.add i).block = a.block := by unfold Addr.add; split <;> rfl
/-- the j-th of the products in a slice -/
def PdAt (w : World) (F : Nat → Prop) (A : Option Addr) (j : Nat) (p : Pd) : Prop := ∃ a, A = some a ∧ F a.block ∧ w.cell? (a.add (j * 14)) = some (.int .i64 p.x0) ∧ w.cell? (⟨(a.add (j * 14)).block, (a.add (j * 14)).off + 1, none⟩) = some (.int .i64 p.x1) ∧ w.cell? (⟨(a.add (j * 14)).block, (a.add (j * 14)).off + 2, none⟩) = some (.int .i64 p.x2) ∧ w.cell? (⟨(a.add (j * 14)).block, (a.add (j * 14)).off + 3, none⟩) = some (.int .i64 p.x3) ∧ w.cell? (⟨(a.add (j * 14)).block, (a.add (j * 14)).off + 4, none⟩) = some (.int .i64 p.x4) ∧ w.cell? (⟨(a.add (j * 14)).block, (a.add (j * 14)).off + 5, none⟩) = some (.int .i64 p.x5) ∧ w.cell? (⟨(a.add (j * 14)).block, (a.add (j * 14)).off + 6, none⟩) = some (.int .i64 p.x6) ∧ w.cell? (⟨(a.add (j * 14)).block, (a.add (j * 14)).off + 7, none⟩) = some (.int .i64 p.x7) ∧ w.cell? (⟨(a.add (j * 14)).block, (a.add (j * 14)).off + 8, none⟩) = some (.bool p.x8) ∧ w.cell? (⟨(a.add (j * 14)).block, (a.add (j * 14)).off + 9, none⟩) = some (.int .i64 p.x9) ∧ w.cell? (⟨(a.add (j * 14)).block, (a.add (j * 14)).off + 10, none⟩) = some (.int .i64 p.x10) ∧ w.cell? (⟨(a.add (j * 14)).block, (a.add (j * 14)).off + 11, none⟩) = some (.int .i64 p.x11) ∧ w.cell? (⟨(a.add (j * 14)).block, (a.add (j * 14)).off + 12, none⟩) = some (.int .i64 p.x12) ∧ w.cell? (⟨(a.add (j * 14)).block, (a.add (j * 14)).off + 13, none⟩) = some (.bool p.x13)
def Pds (w : World) (F : Nat → Prop) (A : Option Addr) (n : Nat) (f : Nat → Pd) : Prop := ∀ j, j < n → PdAt w F A j (f j)
theorem PdAt.chg {w w' : World} {F S : Nat → Prop} {A : Option Addr} {j : Nat} {p : Pd} (h : PdAt w F A j p) (c : Chg S w w') (hF : ∀ k, F k → k < w.heap.size ∧ ¬ S k) : PdAt w' F A j p := by
  obtain ⟨a, rfl, hb, h0, h1, h2, h3, h4, h5, h6, h7, h8, h9, h10, h11, h12, h13⟩ := h
  have hb1 : (a.add (j * 14)).block < w.heap.size := by rw [addP_block]; exact (hF _ hb).1
  have hb2 : ¬ S (a.add (j * 14)).block := by rw [addP_block]; exact (hF _ hb).2
  exact ⟨a, rfl, hb, (c.cell hb1 hb2).trans h0, (c.cell (p := ⟨(a.add (j * 14)).block, _, none⟩) hb1 hb2).trans h1, (c.cell (p := ⟨(a.add (j * 14)).block, _, none⟩) hb1 hb2).trans h2, (c.cell (p := ⟨(a.add (j * 14)).block, _, none⟩) hb1 hb2).trans h3, (c.cell (p := ⟨(a.add (j * 14)).block, _, none⟩) hb1 hb2).trans h4, (c.cell (p := ⟨(a.add (j * 14)).block, _, none⟩) hb1 hb2).trans h5, (c.cell (p := ⟨(a.add (j * 14)).block, _, none⟩) hb1 hb2).trans h6, (c.cell (p := ⟨(a.add (j * 14)).block, _, none⟩) hb1 hb2).trans h7, (c.cell (p := ⟨(a.add (j * 14)).block, _, none⟩) hb1 hb2).trans h8, (c.cell (p := ⟨(a.add (j * 14)).block, _, none⟩) hb1 hb2).trans h9, (c.cell (p := ⟨(a.add (j * 14)).block, _, none⟩) hb1 hb2).trans h10, (c.cell (p := ⟨(a.add (j * 14)).block, _, none⟩) hb1 hb2).trans h11, (c.cell (p := ⟨(a.add (j * 14)).block, _, none⟩) hb1 hb2).trans h12, (c.cell (p := ⟨(a.add (j * 14)).block, _, none⟩) hb1 hb2).trans h13⟩
theorem Pds.new {w w' : World} {F : Nat → Prop} {A : Option Addr} {n : Nat} {f : Nat → Pd} (h : Pds w F A n f) (c : New w w') (hF : ∀ k, F k → k < w.heap.size) : Pds w' F A n f := fun j hj => (h j hj).chg c fun k hk => ⟨hF k hk, fun f => f⟩
theorem Pds.nil (w : World) (f : Nat → Pd) : Pds w (fun _ => False) none 0 f := fun j hj => by omega
theorem Pds.one {w : World} {g : Nat} {t : TypeId} {p : Pd} (h : Has w g t #[.int .i64 p.x0, .int .i64 p.x1, .int .i64 p.x2, .int .i64 p.x3, .int .i64 p.x4, .int .i64 p.x5, .int .i64 p.x6, .int .i64 p.x7, .bool p.x8, .int .i64 p.x9, .int .i64 p.x10, .int .i64 p.x11, .int .i64 p.x12, .bool p.x13]) : Pds w (· = g) (some ⟨g, 0, none⟩) 1 (fun _ => p) := fun j hj => by
  obtain rfl : j = 0 := by omega
  exact ⟨_, rfl, rfl, (h.cell 0).trans rfl, (h.cell 1).trans rfl, (h.cell 2).trans rfl, (h.cell 3).trans rfl, (h.cell 4).trans rfl, (h.cell 5).trans rfl, (h.cell 6).trans rfl, (h.cell 7).trans rfl, (h.cell 8).trans rfl, (h.cell 9).trans rfl, (h.cell 10).trans rfl, (h.cell 11).trans rfl, (h.cell 12).trans rfl, (h.cell 13).trans rfl⟩
theorem Pds.two {w : World} {g : Nat} {t : TypeId} {p q : Pd} (h : Has w g t #[.int .i64 p.x0, .int .i64 p.x1, .int .i64 p.x2, .int .i64 p.x3, .int .i64 p.x4, .int .i64 p.x5, .int .i64 p.x6, .int .i64 p.x7, .bool p.x8, .int .i64 p.x9, .int .i64 p.x10, .int .i64 p.x11, .int .i64 p.x12, .bool p.x13, .int .i64 q.x0, .int .i64 q.x1, .int .i64 q.x2, .int .i64 q.x3, .int .i64 q.x4, .int .i64 q.x5, .int .i64 q.x6, .int .i64 q.x7, .bool q.x8, .int .i64 q.x9, .int .i64 q.x10, .int .i64 q.x11, .int .i64 q.x12, .bool q.x13]) : Pds w (· = g) (some ⟨g, 0, none⟩) 2 (fun i => if i = 0 then p else q) := fun j hj => by
  rcases (show j = 0 ∨ j = 1 by omega) with rfl | rfl
  · exact ⟨_, rfl, rfl, (h.cell 0).trans rfl, (h.cell 1).trans rfl, (h.cell 2).trans rfl, (h.cell 3).trans rfl, (h.cell 4).trans rfl, (h.cell 5).trans rfl, (h.cell 6).trans rfl, (h.cell 7).trans rfl, (h.cell 8).trans rfl, (h.cell 9).trans rfl, (h.cell 10).trans rfl, (h.cell 11).trans rfl, (h.cell 12).trans rfl, (h.cell 13).trans rfl⟩
  · exact ⟨_, rfl, rfl, (h.cell 14).trans rfl, (h.cell 15).trans rfl, (h.cell 16).trans rfl, (h.cell 17).trans rfl, (h.cell 18).trans rfl, (h.cell 19).trans rfl, (h.cell 20).trans rfl, (h.cell 21).trans rfl, (h.cell 22).trans rfl, (h.cell 23).trans rfl, (h.cell 24).trans rfl, (h.cell 25).trans rfl, (h.cell 26).trans rfl, (h.cell 27).trans rfl⟩
noncomputable def allR (n : Nat) (f : Nat → Pd) : Bool := @decide (∀ i, i < n → rightN (f i).ns = true) (Classical.propDecidable _)
theorem allR_yes {n : Nat} {f : Nat → Pd} (h : ∀ i, i < n → rightN (f i).ns = true) : allR n f = true := @decide_eq_true _ (Classical.propDecidable _) h
theorem allR_no {n i : Nat} {f : Nat → Pd} (hi : i < n) (h : rightN (f i).ns = false) : allR n f = false := @decide_eq_false _ (Classical.propDecidable _) fun hh => by rw [hh i hi] at h; cases h
theorem allR_zero (f : Nat → Pd) : allR 0 f = true := allR_yes fun i hi => by omega
theorem allR_one (f : Nat → Pd) : allR 1 f = rightN (f 0).ns := by
  cases h : rightN (f 0).ns with
  | true => exact allR_yes fun i hi => by rw [show i = 0 by omega]; exact h
  | false => exact allR_no (i := 0) (by omega) h
theorem allR_two (f : Nat → Pd) (h0 : rightN (f 0).ns = true) : allR 2 f = rightN (f 1).ns := by
  cases h : rightN (f 1).ns with
  | true => exact allR_yes fun i hi => (show i = 0 ∨ i = 1 by omega).elim (fun e => by rw [e]; exact h0) (fun e => by rw [e]; exact h)
  | false => exact allR_no (i := 1) (by omega) h
set_option maxRecDepth 100000 in
theorem right1_any (p : Pd) (w : World) : Calls Try.prog 37 #[p.V] w fun e w' => e = .returned (.bool (!rightN p.ns)) ∧ New w w' := by
  have HR := Lib.hid (fun w => iright_any p w)
  obtain ⟨b, hb⟩ : ∃ b, rightN p.ns = b := ⟨_, rfl⟩
  rw [hb] at HR ⊢
  clear hb
  obtain ⟨x0, x1, x2, x3, x4, x5, x6, x7, x8, x9, x10, x11, x12, x13⟩ := p
  have HR : Hid (∀ w, Calls Try.prog 28 #[.agg #[.int .i64 x0, .int .i64 x1, .int .i64 x2, .int .i64 x3, .int .i64 x4, .int .i64 x5, .int .i64 x6, .int .i64 x7, .bool x8, .int .i64 x9, .int .i64 x10, .int .i64 x11, .int .i64 x12, .bool x13]] w fun e w' => e = .returned (.bool b) ∧ New w w') := HR.out
  go_enter Try.func37, Try.ntmps37
  go_wp2_with fail
  with_reducible refine (HR.out _).mono ?_
  rintro e w1 ⟨rfl, hN⟩
  have HN := Lib.hid hN; clear hN
  go_wp2_with fail
  go_ret
  exact ⟨rfl, Chg.then_new ((Chg.refl _ _).alloc _) HN.out⟩
set_option maxRecDepth 100000 in
set_option maxHeartbeats 4000000 in
theorem indexP_any (A : Option Addr) (n c : Nat) (f : Nat → Pd) (F : Nat → Prop) (w : World) (hA : Pds w F A n f) (hF : ∀ k, F k → k < w.heap.size) (hn : n ≤ 1000000000000000000) :
    Calls Try.prog 65 #[.slice A n c, .func (.func 37) #[] #[]] w fun e w' => ∃ z : Int, e = .returned (.int .i64 z) ∧ decide (0 ≤ z) = (!allR n f) ∧ New w w' := by
  have HA := Lib.hid hA; clear hA
  have HF := Lib.hid hF; clear hF
  obtain ⟨B, hB⟩ : ∃ B, B = allR n f := ⟨_, rfl⟩
  rw [← hB]
  have HB := Lib.hid hB; clear hB
  go_enter Try.func65, Try.ntmps65
  go_wp2_with fail
  go_loopg [8] n (fun gk i wr => ∃ k : Nat, k ≤ n ∧ gk = n - k ∧ i = .int .i64 k ∧ (∀ j, j < k → rightN (f j).ns = true) ∧ New w wr)
  case atStart => exact ⟨0, by omega, by omega, rfl, fun j hj => by omega, Chg.refl _ _⟩
  case round =>
    obtain ⟨k, hk, rfl, rfl, hR, hN⟩ := hrel
    have HR := Lib.hid hR; clear hR
    have HN := Lib.hid hN; clear hN
    by_cases hlt : k < n
    · obtain ⟨a, ha, hab, a0, a1, a2, a3, a4, a5, a6, a7, a8, a9, a10, a11, a12, a13⟩ := (HA.out.new HN.out HF.out) k hlt
      subst ha
      have t1 : decide ((k : Int) < (n : Int)) = true := decide_eq_true (by omega)
      have t1' : decide (k < n) = true := decide_eq_true hlt
      have HC := Lib.hid (right1_any (f k))
      obtain ⟨b, hb⟩ : ∃ b, rightN (f k).ns = b := ⟨_, rfl⟩
      rw [hb] at HC
      have Hb := Lib.hid hb; clear hb
      obtain ⟨q, hq⟩ : ∃ q, q = f k := ⟨_, rfl⟩
      rw [← hq] at HC a0 a1 a2 a3 a4 a5 a6 a7 a8 a9 a10 a11 a12 a13
      clear hq
      obtain ⟨x0, x1, x2, x3, x4, x5, x6, x7, x8, x9, x10, x11, x12, x13⟩ := q
      have HC : Hid (∀ w, Calls Try.prog 37 #[.agg #[.int .i64 x0, .int .i64 x1, .int .i64 x2, .int .i64 x3, .int .i64 x4, .int .i64 x5, .int .i64 x6, .int .i64 x7, .bool x8, .int .i64 x9, .int .i64 x10, .int .i64 x11, .int .i64 x12, .bool x13]] w fun e w' => e = .returned (.bool (!b)) ∧ New w w') := HC.out
      simp only at a0 a1 a2 a3 a4 a5 a6 a7 a8 a9 a10 a11 a12 a13
      go_wp2_with fail
      with_reducible refine (HC.out _).mono ?_
      rintro e w2 ⟨rfl, hN2⟩
      have HN2 := Lib.hid (HN.out.then_new hN2); clear hN2
      cases b with
      | false =>
        have hBf : B = false := by rw [HB.out]; exact allR_no hlt Hb.out
        go_wp2_with fail
        go_ret
        exact ⟨_, rfl, by rw [hBf]; simp, HN2.out⟩
      | true =>
        go_wp2_with fail
        go_roundg (n - (k + 1))
        case measure => omega
        case rel => exact ⟨k + 1, by omega, rfl, by go_num, fun j hj => by
          rcases Nat.lt_or_ge j k with h | h
          · exact HR.out j h
          · rw [show j = k by omega]; exact Hb.out, HN2.out⟩
    · obtain rfl : k = n := by omega
      have hBt : B = true := by rw [HB.out]; exact allR_yes HR.out
      have t1 : decide ((k : Int) < (k : Int)) = false := decide_eq_false (by omega)
      go_wp2_with fail
      go_ret
      exact ⟨_, rfl, by rw [hBt]; simp, HN.out⟩
set_option maxRecDepth 100000 in
theorem Right10_any (A : Option Addr) (n c : Nat) (f : Nat → Pd) (F : Nat → Prop) (w : World) (hA : Pds w F A n f) (hF : ∀ k, F k → k < w.heap.size) (hn : n ≤ 1000000000000000000) :
    Calls Try.prog 14 #[.slice A n c] w fun e w' => e = .returned (.bool (allR n f)) ∧ New w w' := by
  have HC : Hid (Calls Try.prog 36 #[.slice A n c, .func (.func 37) #[] #[]] w fun e w' => e = .returned (.bool (!allR n f)) ∧ New w w') := by
    have HI := Lib.hid (indexP_any A n c f F w hA hF hn)
    clear hA hF
    obtain ⟨b, hb⟩ : ∃ b, b = allR n f := ⟨_, rfl⟩
    rw [← hb] at HI ⊢
    clear hb
    show Calls _ _ _ _ _
    go_enter Try.func36, Try.ntmps36
    go_wp2_with fail
    with_reducible refine HI.out.mono ?_
    rintro e w1 ⟨z, rfl, hz, hN⟩
    have HN := Lib.hid hN; clear hN
    go_wp2_with fail
    go_ret
    exact ⟨by rw [← hz]; rfl, HN.out⟩
  clear hA hF
  obtain ⟨b, hb⟩ : ∃ b, b = allR n f := ⟨_, rfl⟩
  rw [← hb] at HC ⊢
  clear hb
  go_enter Try.func14, Try.ntmps14
  go_wp2_with fail
  with_reducible refine HC.out.mono ?_
  rintro e w1 ⟨rfl, hN⟩
  have HN := Lib.hid hN; clear hN
  go_wp2_with fail
  go_ret
  exact ⟨by simp, HN.out⟩
end Go.Proofs.Ytdaaejoglikhaaa
/-
  The document's Do of a ride.
-/
namespace Go.Proofs.Ytdaaejoglikhaaa
open Go.RowKit
theorem small_wraps {x : Int} (h : -9000000000000000000 ≤ x ∧ x ≤ 9000000000000000000) : IntKind.i64.wrap x = x ∧ wrap64 x = x := ⟨IntWalk.i64_in _ (by omega), by unfold wrap64; omega⟩
def doE0 (p : Pd) (a : Int) : Int := aftE p (rideE p.x0 p.x6 p.x7 a)
def doP0 (p : Pd) (a : Int) : Pd := aftP p (rideQ p) (rideE p.x0 p.x6 p.x7 a)
set_option maxRecDepth 100000 in
set_option maxHeartbeats 4000000 in
theorem Do0_any (p : Pd) (hp : RightN p.ns) (a b : Int) (w : World) : Calls Try.prog 27 #[p.V, .int .i64 0, .int .i64 a, .int .i64 b] w fun e w' => e = .returned (.tuple #[(doP0 p a).V, .int .i64 (doE0 p a)]) ∧ New w w' := by
  have HRd := Lib.hid (fun w => ride_any p a w)
  have hk := kinds hp
  clear hp
  obtain ⟨re, hre⟩ : ∃ re, re = rideE p.x0 p.x6 p.x7 a := ⟨_, rfl⟩
  unfold doE0 doP0
  rw [← hre] at HRd ⊢
  clear hre
  obtain ⟨e, he⟩ : ∃ e, aftE p re = e := ⟨_, rfl⟩
  obtain ⟨P, hP⟩ : ∃ P, aftP p (rideQ p) re = P := ⟨_, rfl⟩
  rw [he, hP]
  unfold aftP at hP
  rw [he] at hP
  unfold aftE at he
  unfold rideQ rideC at hP
  obtain ⟨x0, x1, x2, x3, x4, x5, x6, x7, x8, x9, x10, x11, x12, x13⟩ := p
  dsimp only at hk he hP
  have HRd : Hid (∀ w, Calls Try.prog 56 #[.agg #[.int .i64 x0, .int .i64 x1, .int .i64 x2, .int .i64 x3, .int .i64 x4, .int .i64 x5, .int .i64 x6, .int .i64 x7, .bool x8, .int .i64 x9, .int .i64 x10, .int .i64 x11, .int .i64 x12, .bool x13], .int .i64 a] w fun e w' => e = .returned (.int .i64 re) ∧ New w w') := HRd.out
  have Hk := Lib.hid hk; clear hk
  go_enter Try.func27, Try.ntmps27
  go_upto_region 1 with (fail)
  obtain ⟨tb, htb⟩ : ∃ tb, tb = w.heap.size := ⟨_, rfl⟩
  obtain ⟨rb, hrb⟩ : ∃ rb, rb = w.heap.size + 1 := ⟨_, rfl⟩
  obtain ⟨w0, hw0⟩ : ∃ w0, w0 = (w.alloc (.cells #[.int .i64 x0, .int .i64 x1, .int .i64 x2, .int .i64 x3, .int .i64 x4, .int .i64 x5, .int .i64 x6, .int .i64 x7, .bool x8, .int .i64 x9, .int .i64 x10, .int .i64 x11, .int .i64 x12, .bool x13] 24)).alloc (.cells #[.int .i64 0, .int .i64 0, .int .i64 0, .int .i64 0, .int .i64 0, .int .i64 0, .int .i64 0, .int .i64 0, .bool false, .int .i64 0, .int .i64 0, .int .i64 0, .int .i64 0, .bool false] 24) := ⟨_, rfl⟩
  have HT : Hid (Has w0 tb 24 #[.int .i64 x0, .int .i64 x1, .int .i64 x2, .int .i64 x3, .int .i64 x4, .int .i64 x5, .int .i64 x6, .int .i64 x7, .bool x8, .int .i64 x9, .int .i64 x10, .int .i64 x11, .int .i64 x12, .bool x13]) := by rw [hw0, htb]; exact (Has.new _ _ _).alloc _
  have HB : Hid (Has w0 rb 24 #[.int .i64 0, .int .i64 0, .int .i64 0, .int .i64 0, .int .i64 0, .int .i64 0, .int .i64 0, .int .i64 0, .bool false, .int .i64 0, .int .i64 0, .int .i64 0, .int .i64 0, .bool false]) := by rw [hw0, hrb]; exact Has.new_at _ _ _ _ (by simp)
  have HN : Hid (New w w0) := by rw [hw0]; exact ((Chg.refl _ _).alloc _).alloc _
  have Hrb : Hid (rb = w.heap.size + 1 ∧ tb = w.heap.size) := ⟨hrb, htb⟩
  rw [← hw0, ← hrb, ← htb]
  clear hw0 hrb htb
  have k0 : w0.cell? ⟨tb, 0, none⟩ = some (.int .i64 x0) := (HT.out.cell 0).trans rfl
  have k1 : w0.cell? ⟨tb, 1, none⟩ = some (.int .i64 x1) := (HT.out.cell 1).trans rfl
  have k2 : w0.cell? ⟨tb, 2, none⟩ = some (.int .i64 x2) := (HT.out.cell 2).trans rfl
  have k3 : w0.cell? ⟨tb, 3, none⟩ = some (.int .i64 x3) := (HT.out.cell 3).trans rfl
  have k4 : w0.cell? ⟨tb, 4, none⟩ = some (.int .i64 x4) := (HT.out.cell 4).trans rfl
  have k5 : w0.cell? ⟨tb, 5, none⟩ = some (.int .i64 x5) := (HT.out.cell 5).trans rfl
  have k6 : w0.cell? ⟨tb, 6, none⟩ = some (.int .i64 x6) := (HT.out.cell 6).trans rfl
  have k7 : w0.cell? ⟨tb, 7, none⟩ = some (.int .i64 x7) := (HT.out.cell 7).trans rfl
  have k8 : w0.cell? ⟨tb, 8, none⟩ = some (.bool x8) := (HT.out.cell 8).trans rfl
  have k9 : w0.cell? ⟨tb, 9, none⟩ = some (.int .i64 x9) := (HT.out.cell 9).trans rfl
  have k10 : w0.cell? ⟨tb, 10, none⟩ = some (.int .i64 x10) := (HT.out.cell 10).trans rfl
  have k11 : w0.cell? ⟨tb, 11, none⟩ = some (.int .i64 x11) := (HT.out.cell 11).trans rfl
  have k12 : w0.cell? ⟨tb, 12, none⟩ = some (.int .i64 x12) := (HT.out.cell 12).trans rfl
  have k13 : w0.cell? ⟨tb, 13, none⟩ = some (.bool x13) := (HT.out.cell 13).trans rfl
  by_cases c0 : x13 = true
  · subst c0
    rw [if_pos rfl] at he
    obtain rfl : e = 25 := he.symm
    rw [if_neg (by decide)] at hP
    have HP := Lib.hid hP
    clear he hP
    go_wp2_with (first
      | (refine wpList_store_pd rfl (.tmp 8) (.tmp 108) rfl rb pz _ rfl rfl HB.out rfl ?_
         intro wX hX hCX
         have HX := Lib.hid hX
         have HNX := Lib.hid (HN.out.trans hCX (fun i hi h => by have := Hrb.out; omega))
         clear hX hCX)
      | fail)
    have g0 : wX.cell? ⟨rb, 0, none⟩ = some (.int .i64 pz.x0) := (HX.out.cell 0).trans rfl
    have g1 : wX.cell? ⟨rb, 1, none⟩ = some (.int .i64 pz.x1) := (HX.out.cell 1).trans rfl
    have g2 : wX.cell? ⟨rb, 2, none⟩ = some (.int .i64 pz.x2) := (HX.out.cell 2).trans rfl
    have g3 : wX.cell? ⟨rb, 3, none⟩ = some (.int .i64 pz.x3) := (HX.out.cell 3).trans rfl
    have g4 : wX.cell? ⟨rb, 4, none⟩ = some (.int .i64 pz.x4) := (HX.out.cell 4).trans rfl
    have g5 : wX.cell? ⟨rb, 5, none⟩ = some (.int .i64 pz.x5) := (HX.out.cell 5).trans rfl
    have g6 : wX.cell? ⟨rb, 6, none⟩ = some (.int .i64 pz.x6) := (HX.out.cell 6).trans rfl
    have g7 : wX.cell? ⟨rb, 7, none⟩ = some (.int .i64 pz.x7) := (HX.out.cell 7).trans rfl
    have g8 : wX.cell? ⟨rb, 8, none⟩ = some (.bool pz.x8) := (HX.out.cell 8).trans rfl
    have g9 : wX.cell? ⟨rb, 9, none⟩ = some (.int .i64 pz.x9) := (HX.out.cell 9).trans rfl
    have g10 : wX.cell? ⟨rb, 10, none⟩ = some (.int .i64 pz.x10) := (HX.out.cell 10).trans rfl
    have g11 : wX.cell? ⟨rb, 11, none⟩ = some (.int .i64 pz.x11) := (HX.out.cell 11).trans rfl
    have g12 : wX.cell? ⟨rb, 12, none⟩ = some (.int .i64 pz.x12) := (HX.out.cell 12).trans rfl
    have g13 : wX.cell? ⟨rb, 13, none⟩ = some (.bool pz.x13) := (HX.out.cell 13).trans rfl
    refine bodyPost_ret (v := .tuple #[.agg #[.int .i64 pz.x0, .int .i64 pz.x1, .int .i64 pz.x2, .int .i64 pz.x3, .int .i64 pz.x4, .int .i64 pz.x5, .int .i64 pz.x6, .int .i64 pz.x7, .bool pz.x8, .int .i64 pz.x9, .int .i64 pz.x10, .int .i64 pz.x11, .int .i64 pz.x12, .bool pz.x13], .int .i64 25]) (by simp [results, Try.results27, go_sem, g0, g1, g2, g3, g4, g5, g6, g7, g8, g9, g10, g11, g12, g13]) rfl ?_
    exact ⟨by first | (rw [← HP.out]; done) | (rw [← HP.out]; rfl), HNX.out⟩
  have c0n : x13 = false := by simpa using c0
  subst c0n
  rw [if_neg (by decide)] at he
  clear c0
  go_wp2_with fail
  with_reducible refine (HRd.out _).mono ?_
  rintro _ w1 ⟨rfl, hN⟩
  have HT1 := Lib.hid (HT.out.keep hN)
  have HB1 := Lib.hid (HB.out.keep hN)
  have HN1 := Lib.hid (HN.out.then_new hN)
  clear hN HT HB HN HRd k0 k1 k2 k3 k4 k5 k6 k7 k8 k9 k10 k11 k12 k13
  have k0 : w1.cell? ⟨tb, 0, none⟩ = some (.int .i64 x0) := (HT1.out.cell 0).trans rfl
  have k1 : w1.cell? ⟨tb, 1, none⟩ = some (.int .i64 x1) := (HT1.out.cell 1).trans rfl
  have k2 : w1.cell? ⟨tb, 2, none⟩ = some (.int .i64 x2) := (HT1.out.cell 2).trans rfl
  have k3 : w1.cell? ⟨tb, 3, none⟩ = some (.int .i64 x3) := (HT1.out.cell 3).trans rfl
  have k4 : w1.cell? ⟨tb, 4, none⟩ = some (.int .i64 x4) := (HT1.out.cell 4).trans rfl
  have k5 : w1.cell? ⟨tb, 5, none⟩ = some (.int .i64 x5) := (HT1.out.cell 5).trans rfl
  have k6 : w1.cell? ⟨tb, 6, none⟩ = some (.int .i64 x6) := (HT1.out.cell 6).trans rfl
  have k7 : w1.cell? ⟨tb, 7, none⟩ = some (.int .i64 x7) := (HT1.out.cell 7).trans rfl
  have k8 : w1.cell? ⟨tb, 8, none⟩ = some (.bool x8) := (HT1.out.cell 8).trans rfl
  have k9 : w1.cell? ⟨tb, 9, none⟩ = some (.int .i64 x9) := (HT1.out.cell 9).trans rfl
  have k10 : w1.cell? ⟨tb, 10, none⟩ = some (.int .i64 x10) := (HT1.out.cell 10).trans rfl
  have k11 : w1.cell? ⟨tb, 11, none⟩ = some (.int .i64 x11) := (HT1.out.cell 11).trans rfl
  have k12 : w1.cell? ⟨tb, 12, none⟩ = some (.int .i64 x12) := (HT1.out.cell 12).trans rfl
  have k13 : w1.cell? ⟨tb, 13, none⟩ = some (.bool false) := (HT1.out.cell 13).trans rfl
  have kf7 := HT1.out.free 7
  have kf11 := HT1.out.free 11
  have kl := HT1.out.lt
  by_cases c1 : re = 0
  · subst c1
    rw [if_neg (by simp)] at he
    by_cases c2 : x11 = 65535
    · subst c2
      rw [if_pos rfl] at he
      obtain rfl : e = 29 := he.symm
      rw [if_neg (by decide)] at hP
      have HP := Lib.hid hP
      clear he hP kf7 kf11 kl
      go_wp2_with (first
        | (refine wpList_store_pd rfl (.tmp 8) (.tmp 108) rfl rb pz _ rfl rfl HB1.out rfl ?_
           intro wX hX hCX
           have HX := Lib.hid hX
           have HNX := Lib.hid (HN1.out.trans hCX (fun i hi h => by have := Hrb.out; omega))
           clear hX hCX)
        | fail)
      have g0 : wX.cell? ⟨rb, 0, none⟩ = some (.int .i64 pz.x0) := (HX.out.cell 0).trans rfl
      have g1 : wX.cell? ⟨rb, 1, none⟩ = some (.int .i64 pz.x1) := (HX.out.cell 1).trans rfl
      have g2 : wX.cell? ⟨rb, 2, none⟩ = some (.int .i64 pz.x2) := (HX.out.cell 2).trans rfl
      have g3 : wX.cell? ⟨rb, 3, none⟩ = some (.int .i64 pz.x3) := (HX.out.cell 3).trans rfl
      have g4 : wX.cell? ⟨rb, 4, none⟩ = some (.int .i64 pz.x4) := (HX.out.cell 4).trans rfl
      have g5 : wX.cell? ⟨rb, 5, none⟩ = some (.int .i64 pz.x5) := (HX.out.cell 5).trans rfl
      have g6 : wX.cell? ⟨rb, 6, none⟩ = some (.int .i64 pz.x6) := (HX.out.cell 6).trans rfl
      have g7 : wX.cell? ⟨rb, 7, none⟩ = some (.int .i64 pz.x7) := (HX.out.cell 7).trans rfl
      have g8 : wX.cell? ⟨rb, 8, none⟩ = some (.bool pz.x8) := (HX.out.cell 8).trans rfl
      have g9 : wX.cell? ⟨rb, 9, none⟩ = some (.int .i64 pz.x9) := (HX.out.cell 9).trans rfl
      have g10 : wX.cell? ⟨rb, 10, none⟩ = some (.int .i64 pz.x10) := (HX.out.cell 10).trans rfl
      have g11 : wX.cell? ⟨rb, 11, none⟩ = some (.int .i64 pz.x11) := (HX.out.cell 11).trans rfl
      have g12 : wX.cell? ⟨rb, 12, none⟩ = some (.int .i64 pz.x12) := (HX.out.cell 12).trans rfl
      have g13 : wX.cell? ⟨rb, 13, none⟩ = some (.bool pz.x13) := (HX.out.cell 13).trans rfl
      refine bodyPost_ret (v := .tuple #[.agg #[.int .i64 pz.x0, .int .i64 pz.x1, .int .i64 pz.x2, .int .i64 pz.x3, .int .i64 pz.x4, .int .i64 pz.x5, .int .i64 pz.x6, .int .i64 pz.x7, .bool pz.x8, .int .i64 pz.x9, .int .i64 pz.x10, .int .i64 pz.x11, .int .i64 pz.x12, .bool pz.x13], .int .i64 29]) (by simp [results, Try.results27, go_sem, g0, g1, g2, g3, g4, g5, g6, g7, g8, g9, g10, g11, g12, g13]) rfl ?_
      exact ⟨by first | (rw [← HP.out]; done) | (rw [← HP.out]; rfl), HNX.out⟩
    · rw [if_neg c2] at he
      obtain rfl : e = 0 := he.symm
      rw [if_pos rfl] at hP
      have e2 : (x11 == 65535) = false := beq_eq_false_iff_ne.2 c2
      obtain ⟨w7, w7'⟩ := small_wraps (x := x7 - 1) (by have := Hk.out.2.2.1; omega)
      obtain ⟨w11, w11'⟩ := small_wraps (x := x11 + 1) (by have := Hk.out.2.2.2; omega)
      clear c2 he
      by_cases c3 : x0 = 3
      · subst c3
        rw [if_pos (show ((3 : Int) == 3 || (3 : Int) == 4) = true by decide)] at hP
        have HP := Lib.hid hP
        clear hP
        have HT2 : Hid (Has ((w1.setCell ⟨tb, 11, none⟩ (.int .i64 (x11 + 1))).setCell ⟨tb, 7, none⟩ (.int .i64 (x7 - 1))) tb 24 #[.int .i64 3, .int .i64 x1, .int .i64 x2, .int .i64 x3, .int .i64 x4, .int .i64 x5, .int .i64 x6, .int .i64 (x7 - 1), .bool x8, .int .i64 x9, .int .i64 x10, .int .i64 (x11 + 1), .int .i64 x12, .bool false]) := (HT1.out.set 11 (.int .i64 (x11 + 1))).set 7 (.int .i64 (x7 - 1))
        have HC2 : Hid (Chg (· = tb) w1 ((w1.setCell ⟨tb, 11, none⟩ (.int .i64 (x11 + 1))).setCell ⟨tb, 7, none⟩ (.int .i64 (x7 - 1)))) := Chg.setCell (S := (· = tb)) (Chg.setCell (S := (· = tb)) (Chg.refl _ _) (fun _ => rfl) _) (fun _ => rfl) _
        go_upto_region 40 with (fail)
        obtain ⟨w2, hw2⟩ : ∃ w2, w2 = ((w1.setCell ⟨tb, 11, none⟩ (.int .i64 (x11 + 1))).setCell ⟨tb, 7, none⟩ (.int .i64 (x7 - 1))) := ⟨_, rfl⟩
        rw [← hw2] at HT2 HC2 ⊢
        clear hw2
        have HB2 := Lib.hid (HB1.out.chg HC2.out (by have := Hrb.out; omega))
        have HN2 := Lib.hid (HN1.out.trans HC2.out (fun i hi h => by have := Hrb.out; omega))
        clear HC2 HT1 HB1 HN1 k0 k1 k2 k3 k4 k5 k6 k7 k8 k9 k10 k11 k12 k13 kf7 kf11 kl
        have k0 : w2.cell? ⟨tb, 0, none⟩ = some (.int .i64 3) := (HT2.out.cell 0).trans rfl
        have k1 : w2.cell? ⟨tb, 1, none⟩ = some (.int .i64 x1) := (HT2.out.cell 1).trans rfl
        have k2 : w2.cell? ⟨tb, 2, none⟩ = some (.int .i64 x2) := (HT2.out.cell 2).trans rfl
        have k3 : w2.cell? ⟨tb, 3, none⟩ = some (.int .i64 x3) := (HT2.out.cell 3).trans rfl
        have k4 : w2.cell? ⟨tb, 4, none⟩ = some (.int .i64 x4) := (HT2.out.cell 4).trans rfl
        have k5 : w2.cell? ⟨tb, 5, none⟩ = some (.int .i64 x5) := (HT2.out.cell 5).trans rfl
        have k6 : w2.cell? ⟨tb, 6, none⟩ = some (.int .i64 x6) := (HT2.out.cell 6).trans rfl
        have k7 : w2.cell? ⟨tb, 7, none⟩ = some (.int .i64 (x7 - 1)) := (HT2.out.cell 7).trans rfl
        have k8 : w2.cell? ⟨tb, 8, none⟩ = some (.bool x8) := (HT2.out.cell 8).trans rfl
        have k9 : w2.cell? ⟨tb, 9, none⟩ = some (.int .i64 x9) := (HT2.out.cell 9).trans rfl
        have k10 : w2.cell? ⟨tb, 10, none⟩ = some (.int .i64 x10) := (HT2.out.cell 10).trans rfl
        have k11 : w2.cell? ⟨tb, 11, none⟩ = some (.int .i64 (x11 + 1)) := (HT2.out.cell 11).trans rfl
        have k12 : w2.cell? ⟨tb, 12, none⟩ = some (.int .i64 x12) := (HT2.out.cell 12).trans rfl
        have k13 : w2.cell? ⟨tb, 13, none⟩ = some (.bool false) := (HT2.out.cell 13).trans rfl
        go_wp2_with (first
          | (refine wpList_store_pd rfl (.tmp 8) (.tmp 151) rfl rb ⟨3, x1, x2, x3, x4, x5, x6, x7 - 1, x8, x9, x10, x11 + 1, x12, false⟩ _ rfl rfl HB2.out rfl ?_
             intro wX hX hCX
             have HX := Lib.hid hX
             have HNX := Lib.hid (HN2.out.trans hCX (fun i hi h => by have := Hrb.out; omega))
             clear hX hCX)
          | fail)
        have g0 : wX.cell? ⟨rb, 0, none⟩ = some (.int .i64 3) := (HX.out.cell 0).trans rfl
        have g1 : wX.cell? ⟨rb, 1, none⟩ = some (.int .i64 x1) := (HX.out.cell 1).trans rfl
        have g2 : wX.cell? ⟨rb, 2, none⟩ = some (.int .i64 x2) := (HX.out.cell 2).trans rfl
        have g3 : wX.cell? ⟨rb, 3, none⟩ = some (.int .i64 x3) := (HX.out.cell 3).trans rfl
        have g4 : wX.cell? ⟨rb, 4, none⟩ = some (.int .i64 x4) := (HX.out.cell 4).trans rfl
        have g5 : wX.cell? ⟨rb, 5, none⟩ = some (.int .i64 x5) := (HX.out.cell 5).trans rfl
        have g6 : wX.cell? ⟨rb, 6, none⟩ = some (.int .i64 x6) := (HX.out.cell 6).trans rfl
        have g7 : wX.cell? ⟨rb, 7, none⟩ = some (.int .i64 (x7 - 1)) := (HX.out.cell 7).trans rfl
        have g8 : wX.cell? ⟨rb, 8, none⟩ = some (.bool x8) := (HX.out.cell 8).trans rfl
        have g9 : wX.cell? ⟨rb, 9, none⟩ = some (.int .i64 x9) := (HX.out.cell 9).trans rfl
        have g10 : wX.cell? ⟨rb, 10, none⟩ = some (.int .i64 x10) := (HX.out.cell 10).trans rfl
        have g11 : wX.cell? ⟨rb, 11, none⟩ = some (.int .i64 (x11 + 1)) := (HX.out.cell 11).trans rfl
        have g12 : wX.cell? ⟨rb, 12, none⟩ = some (.int .i64 x12) := (HX.out.cell 12).trans rfl
        have g13 : wX.cell? ⟨rb, 13, none⟩ = some (.bool false) := (HX.out.cell 13).trans rfl
        refine bodyPost_ret (v := .tuple #[.agg #[.int .i64 3, .int .i64 x1, .int .i64 x2, .int .i64 x3, .int .i64 x4, .int .i64 x5, .int .i64 x6, .int .i64 (x7 - 1), .bool x8, .int .i64 x9, .int .i64 x10, .int .i64 (x11 + 1), .int .i64 x12, .bool false], .int .i64 0]) (by simp [results, Try.results27, go_sem, g0, g1, g2, g3, g4, g5, g6, g7, g8, g9, g10, g11, g12, g13]) rfl ?_
        exact ⟨by first | (rw [← HP.out]; done) | (rw [← HP.out]; rfl), HNX.out⟩
      · have e3 : (x0 == 3) = false := beq_eq_false_iff_ne.2 c3
        by_cases c4 : x0 = 4
        · subst c4
          rw [if_pos (show ((4 : Int) == 3 || (4 : Int) == 4) = true by decide)] at hP
          have HP := Lib.hid hP
          clear hP c3
          have HT2 : Hid (Has ((w1.setCell ⟨tb, 11, none⟩ (.int .i64 (x11 + 1))).setCell ⟨tb, 7, none⟩ (.int .i64 (x7 - 1))) tb 24 #[.int .i64 4, .int .i64 x1, .int .i64 x2, .int .i64 x3, .int .i64 x4, .int .i64 x5, .int .i64 x6, .int .i64 (x7 - 1), .bool x8, .int .i64 x9, .int .i64 x10, .int .i64 (x11 + 1), .int .i64 x12, .bool false]) := (HT1.out.set 11 (.int .i64 (x11 + 1))).set 7 (.int .i64 (x7 - 1))
          have HC2 : Hid (Chg (· = tb) w1 ((w1.setCell ⟨tb, 11, none⟩ (.int .i64 (x11 + 1))).setCell ⟨tb, 7, none⟩ (.int .i64 (x7 - 1)))) := Chg.setCell (S := (· = tb)) (Chg.setCell (S := (· = tb)) (Chg.refl _ _) (fun _ => rfl) _) (fun _ => rfl) _
          go_upto_region 40 with (fail)
          obtain ⟨w2, hw2⟩ : ∃ w2, w2 = ((w1.setCell ⟨tb, 11, none⟩ (.int .i64 (x11 + 1))).setCell ⟨tb, 7, none⟩ (.int .i64 (x7 - 1))) := ⟨_, rfl⟩
          rw [← hw2] at HT2 HC2 ⊢
          clear hw2
          have HB2 := Lib.hid (HB1.out.chg HC2.out (by have := Hrb.out; omega))
          have HN2 := Lib.hid (HN1.out.trans HC2.out (fun i hi h => by have := Hrb.out; omega))
          clear HC2 HT1 HB1 HN1 k0 k1 k2 k3 k4 k5 k6 k7 k8 k9 k10 k11 k12 k13 kf7 kf11 kl
          have k0 : w2.cell? ⟨tb, 0, none⟩ = some (.int .i64 4) := (HT2.out.cell 0).trans rfl
          have k1 : w2.cell? ⟨tb, 1, none⟩ = some (.int .i64 x1) := (HT2.out.cell 1).trans rfl
          have k2 : w2.cell? ⟨tb, 2, none⟩ = some (.int .i64 x2) := (HT2.out.cell 2).trans rfl
          have k3 : w2.cell? ⟨tb, 3, none⟩ = some (.int .i64 x3) := (HT2.out.cell 3).trans rfl
          have k4 : w2.cell? ⟨tb, 4, none⟩ = some (.int .i64 x4) := (HT2.out.cell 4).trans rfl
          have k5 : w2.cell? ⟨tb, 5, none⟩ = some (.int .i64 x5) := (HT2.out.cell 5).trans rfl
          have k6 : w2.cell? ⟨tb, 6, none⟩ = some (.int .i64 x6) := (HT2.out.cell 6).trans rfl
          have k7 : w2.cell? ⟨tb, 7, none⟩ = some (.int .i64 (x7 - 1)) := (HT2.out.cell 7).trans rfl
          have k8 : w2.cell? ⟨tb, 8, none⟩ = some (.bool x8) := (HT2.out.cell 8).trans rfl
          have k9 : w2.cell? ⟨tb, 9, none⟩ = some (.int .i64 x9) := (HT2.out.cell 9).trans rfl
          have k10 : w2.cell? ⟨tb, 10, none⟩ = some (.int .i64 x10) := (HT2.out.cell 10).trans rfl
          have k11 : w2.cell? ⟨tb, 11, none⟩ = some (.int .i64 (x11 + 1)) := (HT2.out.cell 11).trans rfl
          have k12 : w2.cell? ⟨tb, 12, none⟩ = some (.int .i64 x12) := (HT2.out.cell 12).trans rfl
          have k13 : w2.cell? ⟨tb, 13, none⟩ = some (.bool false) := (HT2.out.cell 13).trans rfl
          go_wp2_with (first
            | (refine wpList_store_pd rfl (.tmp 8) (.tmp 151) rfl rb ⟨4, x1, x2, x3, x4, x5, x6, x7 - 1, x8, x9, x10, x11 + 1, x12, false⟩ _ rfl rfl HB2.out rfl ?_
               intro wX hX hCX
               have HX := Lib.hid hX
               have HNX := Lib.hid (HN2.out.trans hCX (fun i hi h => by have := Hrb.out; omega))
               clear hX hCX)
            | fail)
          have g0 : wX.cell? ⟨rb, 0, none⟩ = some (.int .i64 4) := (HX.out.cell 0).trans rfl
          have g1 : wX.cell? ⟨rb, 1, none⟩ = some (.int .i64 x1) := (HX.out.cell 1).trans rfl
          have g2 : wX.cell? ⟨rb, 2, none⟩ = some (.int .i64 x2) := (HX.out.cell 2).trans rfl
          have g3 : wX.cell? ⟨rb, 3, none⟩ = some (.int .i64 x3) := (HX.out.cell 3).trans rfl
          have g4 : wX.cell? ⟨rb, 4, none⟩ = some (.int .i64 x4) := (HX.out.cell 4).trans rfl
          have g5 : wX.cell? ⟨rb, 5, none⟩ = some (.int .i64 x5) := (HX.out.cell 5).trans rfl
          have g6 : wX.cell? ⟨rb, 6, none⟩ = some (.int .i64 x6) := (HX.out.cell 6).trans rfl
          have g7 : wX.cell? ⟨rb, 7, none⟩ = some (.int .i64 (x7 - 1)) := (HX.out.cell 7).trans rfl
          have g8 : wX.cell? ⟨rb, 8, none⟩ = some (.bool x8) := (HX.out.cell 8).trans rfl
          have g9 : wX.cell? ⟨rb, 9, none⟩ = some (.int .i64 x9) := (HX.out.cell 9).trans rfl
          have g10 : wX.cell? ⟨rb, 10, none⟩ = some (.int .i64 x10) := (HX.out.cell 10).trans rfl
          have g11 : wX.cell? ⟨rb, 11, none⟩ = some (.int .i64 (x11 + 1)) := (HX.out.cell 11).trans rfl
          have g12 : wX.cell? ⟨rb, 12, none⟩ = some (.int .i64 x12) := (HX.out.cell 12).trans rfl
          have g13 : wX.cell? ⟨rb, 13, none⟩ = some (.bool false) := (HX.out.cell 13).trans rfl
          refine bodyPost_ret (v := .tuple #[.agg #[.int .i64 4, .int .i64 x1, .int .i64 x2, .int .i64 x3, .int .i64 x4, .int .i64 x5, .int .i64 x6, .int .i64 (x7 - 1), .bool x8, .int .i64 x9, .int .i64 x10, .int .i64 (x11 + 1), .int .i64 x12, .bool false], .int .i64 0]) (by simp [results, Try.results27, go_sem, g0, g1, g2, g3, g4, g5, g6, g7, g8, g9, g10, g11, g12, g13]) rfl ?_
          exact ⟨by first | (rw [← HP.out]; done) | (rw [← HP.out]; rfl), HNX.out⟩
        · have e4 : (x0 == 4) = false := beq_eq_false_iff_ne.2 c4
          rw [if_neg (show ¬ (x0 == 3 || x0 == 4) = true by rw [e3, e4]; decide)] at hP
          have HP := Lib.hid hP
          clear hP c3 c4
          have HT2 : Hid (Has (w1.setCell ⟨tb, 11, none⟩ (.int .i64 (x11 + 1))) tb 24 #[.int .i64 x0, .int .i64 x1, .int .i64 x2, .int .i64 x3, .int .i64 x4, .int .i64 x5, .int .i64 x6, .int .i64 x7, .bool x8, .int .i64 x9, .int .i64 x10, .int .i64 (x11 + 1), .int .i64 x12, .bool false]) := HT1.out.set 11 (.int .i64 (x11 + 1))
          have HC2 : Hid (Chg (· = tb) w1 (w1.setCell ⟨tb, 11, none⟩ (.int .i64 (x11 + 1)))) := Chg.setCell (S := (· = tb)) (Chg.refl _ _) (fun _ => rfl) _
          go_upto_region 40 with (fail)
          obtain ⟨w2, hw2⟩ : ∃ w2, w2 = (w1.setCell ⟨tb, 11, none⟩ (.int .i64 (x11 + 1))) := ⟨_, rfl⟩
          rw [← hw2] at HT2 HC2 ⊢
          clear hw2
          have HB2 := Lib.hid (HB1.out.chg HC2.out (by have := Hrb.out; omega))
          have HN2 := Lib.hid (HN1.out.trans HC2.out (fun i hi h => by have := Hrb.out; omega))
          clear HC2 HT1 HB1 HN1 k0 k1 k2 k3 k4 k5 k6 k7 k8 k9 k10 k11 k12 k13 kf7 kf11 kl
          have k0 : w2.cell? ⟨tb, 0, none⟩ = some (.int .i64 x0) := (HT2.out.cell 0).trans rfl
          have k1 : w2.cell? ⟨tb, 1, none⟩ = some (.int .i64 x1) := (HT2.out.cell 1).trans rfl
          have k2 : w2.cell? ⟨tb, 2, none⟩ = some (.int .i64 x2) := (HT2.out.cell 2).trans rfl
          have k3 : w2.cell? ⟨tb, 3, none⟩ = some (.int .i64 x3) := (HT2.out.cell 3).trans rfl
          have k4 : w2.cell? ⟨tb, 4, none⟩ = some (.int .i64 x4) := (HT2.out.cell 4).trans rfl
          have k5 : w2.cell? ⟨tb, 5, none⟩ = some (.int .i64 x5) := (HT2.out.cell 5).trans rfl
          have k6 : w2.cell? ⟨tb, 6, none⟩ = some (.int .i64 x6) := (HT2.out.cell 6).trans rfl
          have k7 : w2.cell? ⟨tb, 7, none⟩ = some (.int .i64 x7) := (HT2.out.cell 7).trans rfl
          have k8 : w2.cell? ⟨tb, 8, none⟩ = some (.bool x8) := (HT2.out.cell 8).trans rfl
          have k9 : w2.cell? ⟨tb, 9, none⟩ = some (.int .i64 x9) := (HT2.out.cell 9).trans rfl
          have k10 : w2.cell? ⟨tb, 10, none⟩ = some (.int .i64 x10) := (HT2.out.cell 10).trans rfl
          have k11 : w2.cell? ⟨tb, 11, none⟩ = some (.int .i64 (x11 + 1)) := (HT2.out.cell 11).trans rfl
          have k12 : w2.cell? ⟨tb, 12, none⟩ = some (.int .i64 x12) := (HT2.out.cell 12).trans rfl
          have k13 : w2.cell? ⟨tb, 13, none⟩ = some (.bool false) := (HT2.out.cell 13).trans rfl
          go_wp2_with (first
            | (refine wpList_store_pd rfl (.tmp 8) (.tmp 151) rfl rb ⟨x0, x1, x2, x3, x4, x5, x6, x7, x8, x9, x10, x11 + 1, x12, false⟩ _ rfl rfl HB2.out rfl ?_
               intro wX hX hCX
               have HX := Lib.hid hX
               have HNX := Lib.hid (HN2.out.trans hCX (fun i hi h => by have := Hrb.out; omega))
               clear hX hCX)
            | fail)
          have g0 : wX.cell? ⟨rb, 0, none⟩ = some (.int .i64 x0) := (HX.out.cell 0).trans rfl
          have g1 : wX.cell? ⟨rb, 1, none⟩ = some (.int .i64 x1) := (HX.out.cell 1).trans rfl
          have g2 : wX.cell? ⟨rb, 2, none⟩ = some (.int .i64 x2) := (HX.out.cell 2).trans rfl
          have g3 : wX.cell? ⟨rb, 3, none⟩ = some (.int .i64 x3) := (HX.out.cell 3).trans rfl
          have g4 : wX.cell? ⟨rb, 4, none⟩ = some (.int .i64 x4) := (HX.out.cell 4).trans rfl
          have g5 : wX.cell? ⟨rb, 5, none⟩ = some (.int .i64 x5) := (HX.out.cell 5).trans rfl
          have g6 : wX.cell? ⟨rb, 6, none⟩ = some (.int .i64 x6) := (HX.out.cell 6).trans rfl
          have g7 : wX.cell? ⟨rb, 7, none⟩ = some (.int .i64 x7) := (HX.out.cell 7).trans rfl
          have g8 : wX.cell? ⟨rb, 8, none⟩ = some (.bool x8) := (HX.out.cell 8).trans rfl
          have g9 : wX.cell? ⟨rb, 9, none⟩ = some (.int .i64 x9) := (HX.out.cell 9).trans rfl
          have g10 : wX.cell? ⟨rb, 10, none⟩ = some (.int .i64 x10) := (HX.out.cell 10).trans rfl
          have g11 : wX.cell? ⟨rb, 11, none⟩ = some (.int .i64 (x11 + 1)) := (HX.out.cell 11).trans rfl
          have g12 : wX.cell? ⟨rb, 12, none⟩ = some (.int .i64 x12) := (HX.out.cell 12).trans rfl
          have g13 : wX.cell? ⟨rb, 13, none⟩ = some (.bool false) := (HX.out.cell 13).trans rfl
          refine bodyPost_ret (v := .tuple #[.agg #[.int .i64 x0, .int .i64 x1, .int .i64 x2, .int .i64 x3, .int .i64 x4, .int .i64 x5, .int .i64 x6, .int .i64 x7, .bool x8, .int .i64 x9, .int .i64 x10, .int .i64 (x11 + 1), .int .i64 x12, .bool false], .int .i64 0]) (by simp [results, Try.results27, go_sem, g0, g1, g2, g3, g4, g5, g6, g7, g8, g9, g10, g11, g12, g13]) rfl ?_
          exact ⟨by first | (rw [← HP.out]; done) | (rw [← HP.out]; rfl), HNX.out⟩
  · have e1 : (re == 0) = false := beq_eq_false_iff_ne.2 c1
    have e1' : (re != 0) = true := bne_iff_ne.2 c1
    rw [if_pos c1] at he
    obtain rfl : e = re := he.symm
    rw [if_neg c1] at hP
    have HP := Lib.hid hP
    clear he hP kf7 kf11 kl c1
    go_wp2_with (first
      | (refine wpList_store_pd rfl (.tmp 8) (.tmp 108) rfl rb pz _ rfl rfl HB1.out rfl ?_
         intro wX hX hCX
         have HX := Lib.hid hX
         have HNX := Lib.hid (HN1.out.trans hCX (fun i hi h => by have := Hrb.out; omega))
         clear hX hCX)
      | fail)
    have g0 : wX.cell? ⟨rb, 0, none⟩ = some (.int .i64 pz.x0) := (HX.out.cell 0).trans rfl
    have g1 : wX.cell? ⟨rb, 1, none⟩ = some (.int .i64 pz.x1) := (HX.out.cell 1).trans rfl
    have g2 : wX.cell? ⟨rb, 2, none⟩ = some (.int .i64 pz.x2) := (HX.out.cell 2).trans rfl
    have g3 : wX.cell? ⟨rb, 3, none⟩ = some (.int .i64 pz.x3) := (HX.out.cell 3).trans rfl
    have g4 : wX.cell? ⟨rb, 4, none⟩ = some (.int .i64 pz.x4) := (HX.out.cell 4).trans rfl
    have g5 : wX.cell? ⟨rb, 5, none⟩ = some (.int .i64 pz.x5) := (HX.out.cell 5).trans rfl
    have g6 : wX.cell? ⟨rb, 6, none⟩ = some (.int .i64 pz.x6) := (HX.out.cell 6).trans rfl
    have g7 : wX.cell? ⟨rb, 7, none⟩ = some (.int .i64 pz.x7) := (HX.out.cell 7).trans rfl
    have g8 : wX.cell? ⟨rb, 8, none⟩ = some (.bool pz.x8) := (HX.out.cell 8).trans rfl
    have g9 : wX.cell? ⟨rb, 9, none⟩ = some (.int .i64 pz.x9) := (HX.out.cell 9).trans rfl
    have g10 : wX.cell? ⟨rb, 10, none⟩ = some (.int .i64 pz.x10) := (HX.out.cell 10).trans rfl
    have g11 : wX.cell? ⟨rb, 11, none⟩ = some (.int .i64 pz.x11) := (HX.out.cell 11).trans rfl
    have g12 : wX.cell? ⟨rb, 12, none⟩ = some (.int .i64 pz.x12) := (HX.out.cell 12).trans rfl
    have g13 : wX.cell? ⟨rb, 13, none⟩ = some (.bool pz.x13) := (HX.out.cell 13).trans rfl
    refine bodyPost_ret (v := .tuple #[.agg #[.int .i64 pz.x0, .int .i64 pz.x1, .int .i64 pz.x2, .int .i64 pz.x3, .int .i64 pz.x4, .int .i64 pz.x5, .int .i64 pz.x6, .int .i64 pz.x7, .bool pz.x8, .int .i64 pz.x9, .int .i64 pz.x10, .int .i64 pz.x11, .int .i64 pz.x12, .bool pz.x13], .int .i64 e]) (by simp [results, Try.results27, go_sem, g0, g1, g2, g3, g4, g5, g6, g7, g8, g9, g10, g11, g12, g13]) rfl ?_
    exact ⟨by first | (rw [← HP.out]; done) | (rw [← HP.out]; rfl), HNX.out⟩
end Go.Proofs.Ytdaaejoglikhaaa
/-
  What is done with a thing, step by step: mathematics.
-/
namespace Go.Proofs.Ytdaaejoglikhaaa
open Go.RowKit
theorem right_pd (p : Pd) : RightN p.ns ↔ ((1 ≤ p.x0 ∧ p.x0 ≤ 4) ∧ (1 ≤ p.x1 ∧ p.x1 ≤ 4) ∧ (1 ≤ p.x2 ∧ p.x2 ≤ 65535) ∧ (1 ≤ p.x3 ∧ p.x3 ≤ 65535) ∧ (1 ≤ p.x4 ∧ p.x4 ≤ 255) ∧ (0 ≤ p.x5 ∧ p.x5 ≤ 2147483648) ∧ (0 ≤ p.x6 ∧ p.x6 ≤ 65535) ∧ (0 ≤ p.x7 ∧ p.x7 ≤ 255) ∧ (0 ≤ p.x9 ∧ p.x9 ≤ 255) ∧ (0 ≤ p.x10 ∧ p.x10 ≤ 65535) ∧ (0 ≤ p.x11 ∧ p.x11 ≤ 65535) ∧ (0 ≤ p.x12 ∧ p.x12 ≤ 65535)) := by
  obtain ⟨x0, x1, x2, x3, x4, x5, x6, x7, x8, x9, x10, x11, x12, x13⟩ := p
  have h8 : 0 ≤ bi x8 ∧ bi x8 ≤ 1 := by cases x8 <;> exact ⟨by decide, by decide⟩
  have h13 : 0 ≤ bi x13 ∧ bi x13 ≤ 1 := by cases x13 <;> exact ⟨by decide, by decide⟩
  constructor
  · intro h
    have k0 := h.2 0 (by omega)
    have k1 := h.2 1 (by omega)
    have k2 := h.2 2 (by omega)
    have k3 := h.2 3 (by omega)
    have k4 := h.2 4 (by omega)
    have k5 := h.2 5 (by omega)
    have k6 := h.2 6 (by omega)
    have k7 := h.2 7 (by omega)
    have k9 := h.2 9 (by omega)
    have k10 := h.2 10 (by omega)
    have k11 := h.2 11 (by omega)
    have k12 := h.2 12 (by omega)
    simp [Pd.ns, mosts] at k0 k1 k2 k3 k4 k5 k6 k7 k9 k10 k11 k12
    clear h h8 h13
    dsimp only
    omega
  · intro h
    dsimp only at h
    refine ⟨rfl, fun j hj => ?_⟩
    rcases (show j = 0 ∨ j = 1 ∨ j = 2 ∨ j = 3 ∨ j = 4 ∨ j = 5 ∨ j = 6 ∨ j = 7 ∨ j = 8 ∨ j = 9 ∨ j = 10 ∨ j = 11 ∨ j = 12 ∨ j = 13 by omega) with rfl | rfl | rfl | rfl | rfl | rfl | rfl | rfl | rfl | rfl | rfl | rfl | rfl | rfl <;> (simp [Pd.ns, mosts]; omega)
theorem aft_bad {p q : Pd} {ce : Int} (h : aftE p ce ≠ 0) : aftP p q ce = pz := by unfold aftP; rw [if_neg h]
theorem aft_ok {p : Pd} {ce : Int} (h : aftE p ce = 0) : p.x13 = false ∧ ce = 0 ∧ p.x11 ≠ 65535 := by
  unfold aftE at h
  by_cases h0 : p.x13 = true
  · rw [if_pos h0] at h; omega
  rw [if_neg h0] at h
  by_cases h1 : ce = 0
  · rw [if_neg (by simpa using h1)] at h
    by_cases h2 : p.x11 = 65535
    · rw [if_pos h2] at h; omega
    · exact ⟨by simpa using h0, h1, h2⟩
  · rw [if_pos h1] at h; exact absurd h h1
theorem aft_q {p q : Pd} {ce : Int} (h : aftE p ce = 0) : aftP p q ce = ⟨q.x0, q.x1, q.x2, q.x3, q.x4, q.x5, q.x6, q.x7, q.x8, q.x9, q.x10, p.x11 + 1, q.x12, q.x13⟩ := by unfold aftP; rw [if_pos h]
theorem ride_ok {p : Pd} {d : Int} (hp : RightN p.ns) (h : rideE p.x0 p.x6 p.x7 d = 0) : rideC p = true → 1 ≤ p.x7 := by
  intro hc
  have hk := (kinds hp).2.2.1
  unfold rideE at h
  unfold rideC at hc
  by_cases h1 : d < 0
  · rw [if_pos h1] at h; omega
  rw [if_neg h1] at h
  by_cases h2 : 65535 < d
  · rw [if_pos h2] at h; omega
  rw [if_neg h2] at h
  by_cases h3 : p.x0 = 1
  · rw [if_pos h3] at h; omega
  rw [if_neg h3] at h
  by_cases h4 : p.x0 = 2
  · rw [h4] at hc; exact absurd hc (by decide)
  rw [if_neg h4] at h
  by_cases h5 : p.x7 = 0
  · rw [if_pos h5] at h; omega
  · omega
theorem in_ok {p : Pd} {a b : Int} (h : inE p a b = 0) : (0 ≤ a ∧ a ≤ 255) ∧ (0 ≤ b ∧ b ≤ 65535) := by
  unfold inE at h
  by_cases h0 : a < 0
  · rw [if_pos h0] at h; omega
  rw [if_neg h0] at h
  by_cases h1 : 255 < a
  · rw [if_pos h1] at h; omega
  rw [if_neg h1] at h
  by_cases h2 : b < 0
  · rw [if_pos h2] at h; omega
  rw [if_neg h2] at h
  by_cases h3 : 65535 < b
  · rw [if_pos h3] at h; omega
  rw [if_neg h3] at h
  omega
theorem out_ok {p : Pd} {a : Int} (h : outE p a = 0) : 0 ≤ a ∧ a ≤ p.x5 := by
  unfold outE at h
  by_cases h0 : a < 0
  · rw [if_pos h0] at h; omega
  rw [if_neg h0] at h
  by_cases h1 : ¬ p.x0 = 1
  · rw [if_pos h1] at h; omega
  rw [if_neg h1] at h
  by_cases h2 : p.x8 = false
  · rw [if_pos h2] at h; omega
  rw [if_neg h2] at h
  by_cases h3 : p.x5 < a
  · rw [if_pos h3] at h; omega
  rw [if_neg h3] at h
  omega
theorem add_ok {p : Pd} {a : Int} (h : addE p a = 0) : 0 ≤ a ∧ p.x5 + a ≤ 2147483648 := by
  unfold addE at h
  by_cases h0 : a < 0
  · rw [if_pos h0] at h; omega
  rw [if_neg h0] at h
  by_cases h1 : ¬ p.x0 = 1
  · rw [if_pos h1] at h; omega
  rw [if_neg h1] at h
  by_cases h2 : 2147483648 - p.x5 < a
  · rw [if_pos h2] at h; omega
  rw [if_neg h2] at h
  omega
theorem doc1 (p : Pd) (a b : Int) : doE1 p a b = aftE p (inE p a b) ∧ doP1 p a b = aftP p (inQ p a b) (inE p a b) := by
  have h : doE1 p a b = aftE p (inE p a b) := by
    unfold doE1 aftE inE
    by_cases h13 : p.x13 = true
    · rw [if_pos h13, if_pos h13]
    rw [if_neg h13, if_neg h13]
    by_cases h0 : a < 0
    · rw [if_pos h0, if_pos h0, if_pos (by decide)]
    rw [if_neg h0, if_neg h0]
    by_cases h1 : 255 < a
    · rw [if_pos h1, if_pos h1, if_pos (by decide)]
    rw [if_neg h1, if_neg h1]
    by_cases h2 : b < 0
    · rw [if_pos h2, if_pos h2, if_pos (by decide)]
    rw [if_neg h2, if_neg h2]
    by_cases h3 : 65535 < b
    · rw [if_pos h3, if_pos h3, if_pos (by decide)]
    rw [if_neg h3, if_neg h3]
    by_cases h4 : ¬ p.x0 = 1
    · rw [if_pos h4, if_pos h4, if_pos (by decide)]
    rw [if_neg h4, if_neg h4]
    by_cases h5 : p.x8 = true
    · rw [if_pos h5, if_pos h5, if_pos (by decide)]
    rw [if_neg h5, if_neg h5]
    rw [if_neg (show ¬ ¬ (0 : Int) = 0 by decide)]
  refine ⟨h, ?_⟩
  unfold doP1 aftP
  rw [h]
  rfl
theorem doc2 (p : Pd) (a b : Int) : doE2 p a b = aftE p (outE p a) ∧ doP2 p a b = aftP p (outQ p a) (outE p a) := by
  have h : doE2 p a b = aftE p (outE p a) := by
    unfold doE2 aftE outE
    by_cases h13 : p.x13 = true
    · rw [if_pos h13, if_pos h13]
    rw [if_neg h13, if_neg h13]
    by_cases h0 : a < 0
    · rw [if_pos h0, if_pos h0, if_pos (by decide)]
    rw [if_neg h0, if_neg h0]
    by_cases h1 : ¬ p.x0 = 1
    · rw [if_pos h1, if_pos h1, if_pos (by decide)]
    rw [if_neg h1, if_neg h1]
    by_cases h2 : p.x8 = false
    · rw [if_pos h2, if_pos h2, if_pos (by decide)]
    rw [if_neg h2, if_neg h2]
    by_cases h3 : p.x5 < a
    · rw [if_pos h3, if_pos h3, if_pos (by decide)]
    rw [if_neg h3, if_neg h3]
    rw [if_neg (show ¬ ¬ (0 : Int) = 0 by decide)]
  refine ⟨h, ?_⟩
  unfold doP2 aftP
  rw [h]
  rfl
theorem doc3 (p : Pd) (a b : Int) : doE3 p a b = aftE p (addE p a) ∧ doP3 p a b = aftP p (addQ p a) (addE p a) := by
  have h : doE3 p a b = aftE p (addE p a) := by
    unfold doE3 aftE addE
    by_cases h13 : p.x13 = true
    · rw [if_pos h13, if_pos h13]
    rw [if_neg h13, if_neg h13]
    by_cases h0 : a < 0
    · rw [if_pos h0, if_pos h0, if_pos (by decide)]
    rw [if_neg h0, if_neg h0]
    by_cases h1 : ¬ p.x0 = 1
    · rw [if_pos h1, if_pos h1, if_pos (by decide)]
    rw [if_neg h1, if_neg h1]
    by_cases h2 : 2147483648 - p.x5 < a
    · rw [if_pos h2, if_pos h2, if_pos (by decide)]
    rw [if_neg h2, if_neg h2]
    rw [if_neg (show ¬ ¬ (0 : Int) = 0 by decide)]
  refine ⟨h, ?_⟩
  unfold doP3 aftP
  rw [h]
  rfl
/-- one step -/
def stE (p : Pd) (d : Dd) : Int := if d.k = 0 then aftE p (rideE p.x0 p.x6 p.x7 d.a) else if d.k = 1 then aftE p (inE p d.a d.b) else if d.k = 2 then aftE p (outE p d.a) else aftE p (addE p d.a)
def stP (p : Pd) (d : Dd) : Pd := if d.k = 0 then aftP p (rideQ p) (rideE p.x0 p.x6 p.x7 d.a) else if d.k = 1 then aftP p (inQ p d.a d.b) (inE p d.a d.b) else if d.k = 2 then aftP p (outQ p d.a) (outE p d.a) else aftP p (addQ p d.a) (addE p d.a)
theorem st_bad {p : Pd} {d : Dd} (h : stE p d ≠ 0) : stP p d = pz := by
  unfold stE at h
  unfold stP
  split
  · next hk => rw [if_pos hk] at h; exact aft_bad h
  · next hk =>
    rw [if_neg hk] at h
    split
    · next hk => rw [if_pos hk] at h; exact aft_bad h
    · next hk =>
      rw [if_neg hk] at h
      split
      · next hk => rw [if_pos hk] at h; exact aft_bad h
      · next hk => rw [if_neg hk] at h; exact aft_bad h
theorem st_ok {p : Pd} {d : Dd} (hp : RightN p.ns) (h : stE p d = 0) : p.x13 = false ∧ RightN (stP p d).ns ∧ (stP p d).x11 = p.x11 + 1 ∧ (stP p d).x0 = p.x0 ∧ (stP p d).x1 = p.x1 ∧ (stP p d).x2 = p.x2 ∧ (stP p d).x3 = p.x3 ∧ (stP p d).x4 = p.x4 ∧ (stP p d).x12 = p.x12 ∧ (stP p d).x6 = p.x6 ∧ (stP p d).x13 = false ∧ ((d.k = 2 ∧ (stP p d).x5 = p.x5 - d.a ∧ 0 ≤ d.a ∧ d.a ≤ p.x5) ∨ (d.k ≠ 0 ∧ d.k ≠ 1 ∧ d.k ≠ 2 ∧ (stP p d).x5 = p.x5 + d.a ∧ 0 ≤ d.a) ∨ ((d.k = 0 ∨ d.k = 1) ∧ (stP p d).x5 = p.x5)) := by
  have hr := (right_pd p).1 hp
  unfold stE at h
  unfold stP
  split
  · next hk =>
    rw [if_pos hk] at h
    obtain ⟨h1, h2, h3⟩ := aft_ok h
    have hq := ride_ok hp h2
    rw [aft_q h]
    unfold rideQ
    split
    · next hc => exact ⟨h1, (right_pd _).2 (by have := hq hc; dsimp only; omega), rfl, rfl, rfl, rfl, rfl, rfl, rfl, rfl, h1, Or.inr (Or.inr ⟨Or.inl hk, rfl⟩)⟩
    · exact ⟨h1, (right_pd _).2 (by dsimp only; omega), rfl, rfl, rfl, rfl, rfl, rfl, rfl, rfl, h1, Or.inr (Or.inr ⟨Or.inl hk, rfl⟩)⟩
  · next hk0 =>
    rw [if_neg hk0] at h
    split
    · next hk =>
      rw [if_pos hk] at h
      obtain ⟨h1, h2, h3⟩ := aft_ok h
      have hq := in_ok h2
      rw [aft_q h]
      exact ⟨h1, (right_pd _).2 (by dsimp only [inQ]; omega), rfl, rfl, rfl, rfl, rfl, rfl, rfl, rfl, h1, Or.inr (Or.inr ⟨Or.inr hk, rfl⟩)⟩
    · next hk1 =>
      rw [if_neg hk1] at h
      split
      · next hk =>
        rw [if_pos hk] at h
        obtain ⟨h1, h2, h3⟩ := aft_ok h
        have hq := out_ok h2
        rw [aft_q h]
        exact ⟨h1, (right_pd _).2 (by dsimp only [outQ]; omega), rfl, rfl, rfl, rfl, rfl, rfl, rfl, rfl, h1, Or.inl ⟨hk, rfl, hq.1, hq.2⟩⟩
      · next hk2 =>
        rw [if_neg hk2] at h
        obtain ⟨h1, h2, h3⟩ := aft_ok h
        have hq := add_ok h2
        rw [aft_q h]
        exact ⟨h1, (right_pd _).2 (by dsimp only [addQ]; omega), rfl, rfl, rfl, rfl, rfl, rfl, rfl, rfl, h1, Or.inr (Or.inl ⟨hk0, hk1, hk2, rfl, hq.1⟩)⟩
end Go.Proofs.Ytdaaejoglikhaaa
