/-
  Changes that came in: an entry, bytes, a bool, a number; a slice of them, and one with a slice of them.
-/
import Derived.Test.YtjkpijinpfimiaaOpenL
import Derived.Test.YtjkpijinpfimiaaRefV
namespace Go.Proofs.Ytjkpijinpfimiaa
open Go.ChangeShapes Go.WideShapes Go.ChangeAt Go.RowKit Go.Joins
/-- a change: an entry, is it a Drop, power, body -/
structure Cg where
  e : En
  off : Bool
  pw : Int
  bs : List Nat
abbrev i64R (x : Int) : Prop := -9223372036854775808 ≤ x ∧ x ≤ 9223372036854775807
/-- a change's cells, as values -/
def CgV (w : World) (F : Nat → Prop) (x : Cg) (D : Option Addr) (m dc : Nat) : Prop := Arr w F D m (fun i => bV (x.bs.getD i 0)) ∧ x.bs.length = m ∧ (∀ y ∈ x.bs, y < 256) ∧ (D = none → m = 0 ∧ dc = 0) ∧ m ≤ 140737488351232 ∧ i64R x.pw
def CgAt (w : World) (F : Nat → Prop) (A : Option Addr) (i : Nat) (x : Cg) : Prop :=
  ∃ a D m dc, A = some a ∧ F a.block ∧ w.cell? (a.add (i * 7)) = some (.int .i64 x.e.k) ∧ w.cell? ⟨(a.add (i * 7)).block, (a.add (i * 7)).off + 1, none⟩ = some (.int .i64 x.e.o) ∧ w.cell? ⟨(a.add (i * 7)).block, (a.add (i * 7)).off + 2, none⟩ = some (.int .i64 x.e.i) ∧ w.cell? ⟨(a.add (i * 7)).block, (a.add (i * 7)).off + 3, none⟩ = some (.int .i64 x.e.s) ∧
    w.cell? ⟨(a.add (i * 7)).block, (a.add (i * 7)).off + 4, none⟩ = some (.slice D m dc) ∧ w.cell? ⟨(a.add (i * 7)).block, (a.add (i * 7)).off + 5, none⟩ = some (.bool x.off) ∧ w.cell? ⟨(a.add (i * 7)).block, (a.add (i * 7)).off + 6, none⟩ = some (.int .i64 x.pw) ∧ CgV w F x D m dc
def Cgs (w : World) (F : Nat → Prop) (A : Option Addr) (n : Nat) : Prop := ∀ i, i < n → ∃ x, CgAt w F A i x
theorem CgV.chg {w w' : World} {F S : Nat → Prop} {x : Cg} {D : Option Addr} {m dc : Nat} (h : CgV w F x D m dc) (c : Chg S w w') (hF : ∀ k, F k → k < w.heap.size ∧ ¬ S k) : CgV w' F x D m dc := ⟨h.1.chg c hF, h.2⟩
theorem CgAt.chg {w w' : World} {F S : Nat → Prop} {A : Option Addr} {i : Nat} {x : Cg} (h : CgAt w F A i x) (c : Chg S w w') (hF : ∀ k, F k → k < w.heap.size ∧ ¬ S k) : CgAt w' F A i x := by
  obtain ⟨a, D, m, dc, rfl, hb, h0, h1, h2, h3, h4, h5, h6, hv⟩ := h
  have hb1 : (a.add (i * 7)).block < w.heap.size := by rw [add_block]; exact (hF _ hb).1
  have hb2 : ¬ S (a.add (i * 7)).block := by rw [add_block]; exact (hF _ hb).2
  have k := fun t => c.cell (p := ⟨(a.add (i * 7)).block, t, none⟩) hb1 hb2
  exact ⟨a, D, m, dc, rfl, hb, (c.cell hb1 hb2).trans h0, (k _).trans h1, (k _).trans h2, (k _).trans h3, (k _).trans h4, (k _).trans h5, (k _).trans h6, hv.chg c hF⟩
theorem Cgs.chg {w w' : World} {F S : Nat → Prop} {A : Option Addr} {n : Nat} (h : Cgs w F A n) (c : Chg S w w') (hF : ∀ k, F k → k < w.heap.size ∧ ¬ S k) : Cgs w' F A n := fun i hi => by
  obtain ⟨x, hx⟩ := h i hi
  exact ⟨x, hx.chg c hF⟩
theorem Try.cells62 : Try.prog.cellsOf 62 = 7 := by kernel_rfl
theorem Try.cells60 : Try.prog.cellsOf 60 = 4 := by kernel_rfl
theorem Try.cells58 : Try.prog.cellsOf 58 = 1 := by kernel_rfl
theorem Try.cells4 : Try.prog.cellsOf 4 = 1 := by kernel_rfl
theorem Try.cells56 : Try.prog.cellsOf 56 = 1 := by kernel_rfl
theorem Try.cells70 : Try.prog.cellsOf 70 = 10 := by kernel_rfl
theorem Try.fields62 : (Try.prog.underlying 62).map (fun u => match u with | .struct fs => fs.toList.map (fun f => (f.type, f.offset)) | _ => []) = some [(60, 0), (22, 4), (4, 5), (3, 6)] := by kernel_rfl
theorem Try.fields60 : (Try.prog.underlying 60).map (fun u => match u with | .struct fs => fs.toList.map (fun f => (f.type, f.offset)) | _ => []) = some [(58, 0), (3, 1), (3, 2), (3, 3)] := by kernel_rfl
theorem Try.fields70 : (Try.prog.underlying 70).map (fun u => match u with | .struct fs => fs.toList.map (fun f => (f.type, f.offset)) | _ => []) = some [(3, 0), (3, 1), (56, 2), (62, 3)] := by kernel_rfl
set_option maxRecDepth 100000 in
theorem four_entry {H : Type} {enc : TypeId × Value → H} {W : World} {sp : Nat → Bool} {held : Bool} {fuel : Nat} {cs : List Value} {x : DataW H × List MemPlace} (hl : cs.length = 4) (h : DataW.trod enc Try.prog W 0 sp held fuel 60 cs = some x) :
    ∃ k o i s : Int, cs = [.int .i64 k, .int .i64 o, .int .i64 i, .int .i64 s] := by
  obtain ⟨u, hu, hfs⟩ := Option.map_eq_some_iff.1 Try.fields60
  cases u with
  | struct fs =>
    obtain ⟨xs, k, hk, hxy, _, hxl, hf⟩ := DataW.trod_struct hu h
    obtain ⟨fs⟩ := fs
    match fs, hfs with
    | [f0, f1, f2, f3], hfs =>
      simp only [List.map_cons, List.map_nil, List.cons.injEq, Prod.mk.injEq, and_true] at hfs
      obtain ⟨⟨t0, o0⟩, ⟨t1, o1⟩, ⟨t2, o2⟩, t3, o3⟩ := hfs
      match xs, hxl, cs, hl with
      | [y0, y1, y2, y3], _, [v0, v1, v2, v3], _ =>
        have g0 := hf 0 f0 rfl
        have g1 := hf 1 f1 rfl
        have g2 := hf 2 f2 rfl
        have g3 := hf 3 f3 rfl
        simp [o0, o1, o2, o3, t0, t1, t2, t3, Try.cells3, Try.cells58] at g0 g1 g2 g3
        obtain ⟨k, e0, _, _⟩ := DataW.trod_int Try.underlying58 g0
        obtain ⟨o, e1, _, _⟩ := DataW.trod_int Try.underlying3 g1
        obtain ⟨i, e2, _, _⟩ := DataW.trod_int Try.underlying3 g2
        obtain ⟨s, e3, _, _⟩ := DataW.trod_int Try.underlying3 g3
        simp only [List.cons.injEq, and_true] at e0 e1 e2 e3
        exact ⟨k, o, i, s, by rw [e0, e1, e2, e3]⟩
  | _ => simp at hfs
set_option maxRecDepth 100000 in
theorem seven_change {H : Type} {enc : TypeId × Value → H} {W : World} {sp : Nat → Bool} {held : Bool} {fuel : Nat} {cs : List Value} {x : DataW H × List MemPlace} (hl : cs.length = 7) (h : DataW.trod enc Try.prog W 0 sp held fuel 62 cs = some x) (hw : ∀ n ∈ x.1.weights Try.prog 62, n ≤ reachBytes) :
    ∃ (y : Cg) (D : Option Addr) (m dc : Nat), cs = [.int .i64 y.e.k, .int .i64 y.e.o, .int .i64 y.e.i, .int .i64 y.e.s, .slice D m dc, .bool y.off, .int .i64 y.pw] ∧ CgV W (· < W.heap.size) y D m dc := by
  obtain ⟨u, hu, hfs⟩ := Option.map_eq_some_iff.1 Try.fields62
  cases u with
  | struct fs =>
    obtain ⟨xs, k, hk, hxy, _, hxl, hf⟩ := DataW.trod_struct hu h
    obtain ⟨fs⟩ := fs
    match fs, hfs with
    | [f0, f1, f2, f3], hfs =>
      simp only [List.map_cons, List.map_nil, List.cons.injEq, Prod.mk.injEq, and_true] at hfs
      obtain ⟨⟨t0, o0⟩, ⟨t1, o1⟩, ⟨t2, o2⟩, t3, o3⟩ := hfs
      match xs, hxl, cs, hl with
      | [y0, y1, y2, y3], _, [v0, v1, v2, v3, v4, v5, v6], _ =>
        have g0 := hf 0 f0 rfl
        have g1 := hf 1 f1 rfl
        have g2 := hf 2 f2 rfl
        have g3 := hf 3 f3 rfl
        simp [o0, o1, o2, o3, t0, t1, t2, t3, Try.cells3, Try.cells4, Try.cells60, Try.cells22] at g0 g1 g2 g3
        obtain ⟨ek, eo, ei, es, e0⟩ := four_entry rfl g0
        have hwe : x.1.weights Try.prog 62 = y0.1.weights Try.prog 60 ++ (y1.1.weights Try.prog 22 ++ (y2.1.weights Try.prog 4 ++ (y3.1.weights Try.prog 3 ++ []))) := by
          subst hxy
          simp only [List.map_cons, List.map_nil, DataW.weights, hu, DataW.weightsEach, t0, t1, t2, t3]
        obtain ⟨bs, hbz⟩ := open_bz (d := y1.1) (p := y1.2) g1 (fun n hn => hw n (by rw [hwe]; simp [hn]))
        obtain ⟨⟨D, dc, e1, hA, hnil, h256, _⟩, hb⟩ := hbz
        obtain ⟨b, e2, _⟩ := DataW.trod_bool Try.underlying4 g2
        obtain ⟨pw, e3, _, wpw⟩ := DataW.trod_int Try.underlying3 g3
        simp only [List.cons.injEq, and_true] at e0 e2 e3
        obtain ⟨rfl, rfl, rfl, rfl⟩ := e0
        subst e1 e2 e3
        exact ⟨⟨⟨ek, eo, ei, es⟩, b, pw, bs⟩, D, bs.length, dc, rfl, hA, rfl, h256, hnil, hb, i64_wf wpw⟩
  | _ => simp at hfs
set_option maxRecDepth 100000 in
theorem open_changes {H : Type} {enc : TypeId × Value → H} {W : World} {sp : Nat → Bool} {held : Bool} {A : Option Addr} {n c : Nat} {d : DataW H} {p : List MemPlace}
    (h : DataW.Trod enc Try.prog W 0 sp held 56 (.slice A n c) d p) (hw : ∀ n ∈ d.weights Try.prog 56, n ≤ reachBytes) : Cgs W (· < W.heap.size) A n ∧ n ≤ maxLen := by
  obtain ⟨fuel, hf⟩ := h
  rcases Deep.open_slice Try.underlying56 hf with ⟨hcs, _⟩ | ⟨a, len, cap, m, nn, D, Pl, hcs, _, hl, hm, hmm, hx, hV⟩
  · simp [Value.cells] at hcs
    obtain ⟨rfl, rfl, rfl⟩ := hcs
    exact ⟨fun i hi => by omega, by decide⟩
  · simp [Value.cells] at hcs
    obtain ⟨rfl, rfl, rfl⟩ := hcs
    simp only [Prod.mk.injEq] at hx
    obtain ⟨rfl, _⟩ := hx
    have hlm : n ≤ m := by rw [hmm]; split <;> omega
    refine ⟨fun i hi => ?_, by omega⟩
    obtain ⟨cs', h1, h2⟩ := hV i (by omega)
    rw [Try.cells62] at h1
    have hmem : D i ∈ (List.range n).map D := List.mem_map.2 ⟨i, List.mem_range.2 hi, rfl⟩
    obtain ⟨_, hlen, hcell⟩ := World.cells?_some h1
    obtain ⟨y, DD, mm, dc, rfl, hy⟩ := seven_change hlen h2 (fun k hk => hw k (by
      simp only [DataW.weights, Try.underlying56]
      exact List.mem_cons_of_mem _ (List.mem_append_left _ (weights_all hmem hk))))
    have e0 := hcell 0 (by omega)
    have hblk : a.block < W.heap.size := by
      have := World.block_lt_of_cell? _ _ (u := Value.int .i64 y.e.k) (by simpa using e0)
      rwa [add_block, add_block] at this
    have hc : ∀ t, 0 < t → t < 7 → W.cell? ⟨(a.add (i * 7)).block, (a.add (i * 7)).off + t, none⟩ = [Value.int .i64 y.e.k, .int .i64 y.e.o, .int .i64 y.e.i, .int .i64 y.e.s, .slice DD mm dc, .bool y.off, .int .i64 y.pw][t]? := by
      intro t ht ht7
      have e := hcell t (by omega)
      have hadd : (a.add (i * 7)).add t = ⟨(a.add (i * 7)).block, (a.add (i * 7)).off + t, none⟩ := by
        generalize a.add (i * 7) = p
        unfold Addr.add
        rw [if_neg (by omega)]
      rw [hadd] at e
      rw [e]
    exact ⟨y, a, DD, mm, dc, rfl, hblk, by simpa [Addr.add] using e0, hc 1 (by omega) (by omega), hc 2 (by omega) (by omega), hc 3 (by omega) (by omega), hc 4 (by omega) (by omega), hc 5 (by omega) (by omega), hc 6 (by omega) (by omega), hy⟩
set_option maxRecDepth 100000 in
theorem open_tear {H : Type} {enc : TypeId × Value → H} {W : World} {sp : Nat → Bool} {held : Bool} {r : Reach} {b0 : Nat} {v : Value} {d : DataW H} {p : List MemPlace}
    (hv : Value.okWide Try.prog W r b0 70 v) (h : DataW.Trod enc Try.prog W 0 sp held 70 v d p) (hw : ∀ n ∈ d.weights Try.prog 70, n ≤ reachBytes) :
    ∃ (id pw : Int) (A : Option Addr) (n c : Nat) (y : Cg) (D : Option Addr) (m dc : Nat), v = .agg #[.int .i64 id, .int .i64 pw, .slice A n c, .int .i64 y.e.k, .int .i64 y.e.o, .int .i64 y.e.i, .int .i64 y.e.s, .slice D m dc, .bool y.off, .int .i64 y.pw] ∧ i64R id ∧ i64R pw ∧ Cgs W (· < W.heap.size) A n ∧ n ≤ maxLen ∧ CgV W (· < W.heap.size) y D m dc := by
  obtain ⟨u, hu, hfs⟩ := Option.map_eq_some_iff.1 Try.fields70
  cases u with
  | struct fs =>
    obtain ⟨cs, rfl, hsz⟩ := okWide_struct hu hv
    obtain ⟨fuel, hf0⟩ := h
    obtain ⟨xs, k, hk, hxy, _, hxl, hf⟩ := DataW.trod_struct hu hf0
    obtain ⟨fs⟩ := fs
    obtain ⟨cs⟩ := cs
    have hcl : cs.length = 10 := by have := hsz.trans Try.cells70; simpa using this
    match fs, hfs with
    | [f0, f1, f2, f3], hfs =>
      simp only [List.map_cons, List.map_nil, List.cons.injEq, Prod.mk.injEq, and_true] at hfs
      obtain ⟨⟨t0, o0⟩, ⟨t1, o1⟩, ⟨t2, o2⟩, t3, o3⟩ := hfs
      match xs, hxl, cs, hcl with
      | [y0, y1, y2, y3], _, [v0, v1, v2, v3, v4, v5, v6, v7, v8, v9], _ =>
        have g0 := hf 0 f0 rfl
        have g1 := hf 1 f1 rfl
        have g2 := hf 2 f2 rfl
        have g3 := hf 3 f3 rfl
        simp [Value.cells, o0, o1, o2, o3, t0, t1, t2, t3, Try.cells3, Try.cells56, Try.cells62] at g0 g1 g2 g3
        have hwe : d.weights Try.prog 70 = y0.1.weights Try.prog 3 ++ (y1.1.weights Try.prog 3 ++ (y2.1.weights Try.prog 56 ++ (y3.1.weights Try.prog 62 ++ []))) := by
          simp only [Prod.mk.injEq] at hxy
          rw [hxy.1]
          simp only [List.map_cons, List.map_nil, DataW.weights, hu, DataW.weightsEach, t0, t1, t2, t3]
        obtain ⟨id, e0, _, wid⟩ := DataW.trod_int Try.underlying3 g0
        obtain ⟨pw, e1, _, wpw⟩ := DataW.trod_int Try.underlying3 g1
        have hv2 : ∃ A n c, v2 = .slice A n c := by
          rcases Deep.open_slice Try.underlying56 g2 with ⟨hcs, _⟩ | ⟨a, len, cap, m, nn, D, Pl, hcs, _⟩ <;> simp only [List.cons.injEq, and_true] at hcs <;> exact ⟨_, _, _, hcs⟩
        obtain ⟨A, n, c, rfl⟩ := hv2
        obtain ⟨hC, hn⟩ := open_changes (d := y2.1) (p := y2.2) (A := A) (n := n) (c := c) ⟨k, g2⟩ (fun n hn => hw n (by rw [hwe]; simp [hn]))
        obtain ⟨y, D, m, dc, e3, hy⟩ := seven_change rfl g3 (fun n hn => hw n (by rw [hwe]; simp [hn]))
        simp only [List.cons.injEq, and_true] at e0 e1 e3
        obtain ⟨rfl, rfl, rfl, rfl, rfl, rfl, rfl⟩ := e3
        subst e0 e1
        exact ⟨id, pw, A, n, c, y, D, m, dc, rfl, i64_wf wid, i64_wf wpw, hC, hn, hy⟩
  | _ => simp at hfs
end Go.Proofs.Ytjkpijinpfimiaa
