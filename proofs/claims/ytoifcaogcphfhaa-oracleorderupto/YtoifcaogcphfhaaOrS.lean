/-
  Scripts for an oracle that came in, of bounded bulk: a bool, a token, a key, pieces of bytes.
-/
import Derived.Test.YtoifcaogcphfhaaOrW
import Derived.Test.YtoifcaogcphfhaaBulkS
namespace Go.Proofs.Ytoifcaogcphfhaa
open Go.ChangeShapes Go.WideShapes Go.ChangeAt Go.RowKit Go.Joins
/-- pieces of bytes, of bounded bulk -/
def Dt (w : World) (F : Nat → Prop) (D : Option Addr) (n c : Nat) (L : List (List Nat)) : Prop := L.length = n ∧ n ≤ c ∧ n ≤ 1048576 ∧ Lists w F D L ∧ L.flatten.length ≤ 1048576
theorem Lists.chg {w w' : World} {F S : Nat → Prop} {A : Option Addr} {L : List (List Nat)} (h : Lists w F A L) (c : Chg S w w') (hF : ∀ k, F k → k < w.heap.size ∧ ¬ S k) : Lists w' F A L := by
  obtain ⟨vs, h1, h2⟩ := h
  exact ⟨vs, h1.chg c hF, fun i hi => (h2 i hi).chg c hF⟩
theorem Dt.chg {w w' : World} {F S : Nat → Prop} {D : Option Addr} {n c : Nat} {L : List (List Nat)} (h : Dt w F D n c L) (k : Chg S w w') (hF : ∀ k, F k → k < w.heap.size ∧ ¬ S k) : Dt w' F D n c L :=
  ⟨h.1, h.2.1, h.2.2.1, h.2.2.2.1.chg k hF, h.2.2.2.2⟩
theorem bulkAll_append {H : Type} (a b : List (DataW H)) : Rows.uptoBulkAll (a ++ b) = Rows.uptoBulkAll a + Rows.uptoBulkAll b := by
  induction a with
  | nil => simp [Rows.uptoBulkAll]
  | cons d r ih => simp only [List.cons_append, Rows.uptoBulkAll, ih]; omega
theorem flat_bulk {H : Type} (q : Nat → List Nat) (D : Nat → DataW H) (n : Nat) (h : ∀ i, i < n → (q i).length ≤ Rows.uptoBulk (D i)) : ((List.range n).map q).flatten.length ≤ Rows.uptoBulkAll ((List.range n).map D) := by
  induction n with
  | zero => simp
  | succ n ih =>
    have := ih fun i hi => h i (by omega)
    have := h n (by omega)
    rw [List.range_succ, List.map_append, List.map_append, List.flatten_append, List.length_append, bulkAll_append]
    simp only [List.map_cons, List.map_nil, List.flatten_cons, List.flatten_nil, List.append_nil, Rows.uptoBulkAll]
    omega
theorem open_dt {H : Type} {enc : TypeId × Value → H} {W : World} {sp : Nat → Bool} {held : Bool} {fuel : Nat} {v : Value} {d : DataW H} {p : List MemPlace}
    (h : DataW.trod enc Try.prog W 0 sp held fuel 33 [v] = some (d, p)) (hb : Rows.uptoBulk d ≤ 1048576) : ∃ D n c L, v = .slice D n c ∧ Dt W (· < W.heap.size) D n c L := by
  rcases Deep.open_slice1 Try.underlying33 Try.cells37 h with ⟨hcs, _⟩ | ⟨a, len, cap, m, nn, V, D, Pl, hcs, _, hl, hm, hmm, hx, hV⟩
  · simp only [List.cons.injEq, and_true] at hcs
    exact ⟨none, 0, 0, [], hcs, rfl, by omega, by omega, ⟨fun _ => undef, fun i hi => by simp at hi, fun i hi => by simp at hi⟩, by simp⟩
  · simp only [List.cons.injEq, and_true] at hcs
    have hnm : len ≤ m := by rw [hmm]; split <;> omega
    simp only [Prod.mk.injEq] at hx
    obtain ⟨rfl, _⟩ := hx
    simp only [Rows.uptoBulk] at hb
    have hlen := bulk_len ((List.range len).map D)
    simp only [List.length_map, List.length_range] at hlen
    have hrow : ∀ i, i < len → ∃ bs : List Nat, Byts W (· < W.heap.size) (V i) bs ∧ bs.length ≤ Rows.uptoBulk (D i) := by
      intro i hi
      obtain ⟨_, t0⟩ := hV i (by omega)
      have hbi : Rows.uptoBulk (D i) ≤ 1048576 := by
        have := bulk_mem (List.mem_map.2 ⟨i, List.mem_range.2 hi, rfl⟩ : D i ∈ (List.range len).map D)
        omega
      have hv : ∃ A n c, V i = .slice A n c := by
        rcases Deep.open_slice1 Try.underlying37 Try.cells5 t0 with ⟨hcs, _⟩ | ⟨a, len, cap, m, nn, V, D, Pl, hcs, _⟩ <;> simp only [List.cons.injEq, and_true] at hcs <;> exact ⟨_, _, _, hcs⟩
      obtain ⟨A, n, c, e⟩ := hv
      rw [e] at t0 ⊢
      have ht : DataW.Trod enc Try.prog W 0 sp held 37 (.slice A n c) (D i) (Pl i) := ⟨_, t0⟩
      have hnb := slice_bulk Try.underlying37 ht
      obtain ⟨bs, hbl, hA, h256, _, _, hnil⟩ := open_bytes ht
      subst hbl
      exact ⟨bs, ⟨A, c, rfl, hA, hnil, h256, by omega⟩, hnb⟩
    obtain ⟨q, hq⟩ := Deep.choose_lt hrow
    have hfl := flat_bulk q D len fun i hi => (hq i hi).2
    refine ⟨some a, len, cap, (List.range len).map q, hcs, by simp, hl, by omega, ⟨V, fun i hi => ⟨a, rfl, ?_, ?_⟩, fun i hi => ?_⟩, by omega⟩
    · have hi' : i < len := by simpa using hi
      have := World.block_lt_of_cell? _ _ (hV i (by omega)).1; rwa [add_block] at this
    · have hi' : i < len := by simpa using hi
      exact (hV i (by omega)).1
    · have hi' : i < len := by simpa using hi
      have : ((List.range len).map q).getD i [] = q i := by simp [List.getD_eq_getElem?_getD, hi']
      rw [this]
      exact (hq i hi').1
/-- a call of a script -/
structure Cl where
  ask : Bool
  t : Int
  k0 : Int
  k1 : Int
  k2 : Int
  k3 : Int
  L : List (List Nat)
structure ClOk (x : Cl) : Prop where
  t : (Lit.int .i64 x.t).wf = true
  k0 : (Lit.int .i64 x.k0).wf = true
  k1 : (Lit.int .i64 x.k1).wf = true
  k2 : (Lit.int .i64 x.k2).wf = true
  k3 : (Lit.int .i64 x.k3).wf = true
def Cl.sl (x : Cl) : Sl := ⟨x.k0, x.k1, x.k2, x.k3, bstr x.L.flatten⟩
theorem Try.cells35 : Try.prog.cellsOf 35 = 7 := by kernel_rfl
theorem Try.cells30 : Try.prog.cellsOf 30 = 1 := by kernel_rfl
theorem Try.cells4 : Try.prog.cellsOf 4 = 1 := by kernel_rfl
theorem Try.cells33 : Try.prog.cellsOf 33 = 1 := by kernel_rfl
theorem Try.fields35 : (Try.prog.underlying 35).map (fun u => match u with | .struct fs => fs.toList.map (fun f => (f.type, f.offset)) | _ => []) = some [(4, 0), (30, 1), (32, 2), (33, 6)] := by kernel_rfl
theorem Try.fields32 : (Try.prog.underlying 32).map (fun u => match u with | .struct fs => fs.toList.map (fun f => (f.type, f.offset)) | _ => []) = some [(3, 0), (3, 1), (3, 2), (3, 3)] := by kernel_rfl
set_option maxRecDepth 100000 in
theorem four_key {H : Type} {enc : TypeId × Value → H} {W : World} {sp : Nat → Bool} {held : Bool} {fuel : Nat} {cs : List Value} {x : DataW H × List MemPlace} (hl : cs.length = 4) (h : DataW.trod enc Try.prog W 0 sp held fuel 32 cs = some x) :
    ∃ k o i s : Int, cs = [.int .i64 k, .int .i64 o, .int .i64 i, .int .i64 s] ∧ (Lit.int .i64 k).wf = true ∧ (Lit.int .i64 o).wf = true ∧ (Lit.int .i64 i).wf = true ∧ (Lit.int .i64 s).wf = true := by
  obtain ⟨u, hu, hfs⟩ := Option.map_eq_some_iff.1 Try.fields32
  cases u with
  | struct fs =>
    obtain ⟨xs, k, hk, hxy, _, hxl, hf⟩ := DataW.trod_struct hu h
    obtain ⟨fs⟩ := fs
    match fs, hfs with
    | [f0, f1, f2, f3], hfs =>
      simp only [List.map_cons, List.map_nil, List.cons.injEq, Prod.mk.injEq, and_true] at hfs
      obtain ⟨⟨t0, o0⟩, ⟨t1, o1⟩, ⟨t2, o2⟩, t3, o3⟩ := hfs
      match xs, hxl, cs, hl with
      | [y0, y1, y2, y3], _, [v0, v1, v2, v3], _ =>
        have g0 := hf 0 f0 rfl
        have g1 := hf 1 f1 rfl
        have g2 := hf 2 f2 rfl
        have g3 := hf 3 f3 rfl
        simp [o0, o1, o2, o3, t0, t1, t2, t3, Try.cells3] at g0 g1 g2 g3
        obtain ⟨k, e0, _, w0⟩ := DataW.trod_int Try.underlying3 g0
        obtain ⟨o, e1, _, w1⟩ := DataW.trod_int Try.underlying3 g1
        obtain ⟨i, e2, _, w2⟩ := DataW.trod_int Try.underlying3 g2
        obtain ⟨s, e3, _, w3⟩ := DataW.trod_int Try.underlying3 g3
        simp only [List.cons.injEq, and_true] at e0 e1 e2 e3
        exact ⟨k, o, i, s, by rw [e0, e1, e2, e3], w0, w1, w2, w3⟩
  | _ => simp at hfs
set_option maxRecDepth 100000 in
theorem seven_op {H : Type} {enc : TypeId × Value → H} {W : World} {sp : Nat → Bool} {held : Bool} {fuel : Nat} {cs : List Value} {x : DataW H × List MemPlace} (hl : cs.length = 7) (h : DataW.trod enc Try.prog W 0 sp held fuel 35 cs = some x) (hb : Rows.uptoBulk x.1 ≤ 1048576) :
    ∃ (y : Cl) (D : Option Addr) (n c : Nat), cs = [.bool y.ask, .int .i64 y.t, .int .i64 y.k0, .int .i64 y.k1, .int .i64 y.k2, .int .i64 y.k3, .slice D n c] ∧ ClOk y ∧ Dt W (· < W.heap.size) D n c y.L := by
  obtain ⟨u, hu, hfs⟩ := Option.map_eq_some_iff.1 Try.fields35
  cases u with
  | struct fs =>
    obtain ⟨xs, k, hk, hxy, _, hxl, hf⟩ := DataW.trod_struct hu h
    obtain ⟨fs⟩ := fs
    match fs, hfs with
    | [f0, f1, f2, f3], hfs =>
      simp only [List.map_cons, List.map_nil, List.cons.injEq, Prod.mk.injEq, and_true] at hfs
      obtain ⟨⟨t0, o0⟩, ⟨t1, o1⟩, ⟨t2, o2⟩, t3, o3⟩ := hfs
      match xs, hxl, cs, hl with
      | [y0, y1, y2, y3], _, [v0, v1, v2, v3, v4, v5, v6], _ =>
        have g0 := hf 0 f0 rfl
        have g1 := hf 1 f1 rfl
        have g2 := hf 2 f2 rfl
        have g3 := hf 3 f3 rfl
        simp [o0, o1, o2, o3, t0, t1, t2, t3, Try.cells4, Try.cells30, Try.cells32, Try.cells33] at g0 g1 g2 g3
        have hb3 : Rows.uptoBulk y3.1 ≤ 1048576 := by
          rw [hxy] at hb
          simp only [List.map_cons, List.map_nil, Rows.uptoBulk, Rows.uptoBulkAll] at hb
          omega
        obtain ⟨b, e0, _⟩ := DataW.trod_bool Try.underlying4 g0
        obtain ⟨t, e1, _, wt⟩ := DataW.trod_int Try.underlying30 g1
        obtain ⟨k0, k1, k2, k3, e2, w0, w1, w2, w3⟩ := four_key rfl g2
        obtain ⟨D, n, c, L, e3, hD⟩ := open_dt (d := y3.1) (p := y3.2) g3 hb3
        simp only [List.cons.injEq, and_true] at e0 e1 e2
        obtain ⟨rfl, rfl, rfl, rfl⟩ := e2
        subst e0 e1 e3
        exact ⟨⟨b, t, k0, k1, k2, k3, L⟩, D, n, c, rfl, ⟨wt, w0, w1, w2, w3⟩, hD⟩
  | _ => simp at hfs
/-- the i-th call of a script in memory -/
def ClAt (w : World) (F : Nat → Prop) (A : Option Addr) (i : Nat) (x : Cl) (D : Option Addr) (n c : Nat) : Prop :=
  ∃ a, A = some a ∧ F a.block ∧ w.cell? (a.add (i * 7)) = some (.bool x.ask) ∧ w.cell? ⟨(a.add (i * 7)).block, (a.add (i * 7)).off + 1, none⟩ = some (.int .i64 x.t) ∧ w.cell? ⟨(a.add (i * 7)).block, (a.add (i * 7)).off + 2, none⟩ = some (.int .i64 x.k0) ∧ w.cell? ⟨(a.add (i * 7)).block, (a.add (i * 7)).off + 3, none⟩ = some (.int .i64 x.k1) ∧
    w.cell? ⟨(a.add (i * 7)).block, (a.add (i * 7)).off + 4, none⟩ = some (.int .i64 x.k2) ∧ w.cell? ⟨(a.add (i * 7)).block, (a.add (i * 7)).off + 5, none⟩ = some (.int .i64 x.k3) ∧ w.cell? ⟨(a.add (i * 7)).block, (a.add (i * 7)).off + 6, none⟩ = some (.slice D n c) ∧ ClOk x ∧ Dt w F D n c x.L
def Cls (w : World) (F : Nat → Prop) (A : Option Addr) (n : Nat) : Prop := ∀ i, i < n → ∃ x D m c, ClAt w F A i x D m c
theorem ClAt.chg {w w' : World} {F S : Nat → Prop} {A D : Option Addr} {i n c : Nat} {x : Cl} (h : ClAt w F A i x D n c) (k : Chg S w w') (hF : ∀ k, F k → k < w.heap.size ∧ ¬ S k) : ClAt w' F A i x D n c := by
  obtain ⟨a, rfl, hb, h0, h1, h2, h3, h4, h5, h6, hv, hd⟩ := h
  have hb1 : (a.add (i * 7)).block < w.heap.size := by rw [add_block]; exact (hF _ hb).1
  have hb2 : ¬ S (a.add (i * 7)).block := by rw [add_block]; exact (hF _ hb).2
  have kk := fun t => k.cell (p := ⟨(a.add (i * 7)).block, t, none⟩) hb1 hb2
  exact ⟨a, rfl, hb, (k.cell hb1 hb2).trans h0, (kk _).trans h1, (kk _).trans h2, (kk _).trans h3, (kk _).trans h4, (kk _).trans h5, (kk _).trans h6, hv, hd.chg k hF⟩
set_option maxRecDepth 100000 in
theorem open_script {H : Type} {enc : TypeId × Value → H} {W : World} {sp : Nat → Bool} {held : Bool} {A : Option Addr} {n c : Nat} {d : DataW H} {p : List MemPlace}
    (h : DataW.Trod enc Try.prog W 0 sp held 22 (.slice A n c) d p) (hb : Rows.uptoBulk d ≤ 1048576) : Cls W (· < W.heap.size) A n := by
  obtain ⟨fuel, hf⟩ := h
  rcases Deep.open_slice Try.underlying22 hf with ⟨hcs, _⟩ | ⟨a, len, cap, m, nn, D, Pl, hcs, _, hl, hm, hmm, hx, hV⟩
  · simp [Value.cells] at hcs
    obtain ⟨rfl, rfl, rfl⟩ := hcs
    exact fun i hi => by omega
  · simp [Value.cells] at hcs
    obtain ⟨rfl, rfl, rfl⟩ := hcs
    simp only [Prod.mk.injEq] at hx
    obtain ⟨rfl, _⟩ := hx
    have hlm : n ≤ m := by rw [hmm]; split <;> omega
    intro i hi
    obtain ⟨cs', h1, h2⟩ := hV i (by omega)
    rw [Try.cells35] at h1
    have hmem : D i ∈ (List.range n).map D := List.mem_map.2 ⟨i, List.mem_range.2 hi, rfl⟩
    obtain ⟨_, hlen, hcell⟩ := World.cells?_some h1
    obtain ⟨y, DD, mm, dc, rfl, hok, hy⟩ := seven_op hlen h2 (by
      have := bulk_mem hmem
      simp only [Rows.uptoBulk] at hb
      show Rows.uptoBulk (D i) ≤ 1048576
      omega)
    have e0 := hcell 0 (by omega)
    have hblk : a.block < W.heap.size := by
      have := World.block_lt_of_cell? _ _ (u := Value.bool y.ask) (by simpa using e0)
      rwa [add_block, add_block] at this
    have hc : ∀ t, 0 < t → t < 7 → W.cell? ⟨(a.add (i * 7)).block, (a.add (i * 7)).off + t, none⟩ = [Value.bool y.ask, .int .i64 y.t, .int .i64 y.k0, .int .i64 y.k1, .int .i64 y.k2, .int .i64 y.k3, .slice DD mm dc][t]? := by
      intro t ht ht7
      have e := hcell t (by omega)
      have hadd : (a.add (i * 7)).add t = ⟨(a.add (i * 7)).block, (a.add (i * 7)).off + t, none⟩ := by
        generalize a.add (i * 7) = p
        unfold Addr.add
        rw [if_neg (by omega)]
      rw [hadd] at e
      rw [e]
    exact ⟨y, DD, mm, dc, a, rfl, hblk, by simpa [Addr.add] using e0, hc 1 (by omega) (by omega), hc 2 (by omega) (by omega), hc 3 (by omega) (by omega), hc 4 (by omega) (by omega), hc 5 (by omega) (by omega), hc 6 (by omega) (by omega), hok, hy⟩
set_option maxRecDepth 100000 in
theorem open_guess {H : Type} {enc : TypeId × Value → H} {W : World} {sp : Nat → Bool} {held : Bool} {r : Reach} {b0 : Nat} {v : Value} {d : DataW H} {p : List MemPlace}
    (hv : Value.okWide Try.prog W r b0 35 v) (h : DataW.Trod enc Try.prog W 0 sp held 35 v d p) (hb : Rows.uptoBulk d ≤ 1048576) :
    ∃ (y : Cl) (D : Option Addr) (n c : Nat), v = .agg #[.bool y.ask, .int .i64 y.t, .int .i64 y.k0, .int .i64 y.k1, .int .i64 y.k2, .int .i64 y.k3, .slice D n c] ∧ ClOk y ∧ Dt W (· < W.heap.size) D n c y.L := by
  obtain ⟨u, hu, hfs⟩ := Option.map_eq_some_iff.1 Try.fields35
  cases u with
  | struct fs =>
    obtain ⟨cs, rfl, hsz⟩ := okWide_struct hu hv
    obtain ⟨fuel, hf0⟩ := h
    have hcl : cs.toList.length = 7 := by have := hsz.trans Try.cells35; simpa using this
    obtain ⟨y, D, n, c, e, h1, h2⟩ := seven_op (cs := cs.toList) (x := (d, p)) hcl hf0 hb
    refine ⟨y, D, n, c, ?_, h1, h2⟩
    obtain ⟨cs⟩ := cs
    simp only at e
    rw [e]
  | _ => simp at hfs
end Go.Proofs.Ytoifcaogcphfhaa
