/-
  Nested elements in memory: as they came in or were made (Lay), as the call's own new rows (OwnT); kept, joined; opened from what came in.
-/
import Derived.Test.YtkcokcanakljnaaTree
import Derived.Test.YtkcokcanakljnaaSeqC
import Derived.Test.YtkcokcanakljnaaSizes
namespace Go.Proofs.Ytkcokcanakljnaa
open Go.ChangeShapes Go.WideShapes Go.ChangeAt Go.RowKit
/-- the three cells of element i -/
def Three (w : World) (F : Nat → Prop) (A : Option Addr) (i : Nat) (t : Int) (vb vs : Value) : Prop :=
  ∃ a, A = some a ∧ F a.block ∧ w.cell? (a.add (i * 3)) = some (.int .i64 t) ∧ w.cell? ⟨(a.add (i * 3)).block, (a.add (i * 3)).off + 1, none⟩ = some vb ∧ w.cell? ⟨(a.add (i * 3)).block, (a.add (i * 3)).off + 2, none⟩ = some vs
/-- elements in memory, in blocks of F, from element i on -/
def Lay (w : World) (F : Nat → Prop) : Option Addr → Nat → Tr → Prop
  | _, _, .nil => True
  | A, i, .cons t bs sub rest =>
    (∃ vb B c, Three w F A i t vb (.slice B sub.len c) ∧ Byts w F vb bs ∧ (B = none → sub.len = 0 ∧ c = 0) ∧ sub.len * 56 ≤ 140737488351232 ∧ (-9223372036854775808 ≤ t ∧ t ≤ 9223372036854775807) ∧ Lay w F B 0 sub) ∧ Lay w F A (i + 1) rest
/-- a slice of elements -/
def Els (w : World) (F : Nat → Prop) (v : Value) (T : Tr) : Prop := ∃ A c, v = .slice A T.len c ∧ (A = none → T.len = 0 ∧ c = 0) ∧ T.len * 56 ≤ 140737488351232 ∧ Lay w F A 0 T
section
variable {w w' : World} {F S G : Nat → Prop} {A : Option Addr} {i : Nat} {t : Int} {vb vs : Value}
theorem Three.chg (h : Three w F A i t vb vs) (c : Chg S w w') (hF : ∀ k, F k → k < w.heap.size ∧ ¬ S k) : Three w' F A i t vb vs := by
  obtain ⟨a, rfl, hb, h1, h2, h3⟩ := h
  have e : (a.add (i * 3)).block < w.heap.size ∧ ¬ S (a.add (i * 3)).block := by rw [add_block]; exact hF _ hb
  exact ⟨a, rfl, hb, (c.cell e.1 e.2).trans h1, (c.cell (p := ⟨(a.add (i * 3)).block, _, none⟩) e.1 e.2).trans h2, (c.cell (p := ⟨(a.add (i * 3)).block, _, none⟩) e.1 e.2).trans h3⟩
theorem Lay.chg {T : Tr} (c : Chg S w w') (hF : ∀ k, F k → k < w.heap.size ∧ ¬ S k) : ∀ {A : Option Addr} {i : Nat}, Lay w F A i T → Lay w' F A i T := by
  induction T with
  | nil => intros; trivial
  | cons t bs sub rest ih1 ih2 =>
    rintro A i ⟨⟨vb, B, cc, h3, hb, hn, hl, hr, hs⟩, h⟩
    exact ⟨⟨vb, B, cc, h3.chg c hF, hb.chg c hF, hn, hl, hr, ih1 hs⟩, ih2 h⟩
theorem Lay.new {T : Tr} (h : Lay w F A i T) (c : New w w') (hF : ∀ k, F k → k < w.heap.size) : Lay w' F A i T := Lay.chg c (fun k hk => ⟨hF k hk, fun f => f⟩) h
theorem Lay.mono {T : Tr} (hF : ∀ k, F k → G k) : ∀ {A : Option Addr} {i : Nat}, Lay w F A i T → Lay w G A i T := by
  induction T with
  | nil => intros; trivial
  | cons t bs sub rest ih1 ih2 =>
    rintro A i ⟨⟨vb, B, cc, ⟨a, ha, hab, h3⟩, hb, hn, hl, hr, hs⟩, h⟩
    exact ⟨⟨vb, B, cc, ⟨a, ha, hF _ hab, h3⟩, hb.mono hF, hn, hl, hr, ih1 hs⟩, ih2 h⟩
theorem Els.new {v : Value} {T : Tr} (h : Els w F v T) (c : New w w') (hF : ∀ k, F k → k < w.heap.size) : Els w' F v T := by
  obtain ⟨A, cc, h1, h2, h3, h4⟩ := h
  exact ⟨A, cc, h1, h2, h3, h4.new c hF⟩
theorem Els.chg {v : Value} {T : Tr} (h : Els w F v T) (c : Chg S w w') (hF : ∀ k, F k → k < w.heap.size ∧ ¬ S k) : Els w' F v T := by
  obtain ⟨A, cc, h1, h2, h3, h4⟩ := h
  exact ⟨A, cc, h1, h2, h3, h4.chg c hF⟩
theorem Els.mono {v : Value} {T : Tr} (h : Els w F v T) (hF : ∀ k, F k → G k) : Els w G v T := by
  obtain ⟨A, cc, h1, h2, h3, h4⟩ := h
  exact ⟨A, cc, h1, h2, h3, h4.mono hF⟩
end
/-- a row of the call's own, in a block of F -/
def OwnR (w : World) (F : Nat → Prop) (e size : Nat) (v : Value) (n : Nat) (xs : List Value) : Prop := w.ownsRow 0 e size v n xs ∧ ∀ k, v.ownBlock = some k → F k
/-- elements, each in rows of the call's own, in blocks of F: their cells in order -/
def OwnT (w : World) (F : Nat → Prop) : List Value → Tr → Prop
  | xs, .nil => xs = []
  | xs, .cons t bs sub rest => ∃ vb vs ys, xs = .int .i64 t :: vb :: vs :: ys ∧ OwnR w F 5 1 vb bs.length (bs.map bV) ∧ (∀ x ∈ bs, x < 256) ∧ bs.length ≤ 140737488355328 ∧ sub.len * 56 ≤ 140737488351232 ∧
    (-9223372036854775808 ≤ t ∧ t ≤ 9223372036854775807) ∧ (∃ zs, OwnR w F 95 3 vs sub.len zs ∧ OwnT w F zs sub) ∧ OwnT w F ys rest
/-- a new slice of elements -/
def OwnE (w : World) (F : Nat → Prop) (v : Value) (T : Tr) : Prop := ∃ xs, OwnR w F 95 3 v T.len xs ∧ OwnT w F xs T
section
variable {w w' : World} {F S G : Nat → Prop}
theorem OwnR.chg {e size n : Nat} {v : Value} {xs : List Value} (h : OwnR w F e size v n xs) (c : Chg S w w') (hF : ∀ k, F k → ¬ S k) : OwnR w' F e size v n xs :=
  ⟨own_chg h.1 c fun k hk => hF k (h.2 k hk), h.2⟩
theorem OwnT.chg {T : Tr} (c : Chg S w w') (hF : ∀ k, F k → ¬ S k) : ∀ {xs : List Value}, OwnT w F xs T → OwnT w' F xs T := by
  induction T with
  | nil => intro xs h; exact h
  | cons t bs sub rest ih1 ih2 =>
    rintro xs ⟨vb, vs, ys, he, hb, h256, hbl, hl, hr, ⟨zs, hz, ht⟩, h⟩
    exact ⟨vb, vs, ys, he, hb.chg c hF, h256, hbl, hl, hr, ⟨zs, hz.chg c hF, ih1 ht⟩, ih2 h⟩
theorem OwnT.new {T : Tr} {xs : List Value} (h : OwnT w F xs T) (c : New w w') : OwnT w' F xs T := OwnT.chg c (fun _ _ f => f) h
theorem OwnT.mono {T : Tr} (hF : ∀ k, F k → G k) : ∀ {xs : List Value}, OwnT w F xs T → OwnT w G xs T := by
  induction T with
  | nil => intro xs h; exact h
  | cons t bs sub rest ih1 ih2 =>
    rintro xs ⟨vb, vs, ys, he, hb, h256, hbl, hl, hr, ⟨zs, hz, ht⟩, h⟩
    exact ⟨vb, vs, ys, he, ⟨hb.1, fun k hk => hF k (hb.2 k hk)⟩, h256, hbl, hl, hr, ⟨zs, ⟨hz.1, fun k hk => hF k (hz.2 k hk)⟩, ih1 ht⟩, ih2 h⟩
theorem OwnT.length {T : Tr} : ∀ {xs : List Value}, OwnT w F xs T → xs.length = T.len * 3 := by
  induction T with
  | nil => intro xs h; rw [show xs = [] from h]; rfl
  | cons t bs sub rest ih1 ih2 =>
    rintro xs ⟨vb, vs, ys, he, _, _, _, _, _, _, h⟩
    rw [he]
    simp only [List.length_cons, ih2 h, Tr.len]; omega
theorem OwnT.app {T U : Tr} {ys : List Value} (hU : OwnT w F ys U) : ∀ {xs : List Value}, OwnT w F xs T → OwnT w F (xs ++ ys) (T.app U) := by
  induction T with
  | nil => intro xs h; rw [show xs = [] from h]; exact hU
  | cons t bs sub rest ih1 ih2 =>
    rintro xs ⟨vb, vs, zs, he, hb, h256, hbl, hl, hr, hz, h⟩
    exact ⟨vb, vs, zs ++ ys, by rw [he]; rfl, hb, h256, hbl, hl, hr, hz, ih2 h⟩
theorem OwnE.chg {v : Value} {T : Tr} (h : OwnE w F v T) (c : Chg S w w') (hF : ∀ k, F k → ¬ S k) : OwnE w' F v T := by
  obtain ⟨xs, h1, h2⟩ := h
  exact ⟨xs, h1.chg c hF, OwnT.chg c hF h2⟩
theorem OwnE.new {v : Value} {T : Tr} (h : OwnE w F v T) (c : New w w') : OwnE w' F v T := h.chg c fun _ _ f => f
theorem OwnE.mono {v : Value} {T : Tr} (h : OwnE w F v T) (hF : ∀ k, F k → G k) : OwnE w G v T := by
  obtain ⟨xs, h1, h2⟩ := h
  exact ⟨xs, ⟨h1.1, fun k hk => hF k (h1.2 k hk)⟩, OwnT.mono hF h2⟩
theorem OwnR.byts {n : Nat} {v : Value} {bs : List Nat} (hn : bs.length = n) (h : OwnR w F 5 1 v n (bs.map bV)) (h256 : ∀ x ∈ bs, x < 256) (hb : bs.length ≤ 140737488355328) : Byts w (fun k => F k ∧ k < w.heap.size) v bs := by
  subst hn
  obtain ⟨A, c, rfl, _⟩ := own_form h.1
  exact (Byts.of_own h.1 h256 hb).mono fun k hk => ⟨h.2 k hk, own_below h.1 k hk⟩
theorem own_three {e c n : Nat} {A : Option Addr} {pre ys : List Value} {i : Nat} {t : Int} {vb vs : Value} (h : w.ownsRow 0 e 3 (.slice A n c) n (pre ++ .int .i64 t :: vb :: vs :: ys)) (hp : pre.length = i * 3) (hF : ∀ k, Value.ownBlock (.slice A n c) = some k → F k) :
    Three w (fun k => F k ∧ k < w.heap.size) A i t vb vs := by
  rcases h.2 with ⟨hv, hn⟩ | ⟨g, cap, cur, hv, _⟩
  · have := h.1; subst hn; simp at this
  · simp only [Value.slice.injEq] at hv
    obtain ⟨rfl, _, rfl⟩ := hv
    have hadd : (⟨g, 0, none⟩ : Addr).add (i * 3) = ⟨g, i * 3, none⟩ := by unfold Addr.add; split <;> simp_all
    have hc := fun j u hu => h.cells (g := g) rfl j u hu
    refine ⟨_, rfl, ⟨hF g rfl, own_below h g rfl⟩, ?_, ?_, ?_⟩ <;> rw [hadd]
    · have := hc (i * 3) (.int .i64 t) (by rw [List.getElem?_append_right (by omega)]; simp [hp])
      rwa [hadd] at this
    · have := hc (i * 3 + 1) vb (by rw [List.getElem?_append_right (by omega)]; simp [hp])
      have hadd1 : (⟨g, 0, none⟩ : Addr).add (i * 3 + 1) = ⟨g, i * 3 + 1, none⟩ := by unfold Addr.add; split <;> simp_all
      rwa [hadd1] at this
    · have := hc (i * 3 + 2) vs (by rw [List.getElem?_append_right (by omega)]; simp [hp])
      have hadd1 : (⟨g, 0, none⟩ : Addr).add (i * 3 + 2) = ⟨g, i * 3 + 2, none⟩ := by unfold Addr.add; split <;> simp_all
      rwa [hadd1] at this
theorem OwnT.lay {T : Tr} : ∀ {A : Option Addr} {c n i : Nat} {pre xs : List Value}, OwnT w F xs T → w.ownsRow 0 95 3 (.slice A n c) n (pre ++ xs) → pre.length = i * 3 → (∀ k, Value.ownBlock (.slice A n c) = some k → F k) → Lay w (fun k => F k ∧ k < w.heap.size) A i T := by
  induction T with
  | nil => intros; trivial
  | cons t bs sub rest ih1 ih2 =>
    rintro A c n i pre xs ⟨vb, vs, ys, rfl, hb, h256, hbl, hl, hr, ⟨zs, hz, ht⟩, h⟩ ho hp hF
    obtain ⟨B, cb, rfl, hn⟩ := own_form hz.1
    refine ⟨⟨vb, B, cb, own_three ho hp hF, hb.byts rfl h256 hbl, hn, hl, hr, ih1 (pre := []) ht hz.1 rfl hz.2⟩, ?_⟩
    refine ih2 (pre := pre ++ [.int .i64 t, vb, .slice B sub.len cb]) h (by simpa using ho) (by simp [hp]; omega) hF
theorem OwnE.els {v : Value} {T : Tr} (h : OwnE w F v T) (hl : T.len * 56 ≤ 140737488351232) : Els w (fun k => F k ∧ k < w.heap.size) v T := by
  obtain ⟨xs, h1, h2⟩ := h
  obtain ⟨A, c, rfl, hn⟩ := own_form h1.1
  exact ⟨A, c, rfl, hn, hl, OwnT.lay (pre := []) h2 h1.1 rfl h1.2⟩
end
theorem Try.fields95 : (Try.prog.underlying 95).map (fun u => match u with | .struct fs => fs.toList.map (fun f => (f.type, f.offset)) | _ => []) = some [(3, 0), (27, 1), (90, 2)] := by kernel_rfl
theorem Try.cells95 : Try.prog.cellsOf 95 = 3 := by kernel_rfl
theorem Try.cells27 : Try.prog.cellsOf 27 = 1 := by kernel_rfl
theorem Try.cells90 : Try.prog.cellsOf 90 = 1 := by kernel_rfl
theorem Try.bytes95 : Try.prog.bytesOf 95 = 56 := by kernel_rfl
theorem lay_build {w : World} {F : Nat → Prop} {A : Option Addr} {n : Nat} (h : ∀ i, i < n → ∃ t bs sub, Lay w F A i (.cons t bs sub .nil)) : ∀ k, k ≤ n → ∃ R : Tr, R.len = k ∧ Lay w F A (n - k) R := by
  intro k
  induction k with
  | zero => intro _; exact ⟨.nil, rfl, trivial⟩
  | succ k ih =>
    intro hk
    obtain ⟨R, hl, hR⟩ := ih (by omega)
    obtain ⟨t, bs, sub, h1, _⟩ := h (n - (k + 1)) (by omega)
    refine ⟨.cons t bs sub R, by simp [Tr.len, hl], h1, ?_⟩
    rw [show n - (k + 1) + 1 = n - k by omega]
    exact hR
theorem weights_all {H : Type} {e : TypeId} {ds : List (DataW H)} {d : DataW H} (hd : d ∈ ds) {n : Nat} (hn : n ∈ d.weights Try.prog e) : n ∈ DataW.weightsAll Try.prog e ds := by
  induction ds with
  | nil => cases hd
  | cons x r ih =>
    simp only [DataW.weightsAll, List.mem_append]
    rcases List.mem_cons.1 hd with rfl | hd
    · exact Or.inl hn
    · exact Or.inr (ih hd)
set_option maxRecDepth 100000 in
theorem three_cells {H : Type} {enc : TypeId × Value → H} {W : World} {sp : Nat → Bool} {held : Bool} {fuel : Nat} {cs : List Value} {x : DataW H × List MemPlace} (hl : cs.length = 3) (h : DataW.trod enc Try.prog W 0 sp held fuel 95 cs = some x) :
    ∃ v0 v1 v2 d0 d1 d2 p0 p1 p2 k, cs = [v0, v1, v2] ∧ x.1 = .agg [d0, d1, d2] ∧ DataW.trod enc Try.prog W 0 sp held k 3 [v0] = some (d0, p0) ∧ DataW.trod enc Try.prog W 0 sp held k 27 [v1] = some (d1, p1) ∧ DataW.trod enc Try.prog W 0 sp held k 90 [v2] = some (d2, p2) ∧
      x.1.weights Try.prog 95 = d0.weights Try.prog 3 ++ (d1.weights Try.prog 27 ++ (d2.weights Try.prog 90 ++ [])) := by
  have hf41 := Try.fields95
  obtain ⟨u, hu, hfs⟩ := Option.map_eq_some_iff.1 hf41
  cases u with
  | struct fs =>
    obtain ⟨xs, k, hk, hxy, _, hxl, hf⟩ := DataW.trod_struct hu h
    obtain ⟨fs⟩ := fs
    match fs, hfs with
    | [f0, f1, f2], hfs =>
      simp only [List.map_cons, List.map_nil, List.cons.injEq, Prod.mk.injEq, and_true] at hfs
      obtain ⟨⟨t0, o0⟩, ⟨t1, o1⟩, t2, o2⟩ := hfs
      match xs, hxl, cs, hl with
      | [y0, y1, y2], _, [v0, v1, v2], _ =>
        have g0 := hf 0 f0 rfl
        have g1 := hf 1 f1 rfl
        have g2 := hf 2 f2 rfl
        simp [o0, o1, o2, t0, t1, t2, Try.cells3, Try.cells27, Try.cells90] at g0 g1 g2
        subst hxy
        refine ⟨v0, v1, v2, y0.1, y1.1, y2.1, y0.2, y1.2, y2.2, k, rfl, rfl, g0, g1, g2, ?_⟩
        simp only [List.map_cons, List.map_nil, DataW.weights, hu, DataW.weightsEach, t0, t1, t2]
  | _ => simp at hfs
theorem add_far (p : Addr) (j : Nat) : p.add j = ⟨p.block, p.off + j, none⟩ ∨ j = 0 := by
  rcases Nat.eq_zero_or_pos j with h | h
  · exact Or.inr h
  · left; unfold Addr.add; rw [if_neg (by omega)]
theorem one_elem {H : Type} {enc : TypeId × Value → H} {W : World} {sp : Nat → Bool} {held : Bool} {a : Addr} {i fuel : Nat} {cs : List Value} {x : DataW H × List MemPlace}
    (hc : W.cells? 0 (a.add (i * 3)) 3 = some cs) (h : DataW.trod enc Try.prog W 0 sp held fuel 95 cs = some x) (hw : ∀ n ∈ x.1.weights Try.prog 95, n ≤ reachBytes)
    (ih : ∀ (d : DataW H), SizeOf.sizeOf d < SizeOf.sizeOf x.1 → ∀ (A : Option Addr) (n c : Nat) (p : List MemPlace), DataW.Trod enc Try.prog W 0 sp held 90 (.slice A n c) d p → (∀ n ∈ d.weights Try.prog 90, n ≤ reachBytes) →
      (A = none → n = 0 ∧ c = 0) ∧ n * 56 ≤ 140737488351232 ∧ ∃ T : Tr, T.len = n ∧ Lay W (· < W.heap.size) A 0 T) :
    ∃ t bs sub, Lay W (· < W.heap.size) (some a) i (.cons t bs sub .nil) := by
  obtain ⟨_, hlen, hcell⟩ := World.cells?_some hc
  obtain ⟨v0, v1, v2, d0, d1, d2, p0, p1, p2, k, rfl, hx1, h0, h1, h2, hwe⟩ := three_cells hlen h
  obtain ⟨t, e0, _, wt⟩ := DataW.trod_int Try.underlying3 h0
  simp only [List.cons.injEq, and_true] at e0
  subst e0
  have hv1 : ∃ A n c, v1 = .slice A n c := by
    rcases Deep.open_slice1 Try.underlying27 Try.cells5 h1 with ⟨hcs, _⟩ | ⟨a, len, cap, m, nn, V, D, Pl, hcs, _⟩ <;> simp only [List.cons.injEq, and_true] at hcs <;> exact ⟨_, _, _, hcs⟩
  have hv2 : ∃ A n c, v2 = .slice A n c := by
    rcases Deep.open_slice Try.underlying90 h2 with ⟨hcs, _⟩ | ⟨a, len, cap, m, nn, D, Pl, hcs, _⟩ <;> simp only [List.cons.injEq, and_true] at hcs <;> exact ⟨_, _, _, hcs⟩
  obtain ⟨A1, n1, c1, rfl⟩ := hv1
  obtain ⟨A2, n2, c2, rfl⟩ := hv2
  obtain ⟨⟨bs, hbl, hA, h256, _, _, hnil⟩, hb⟩ := open_bytesz (d := d1) (p := p1) ⟨k, h1⟩ (fun n hn => hw n (by rw [hwe]; simp [hn]))
  obtain ⟨hn2, hs2, T, hT, hLay⟩ := ih d2 (by rw [hx1]; simp; omega) A2 n2 c2 p2 ⟨k, h2⟩ (fun n hn => hw n (by rw [hwe]; simp [hn]))
  have ht := i64_wf wt
  have e0 := hcell 0 (by omega)
  have e1 := hcell 1 (by omega)
  have e2 := hcell 2 (by omega)
  have hblk : a.block < W.heap.size := by
    have := World.block_lt_of_cell? _ _ (u := Value.int .i64 t) (by simpa using e0)
    rwa [add_block, add_block] at this
  have hadd := fun j => add_far (a.add (i * 3)) j
  subst hbl hT
  refine ⟨t, bs, T, ⟨_, A2, c2, ⟨a, rfl, hblk, ?_, ?_, ?_⟩, ⟨A1, c1, rfl, hA, hnil, h256, by omega⟩, hn2, hs2, ht, hLay⟩, trivial⟩
  · simpa [Addr.add] using e0
  · rcases hadd 1 with h | h
    · rw [h] at e1; simpa using e1
    · cases h
  · rcases hadd 2 with h | h
    · rw [h] at e2; simpa using e2
    · cases h
theorem open_tree_any {H : Type} {enc : TypeId × Value → H} {W : World} {sp : Nat → Bool} {held : Bool} : ∀ (N : Nat) (d : DataW H), SizeOf.sizeOf d ≤ N → ∀ (A : Option Addr) (n c : Nat) (p : List MemPlace), DataW.Trod enc Try.prog W 0 sp held 90 (.slice A n c) d p → (∀ n ∈ d.weights Try.prog 90, n ≤ reachBytes) →
      (A = none → n = 0 ∧ c = 0) ∧ n * 56 ≤ 140737488351232 ∧ ∃ T : Tr, T.len = n ∧ Lay W (· < W.heap.size) A 0 T := by
  intro N
  induction N with
  | zero => intro d hd; cases d <;> simp at hd
  | succ N ih =>
    intro d hd A n c p hT hw
    obtain ⟨fuel, hf⟩ := hT
    rcases Deep.open_slice Try.underlying90 hf with ⟨hcs, _⟩ | ⟨a, len, cap, m, nn, D, Pl, hcs, _, hl, hm, hmm, hx, hV⟩
    · simp [Value.cells] at hcs
      obtain ⟨rfl, rfl, rfl⟩ := hcs
      exact ⟨fun _ => ⟨rfl, rfl⟩, by omega, .nil, rfl, trivial⟩
    · simp [Value.cells] at hcs
      obtain ⟨rfl, rfl, rfl⟩ := hcs
      simp only [Prod.mk.injEq] at hx
      obtain ⟨rfl, _⟩ := hx
      have hlm : n ≤ m := by rw [hmm]; split <;> omega
      have hsz := hw ((((List.range n).map D).length + ((List.range (m - n)).map fun j => D (n + j)).length) * Try.prog.bytesOf 95) (by simp only [DataW.weights, Try.underlying90]; exact List.mem_cons_self ..)
      rw [Try.bytes95] at hsz
      simp only [List.length_map, List.length_range, reachBytes] at hsz
      refine ⟨(fun h => by cases h), by omega, ?_⟩
      have := lay_build (w := W) (F := (· < W.heap.size)) (A := some a) (n := n) (fun i hi => by
        obtain ⟨cs', h1, h2⟩ := hV i (by omega)
        rw [Try.cells95] at h1
        have hmem : D i ∈ (List.range n).map D := List.mem_map.2 ⟨i, List.mem_range.2 hi, rfl⟩
        refine one_elem h1 h2 (fun k hk => hw k ?_) (fun d' hd' => ih d' ?_)
        · simp only [DataW.weights, Try.underlying90]
          exact List.mem_cons_of_mem _ (List.mem_append_left _ (weights_all hmem hk))
        · have := List.sizeOf_lt_of_mem hmem
          simp only [DataW.slice.sizeOf_spec] at hd
          simp only at hd'
          omega) n (Nat.le_refl _)
      simpa using this
/-- nested elements that came in -/
theorem open_tree {H : Type} {enc : TypeId × Value → H} {W : World} {sp : Nat → Bool} {held : Bool} {A : Option Addr} {n c : Nat} {d : DataW H} {p : List MemPlace} (h : DataW.Trod enc Try.prog W 0 sp held 90 (.slice A n c) d p) (hw : ∀ n ∈ d.weights Try.prog 90, n ≤ reachBytes) :
    ∃ T : Tr, T.len = n ∧ Els W (· < W.heap.size) (.slice A n c) T := by
  obtain ⟨h1, h2, T, rfl, h3⟩ := open_tree_any (SizeOf.sizeOf d) d (Nat.le_refl _) A n c p h hw
  exact ⟨T, rfl, A, c, rfl, h1, h2, h3⟩
end Go.Proofs.Ytkcokcanakljnaa
