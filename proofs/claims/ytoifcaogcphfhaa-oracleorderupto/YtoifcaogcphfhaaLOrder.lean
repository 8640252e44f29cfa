/-
  The law OracleOrder, walked.
-/
import Derived.Test.YtoifcaogcphfhaaLTrue
import Derived.Test.YtoifcaogcphfhaaOrI
namespace Go.Proofs.Ytoifcaogcphfhaa
open Go.ChangeShapes Go.WideShapes Go.ChangeAt Go.RowKit Go.Maps Go.Shelf
attribute [local go_sem] Oper.semAt_some
/-- the marks that ranges over functions leave -/
def marks (Ds : List Nat) : List Deferred := Ds.map fun D => { target := .collected D, args := #[] }
def Dfs (w : World) (Ds : List Nat) : Prop := Ds.Nodup ∧ ∀ D ∈ Ds, w.heap[D]? = some (.deferred (some []))
theorem Dfs.chg {w w' : World} {S : Nat → Prop} {Ds : List Nat} (h : Dfs w Ds) (c : Chg S w w') (hS : ∀ D ∈ Ds, ¬ S D) : Dfs w' Ds := ⟨h.1, fun D hD => (c.block D (lt_of_block (h.2 D hD)) (hS D hD)).trans (h.2 D hD)⟩
theorem Dfs.new {w w' : World} {Ds : List Nat} (h : Dfs w Ds) (c : New w w') : Dfs w' Ds := h.chg c fun _ _ f => f
theorem Dfs.os {w w' : World} {base : Nat} {Ds : List Nat} (h : Dfs w Ds) (c : Chg (OS base w) w w') : Dfs w' Ds := h.chg c fun D hD hS => by
  rcases hS.2 with ⟨_, _, e⟩ | ⟨_, _, e⟩ | ⟨_, _, e⟩ <;> rw [h.2 D hD] at e <;> cases e
/-- between two rounds -/
def OrdR (N gk : Nat) (dl : List Deferred) (i : Value) (g : Nat) (w1 w : World) : Prop := ∃ (k : Nat) (M : List Sl) (Ds : List Nat), dl = marks Ds ∧ k ≤ 100 ∧ k ≤ N ∧ gk = 100 - k ∧ i = .int .i64 k ∧ Orc w g g M ∧ M.length ≤ k ∧ New w1 w ∧ Dfs w Ds ∧ ∀ D ∈ Ds, w1.heap.size ≤ D
/-- all marks are taken at the end -/
theorem marks_leave {n : Nat} {fn : Func} {tmps : Array Value} {R : Ending → World → Prop} {B : Nat} : ∀ (Ds : List Nat) (w : World), Dfs w Ds → (∀ D ∈ Ds, B ≤ D) → (∀ w', Chg (fun k => B ≤ k) w w' → LeavesInM Fence.wide n Try.prog fn tmps R [] .returning w') → LeavesInM Fence.wide n Try.prog fn tmps R (marks Ds) .returning w
  | [], w, _, _, h => h w (Chg.refl _ _)
  | D :: Ds, w, hd, hb, h => by
    have hD := hd.2 D (List.mem_cons_self ..)
    refine ⟨by simp, .inl ⟨D, _, rfl, run_takeDeferred hD, ?_⟩⟩
    have hC : Chg (· = D) w (w.putObj D (.deferred none)) := ⟨rfl, rfl, rfl, by simp, fun k _ hk => World.putObj_heap_other (fun e => hk e)⟩
    have hnd := List.nodup_cons.1 hd.1
    refine marks_leave Ds _ ⟨hnd.2, fun E hE => (hC.block E (lt_of_block (hd.2 E (List.mem_cons_of_mem _ hE))) (fun e => hnd.1 (e ▸ hE))).trans (hd.2 E (List.mem_cons_of_mem _ hE))⟩ (fun E hE => hb E (List.mem_cons_of_mem _ hE)) fun w' hw' => h w' ((hC.mono fun k _ e => by rw [e]; exact hb D (List.mem_cons_self ..)).trans hw' fun _ _ h => h)
/-- a store into a block of another kind leaves an oracle alone -/
theorem Orc.far {w w' : World} {base g k : Nat} {t : TypeId} {cs : Array Value} {M : List Sl} (h : Orc w base g M) (hk : Has w k t cs) (h1 : t ≠ 28) (h2 : t ≠ 53) (c : Chg (· = k) w w') : Orc w' base g M := by
  obtain ⟨mv, sv, a1, a2, a3, a4, a5, a6⟩ := h
  refine ⟨mv, sv, a1.chg c (a1.apart hk h1.symm), a2, own_chg a3 c (fun j hj e => own_apart a3 hk h2.symm (by rw [hj, e])), ?_, a5, a6⟩
  rcases a4 with a4 | ⟨b, e, hb, a4⟩
  · exact Or.inl a4
  · exact Or.inr ⟨b, e, hb, a4.chg c (fun e => a4.ne_has hk e.symm)⟩
theorem mint_ways (M : List Sl) (x : Sl) : (mintN M x ≤ M.length ∧ (mintL M x).length = M.length ∧ 1 ≤ mintN M x) ∨ (mintN M x = M.length + 1 ∧ (mintL M x).length = M.length + 1) := by
  by_cases h : x ∈ M
  · left
    have := atN_pos h
    rw [show mintN M x = atN M x from if_pos h, show mintL M x = M from if_pos h]
    exact ⟨this.2, rfl, this.1⟩
  · right
    rw [show mintN M x = M.length + 1 from if_neg h, show mintL M x = M ++ [x] from if_neg h]
    exact ⟨rfl, by simp⟩
theorem ord_tests {m tq ml : Nat} (hm : m ≤ 100) (h : (tq ≤ m ∧ ml = m ∧ 1 ≤ tq) ∨ (tq = m + 1 ∧ ml = m + 1)) : ∃ (pm : Nat) (b1 : Bool), decide ((pm : Int) < (tq : Int)) = false ∧ decide (pm < tq) = false ∧ decide ((tq : Int) < 1) = false ∧ decide (tq < 1) = false ∧ ((tq : Int) == (pm : Int)) = b1 ∧ (tq == pm) = b1 ∧ ((ml : Int) == (pm : Int)) = b1 ∧ (ml == pm) = b1 ∧ ¬ (tq = 0) ∧ IntKind.i64.wrap ((m : Int) + 1) = (pm : Int) ∧ wrap64 ((m : Int) + 1) = (pm : Int) := by
  have hw1 : IntKind.i64.wrap ((m : Int) + 1) = ((m + 1 : Nat) : Int) := by rw [IntWalk.i64_in _ (by omega)]; omega
  have hw2 : wrap64 ((m : Int) + 1) = ((m + 1 : Nat) : Int) := by rw [w64 _ (by omega) (by omega)]; omega
  rcases h with ⟨q1, q2, q3⟩ | ⟨q1, q2⟩
  · refine ⟨m + 1, false, ?_, ?_, ?_, ?_, ?_, ?_, ?_, ?_, ?_, hw1, hw2⟩ <;> clear hw1 hw2 <;> first | omega | (simp; omega)
  · refine ⟨m + 1, true, ?_, ?_, ?_, ?_, ?_, ?_, ?_, ?_, ?_, hw1, hw2⟩ <;> clear hw1 hw2 <;> first | omega | (simp; omega)
theorem Kc.put {kb l : Nat} {W1 : World} {o : Obj} (ho : W1.heap[l]? = some o) (hc : o.isCells = false) (o' : Obj) : Kc kb W1 (W1.putObj l o') :=
  ⟨by simp, fun k cs t m _ h0 => (World.putObj_heap_other (fun e => by rw [← e, h0] at ho; cases ho; cases hc)).trans h0⟩
theorem has_grown {A B : World} {row : Option Nat} {k t : Nat} {cs : Array Value} (h : Has A k t cs) (hg : A.grownBy B row) (hr : ∀ r, row = some r → ∃ o : Obj, A.heap[r]? = some o ∧ o.isCells = false) : Has B k t cs := by
  refine (hg.block k h.lt (fun e => ?_)).trans h
  obtain ⟨o, ho, hc⟩ := hr k e.symm
  unfold Has at h
  rw [h] at ho
  cases ho
  cases hc
theorem own_I {α : Type} (w9 : World) (kb : Nat) (_hk : kb < w9.heap.size) : OwnFrom w9.heap.size (fun (pre : List α) W1 => Has W1 kb 3 #[.int .i64 (pre.length : Int)] ∧ Chg (· = kb) w9 W1) := by
  rintro pre A B row ⟨h1, h2⟩ hg hr
  refine ⟨has_grown h1 hg (fun r e => (hr r e).2), h2.trans (T := fun k => row = some k) ⟨hg.os, hg.tape, hg.output, hg.size, fun k hk hn => hg.block k hk (fun e => hn e.symm)⟩ (fun i hi e => absurd (hr i e).1 (by omega))⟩
set_option maxRecDepth 100000 in
theorem neqKey (a b c d : Int) (w : World) : (binOp .neq 32 (.agg #[.int .i64 a, .int .i64 b, .int .i64 c, .int .i64 d]) (.agg #[.int .i64 a, .int .i64 b, .int .i64 c, .int .i64 d])).run Try.prog w = .ok (.bool false) w := by
  go_simp
theorem ord_at {M' : List Sl} {sx : Sl} {tq xi : Nat} {k0 k1 k2 k3 x0 x1 x2 x3 : Int} {s1 x4 : ByteArray} (hnd : M'.Nodup) (h1 : sx ∈ M') (h2 : atN M' sx = tq) (hs : sx = ⟨k0, k1, k2, k3, s1⟩) (hx : M'[xi]? = some ⟨x0, x1, x2, x3, x4⟩) :
    (xi + 1 = tq ∧ x0 = k0 ∧ x1 = k1 ∧ x2 = k2 ∧ x3 = k3 ∧ x4 = s1) ∨ (xi + 1 ≠ tq ∧ ¬ (x0 = k0 ∧ x1 = k1 ∧ x2 = k2 ∧ x3 = k3 ∧ x4 = s1)) := by
  have hm : (⟨x0, x1, x2, x3, x4⟩ : Sl) ∈ M' := List.mem_of_getElem? hx
  obtain ⟨hl, hx2⟩ := List.getElem?_eq_some_iff.1 hx
  have ha : atN M' ⟨x0, x1, x2, x3, x4⟩ = xi + 1 := by rw [atN, if_pos hm, ← hx2, hnd.idxOf_getElem xi hl]
  by_cases h : xi + 1 = tq
  · left
    have := atN_inj hm h1 (by rw [ha, h2, h])
    rw [hs] at this
    simp at this
    exact ⟨h, this.1, this.2.1, this.2.2.1, this.2.2.2.1, this.2.2.2.2⟩
  · right
    refine ⟨h, fun e => h ?_⟩
    obtain ⟨rfl, rfl, rfl, rfl, rfl⟩ := e
    rw [← hs, h2] at ha
    exact ha.symm
/-- the law's end: it returns true, all marks open -/
def OrdQ (W : World) : Exit → Act → World → Prop
  | .ret, a, w' => ∃ Ds, a.defers = marks Ds ∧ a.tmps[2]? = some (.pointer (some ⟨W.heap.size, 0, none⟩)) ∧ Has w' W.heap.size 4 #[.bool true] ∧ New W w' ∧ Dfs w' Ds ∧ ∀ D ∈ Ds, W.heap.size < D
  | _, _, _ => False
set_option maxRecDepth 100000 in
set_option maxHeartbeats 16000000 in
theorem order_walk {W : World} (A : Option Addr) (N c : Nat) (z : Cls W (· < W.heap.size) A N) (hN : N ≤ 1048576) :
    Calls Try.prog 5 #[.slice A N c] W fun e W' => e = .returned (.bool true) ∧ New W W' := by
  have HZ := Lib.hid z; clear z
  refine (callsIn_wide (n := 9)).1 (callsIn_of_wp_marks Try.func5 rfl trivial (wpIn_wide.2 (wp_mono (Q := OrdQ W) ?_ ?_)) rfl)
  rotate_left
  · intro e a w' hq
    cases e with
    | ret =>
      obtain ⟨Ds, h1, h2, h3, h4, h6, h7⟩ := hq
      show LeavesInM Fence.wide 9 Try.prog _ a.tmps _ a.defers .returning w'
      rw [h1]
      refine marks_leave (B := W.heap.size + 1) Ds w' h6 (fun D hD => h7 D hD) fun w2 hw2 => ?_
      have h8 := h3.chg hw2 (by omega)
      show LeavesIn Fence.wide 9 Try.prog _ a.tmps _ [] .returning w2
      have e0 := (h8.cell 0).trans rfl
      refine ⟨.bool true, ?_, rfl, h4.trans hw2 (fun i hi h => by omega)⟩
      simp [results, Try.results5, go_sem, h2, e0]
    | normal => exact hq.elim
    | exit id => exact hq.elim
    | goto l => exact hq.elim
    | panic c => exact hq.elim
    | outgrown => exact hq.elim
  simp only [Try.ntmps5, List.size_toArray, List.length_cons, List.length_nil, Nat.reduceAdd, Nat.reduceSub, Array.replicate_succ, Array.replicate_zero, List.push_toArray, List.append_toArray, List.nil_append, List.cons_append]
  go_wp2_with (go_at_call 6; (with_reducible refine (awake_any _).mono ?_); rintro e w1 ⟨rfl, hN1⟩
               have hG1 := (Has.new W 4 #[.bool false]).keep hN1
               have HN1 : Hid (New W w1) := Chg.new_then ((Chg.refl _ _).alloc _) hN1
               have HG1 := Lib.hid hG1
               clear hG1 hN1)
  have hM2 := Orc.made w1
  have hN2 : New w1 (w1.alloc (.cells #[.map none, .slice none 0 0] 28)) := (Chg.refl _ _).alloc _
  obtain ⟨w2, hw2⟩ : ∃ w2, w2 = w1.alloc (.cells #[.map none, .slice none 0 0] 28) := ⟨_, rfl⟩
  rw [← hw2] at hM2 hN2 ⊢
  clear hw2
  obtain ⟨g, hg⟩ : ∃ g, g = w1.heap.size := ⟨_, rfl⟩
  rw [← hg] at hM2 ⊢
  have Hg := Lib.hid hg; clear hg
  obtain ⟨rb, hrb⟩ : ∃ rb, rb = W.heap.size := ⟨_, rfl⟩
  rw [← hrb] at HG1 ⊢
  have Hrb := Lib.hid hrb; clear hrb
  have HM2 := Lib.hid hM2; clear hM2
  have HN2 := Lib.hid hN2; clear hN2
  refine wp_loop_ghost_k (fun gk a wr => ∃ (dl : List Deferred) (u4 u5 u6 u7 u8 u9 u14 u15 u16 u17 u18 u19 u20 u21 u22 u23 u24 u25 u26 u27 u28 u29 u30 u31 u32 u33 u34 u35 u36 u37 u38 u39 u40 u41 u42 u43 u44 u45 u46 u47 u48 u49 u50 u51 u52 u53 u54 u55 u56 u57 u58 u59 u60 u61 u62 u63 u64 u65 u66 u67 u68 u69 u70 u71 u72 u73 u74 u75 u76 u77 u78 u79 u80 u81 u82 u83 u84 u85 u86 u87 u88 u89 u90 u91 u92 u93 u94 u95 u96 u97 u98 u99 u100 u101 u102 u103 u104 u105 u106 u107 u108 u109 u110 u111 u112 u113 u114 u115 u116 u117 u118 u119 u120 u121 u122 u123 u124 u125 u126 u127 u128 u129 u130 u131 u132 u133 u134 u135 u136 u137 : Value), OrdR N gk dl u4 g w1 wr ∧ a = { tmps := #[.slice A N c, undef, .pointer (some ⟨rb, 0, none⟩), .pointer (some ⟨g, 0, none⟩), u4, u5, u6, u7, u8, u9, .bool true, .bool false, .agg #[.map none, .slice none 0 0], .pointer (some ⟨g, 0, none⟩), u14, u15, u16, u17, u18, u19, u20, u21, u22, u23, u24, u25, u26, u27, u28, u29, u30, u31, u32, u33, u34, u35, u36, u37, u38, u39, u40, u41, u42, u43, u44, u45, u46, u47, u48, u49, u50, u51, u52, u53, u54, u55, u56, u57, u58, u59, u60, u61, u62, u63, u64, u65, u66, u67, u68, u69, u70, u71, u72, u73, u74, u75, u76, u77, u78, u79, u80, u81, u82, u83, u84, u85, u86, u87, u88, u89, u90, u91, u92, u93, u94, u95, u96, u97, u98, u99, u100, u101, u102, u103, u104, u105, u106, u107, u108, u109, u110, u111, u112, u113, u114, u115, u116, u117, u118, u119, u120, u121, u122, u123, u124, u125, u126, u127, u128, u129, u130, u131, u132, u133, u134, u135, u136, u137], defers := dl }) 100 ?_ ?_
  · (repeat apply Exists.intro)
    refine ⟨?rel, rfl⟩
    exact ⟨0, [], [], rfl, by omega, by omega, by omega, rfl, HM2.out, by simp, HN2.out, ⟨by simp, by simp⟩, by simp⟩
  intro gk _ wr hinv
  obtain ⟨dl, hinv⟩ := hinv
  obtain ⟨u4, hinv⟩ := hinv
  obtain ⟨u5, hinv⟩ := hinv
  obtain ⟨u6, hinv⟩ := hinv
  obtain ⟨u7, hinv⟩ := hinv
  obtain ⟨u8, hinv⟩ := hinv
  obtain ⟨u9, hinv⟩ := hinv
  obtain ⟨u14, hinv⟩ := hinv
  obtain ⟨u15, hinv⟩ := hinv
  obtain ⟨u16, hinv⟩ := hinv
  obtain ⟨u17, hinv⟩ := hinv
  obtain ⟨u18, hinv⟩ := hinv
  obtain ⟨u19, hinv⟩ := hinv
  obtain ⟨u20, hinv⟩ := hinv
  obtain ⟨u21, hinv⟩ := hinv
  obtain ⟨u22, hinv⟩ := hinv
  obtain ⟨u23, hinv⟩ := hinv
  obtain ⟨u24, hinv⟩ := hinv
  obtain ⟨u25, hinv⟩ := hinv
  obtain ⟨u26, hinv⟩ := hinv
  obtain ⟨u27, hinv⟩ := hinv
  obtain ⟨u28, hinv⟩ := hinv
  obtain ⟨u29, hinv⟩ := hinv
  obtain ⟨u30, hinv⟩ := hinv
  obtain ⟨u31, hinv⟩ := hinv
  obtain ⟨u32, hinv⟩ := hinv
  obtain ⟨u33, hinv⟩ := hinv
  obtain ⟨u34, hinv⟩ := hinv
  obtain ⟨u35, hinv⟩ := hinv
  obtain ⟨u36, hinv⟩ := hinv
  obtain ⟨u37, hinv⟩ := hinv
  obtain ⟨u38, hinv⟩ := hinv
  obtain ⟨u39, hinv⟩ := hinv
  obtain ⟨u40, hinv⟩ := hinv
  obtain ⟨u41, hinv⟩ := hinv
  obtain ⟨u42, hinv⟩ := hinv
  obtain ⟨u43, hinv⟩ := hinv
  obtain ⟨u44, hinv⟩ := hinv
  obtain ⟨u45, hinv⟩ := hinv
  obtain ⟨u46, hinv⟩ := hinv
  obtain ⟨u47, hinv⟩ := hinv
  obtain ⟨u48, hinv⟩ := hinv
  obtain ⟨u49, hinv⟩ := hinv
  obtain ⟨u50, hinv⟩ := hinv
  obtain ⟨u51, hinv⟩ := hinv
  obtain ⟨u52, hinv⟩ := hinv
  obtain ⟨u53, hinv⟩ := hinv
  obtain ⟨u54, hinv⟩ := hinv
  obtain ⟨u55, hinv⟩ := hinv
  obtain ⟨u56, hinv⟩ := hinv
  obtain ⟨u57, hinv⟩ := hinv
  obtain ⟨u58, hinv⟩ := hinv
  obtain ⟨u59, hinv⟩ := hinv
  obtain ⟨u60, hinv⟩ := hinv
  obtain ⟨u61, hinv⟩ := hinv
  obtain ⟨u62, hinv⟩ := hinv
  obtain ⟨u63, hinv⟩ := hinv
  obtain ⟨u64, hinv⟩ := hinv
  obtain ⟨u65, hinv⟩ := hinv
  obtain ⟨u66, hinv⟩ := hinv
  obtain ⟨u67, hinv⟩ := hinv
  obtain ⟨u68, hinv⟩ := hinv
  obtain ⟨u69, hinv⟩ := hinv
  obtain ⟨u70, hinv⟩ := hinv
  obtain ⟨u71, hinv⟩ := hinv
  obtain ⟨u72, hinv⟩ := hinv
  obtain ⟨u73, hinv⟩ := hinv
  obtain ⟨u74, hinv⟩ := hinv
  obtain ⟨u75, hinv⟩ := hinv
  obtain ⟨u76, hinv⟩ := hinv
  obtain ⟨u77, hinv⟩ := hinv
  obtain ⟨u78, hinv⟩ := hinv
  obtain ⟨u79, hinv⟩ := hinv
  obtain ⟨u80, hinv⟩ := hinv
  obtain ⟨u81, hinv⟩ := hinv
  obtain ⟨u82, hinv⟩ := hinv
  obtain ⟨u83, hinv⟩ := hinv
  obtain ⟨u84, hinv⟩ := hinv
  obtain ⟨u85, hinv⟩ := hinv
  obtain ⟨u86, hinv⟩ := hinv
  obtain ⟨u87, hinv⟩ := hinv
  obtain ⟨u88, hinv⟩ := hinv
  obtain ⟨u89, hinv⟩ := hinv
  obtain ⟨u90, hinv⟩ := hinv
  obtain ⟨u91, hinv⟩ := hinv
  obtain ⟨u92, hinv⟩ := hinv
  obtain ⟨u93, hinv⟩ := hinv
  obtain ⟨u94, hinv⟩ := hinv
  obtain ⟨u95, hinv⟩ := hinv
  obtain ⟨u96, hinv⟩ := hinv
  obtain ⟨u97, hinv⟩ := hinv
  obtain ⟨u98, hinv⟩ := hinv
  obtain ⟨u99, hinv⟩ := hinv
  obtain ⟨u100, hinv⟩ := hinv
  obtain ⟨u101, hinv⟩ := hinv
  obtain ⟨u102, hinv⟩ := hinv
  obtain ⟨u103, hinv⟩ := hinv
  obtain ⟨u104, hinv⟩ := hinv
  obtain ⟨u105, hinv⟩ := hinv
  obtain ⟨u106, hinv⟩ := hinv
  obtain ⟨u107, hinv⟩ := hinv
  obtain ⟨u108, hinv⟩ := hinv
  obtain ⟨u109, hinv⟩ := hinv
  obtain ⟨u110, hinv⟩ := hinv
  obtain ⟨u111, hinv⟩ := hinv
  obtain ⟨u112, hinv⟩ := hinv
  obtain ⟨u113, hinv⟩ := hinv
  obtain ⟨u114, hinv⟩ := hinv
  obtain ⟨u115, hinv⟩ := hinv
  obtain ⟨u116, hinv⟩ := hinv
  obtain ⟨u117, hinv⟩ := hinv
  obtain ⟨u118, hinv⟩ := hinv
  obtain ⟨u119, hinv⟩ := hinv
  obtain ⟨u120, hinv⟩ := hinv
  obtain ⟨u121, hinv⟩ := hinv
  obtain ⟨u122, hinv⟩ := hinv
  obtain ⟨u123, hinv⟩ := hinv
  obtain ⟨u124, hinv⟩ := hinv
  obtain ⟨u125, hinv⟩ := hinv
  obtain ⟨u126, hinv⟩ := hinv
  obtain ⟨u127, hinv⟩ := hinv
  obtain ⟨u128, hinv⟩ := hinv
  obtain ⟨u129, hinv⟩ := hinv
  obtain ⟨u130, hinv⟩ := hinv
  obtain ⟨u131, hinv⟩ := hinv
  obtain ⟨u132, hinv⟩ := hinv
  obtain ⟨u133, hinv⟩ := hinv
  obtain ⟨u134, hinv⟩ := hinv
  obtain ⟨u135, hinv⟩ := hinv
  obtain ⟨u136, hinv⟩ := hinv
  obtain ⟨u137, hinv⟩ := hinv
  obtain ⟨hrel, ha⟩ := hinv
  subst ha
  intro J K hJ hK
  obtain ⟨k, M, Ds, rfl, hk, hkN, rfl, rfl, hM, hMl, hN3, hDf, hDb⟩ := hrel
  clear HM2 HN2
  have HM := Lib.hid hM; clear hM
  have HN3 := Lib.hid hN3; clear hN3
  have HDf := Lib.hid hDf; clear hDf
  have HDb := Lib.hid hDb; clear hDb
  by_cases hlt : k < N ∧ k < 100
  · obtain ⟨hlt, hlt2⟩ := hlt
    obtain ⟨x, D, n, dc, hx⟩ := HZ.out k hlt
    have hx3 := hx.chg (HN1.out.then_new HN3.out) fun k hk => ⟨hk, fun f => f⟩
    obtain ⟨a, rfl, hab, _, _, _, _, _, _, _, hok, _⟩ := hx3
    have HxD : Hid (Dt W (· < W.heap.size) D n dc x.L) := by obtain ⟨_, _, _, _, _, _, _, _, _, _, _, h⟩ := hx; exact h
    have Hok := Lib.hid hok; clear hok
    obtain ⟨xa, xt, k0, k1, k2, k3, xL⟩ := x
    dsimp only at HxD
    have HKW : Hid (∀ wx, New W wx → wx.cell? ⟨(a.add (k * 7)).block, (a.add (k * 7)).off + 1, none⟩ = some (.int .i64 xt) ∧ wx.cell? ⟨(a.add (k * 7)).block, (a.add (k * 7)).off + 2, none⟩ = some (.int .i64 k0) ∧ wx.cell? ⟨(a.add (k * 7)).block, (a.add (k * 7)).off + 3, none⟩ = some (.int .i64 k1) ∧ wx.cell? ⟨(a.add (k * 7)).block, (a.add (k * 7)).off + 4, none⟩ = some (.int .i64 k2) ∧ wx.cell? ⟨(a.add (k * 7)).block, (a.add (k * 7)).off + 5, none⟩ = some (.int .i64 k3) ∧ wx.cell? ⟨(a.add (k * 7)).block, (a.add (k * 7)).off + 6, none⟩ = some (.slice D n dc)) := fun wx hwx => by
      obtain ⟨a', e, _, _, d1, d2, d3, d4, d5, d6, _⟩ := hx.chg hwx fun k hk => ⟨hk, fun f => f⟩
      cases e
      exact ⟨d1, d2, d3, d4, d5, d6⟩
    clear hx
    obtain ⟨sx, hsx⟩ : ∃ sx : Sl, sx = ⟨k0, k1, k2, k3, bstr xL.flatten⟩ := ⟨_, rfl⟩
    have Hsx := Lib.hid hsx
    have HMi : Hid (∀ wx, New W wx → Orc wx g g M → Calls Try.prog 11 #[.pointer (some ⟨g, 0, none⟩), .agg #[.int .i64 k0, .int .i64 k1, .int .i64 k2, .int .i64 k3], .slice D n dc] wx fun e w' => e = .returned (.int .i64 (mintN M sx : Nat)) ∧ Orc w' g g (mintL M sx) ∧ Chg (OS g wx) wx w') := fun wx h1 h2 => by
      rw [hsx]
      exact Mint_dt g g M ⟨xa, xt, k0, k1, k2, k3, xL⟩ Hok.out D n dc _ W wx h1 h2 (by omega) HxD.out fun k hk => hk
    have HHo : Hid (∀ wx, New W wx → Orc wx g g M → Calls Try.prog 9 #[.pointer (some ⟨g, 0, none⟩), .int .i64 xt, .agg #[.int .i64 k0, .int .i64 k1, .int .i64 k2, .int .i64 k3], .slice D n dc] wx fun e w' => (∃ bb : Bool, e = .returned (.bool bb)) ∧ New wx w') := fun wx h1 h2 =>
      (Holds_dt g g M xt ⟨xa, xt, k0, k1, k2, k3, xL⟩ Hok.out D n dc _ W wx h1 h2 HxD.out fun k hk => hk).mono fun e w' h => ⟨⟨_, h.1⟩, h.2⟩
    obtain ⟨s1, hs1⟩ : ∃ s1, s1 = bstr xL.flatten := ⟨_, rfl⟩
    rw [← hs1] at hsx Hsx
    have HJo : Hid (∀ wx, New W wx → Calls Try.prog 7 #[.slice D n dc] wx fun e w' => e = .returned (.string s1) ∧ w' = wx) := fun wx h1 => by
      rw [hs1]
      exact joined_dt ⟨xa, xt, k0, k1, k2, k3, xL⟩ D n dc _ W wx h1 HxD.out fun k hk => hk
    clear hs1 hsx
    have HNW3 : Hid (New W wr) := HN1.out.then_new HN3.out
    have tk : decide ((k : Int) < (N : Int)) = true := by simp; omega
    have tk2 : decide (k < N) = true := by simp; omega
    have tl : decide ((k : Int) < 100) = true := by simp; omega
    have tl2 : decide (k < 100) = true := by simp; omega
    obtain ⟨m, hm⟩ : ∃ m, m = M.length := ⟨_, rfl⟩
    have Hm := Lib.hid hm; clear hm
    have HLn : Hid (∀ wx, Orc wx g g M → Calls Try.prog 12 #[.pointer (some ⟨g, 0, none⟩)] wx fun e w' => e = .returned (.int .i64 (m : Int)) ∧ w' = wx) := fun wx h => by rw [Hm.out]; exact Len_any g g M wx h
    go_upto_region 8 with (go_at_call 12; (with_reducible refine (HLn.out wr HM.out).mono ?_); rintro e w' ⟨rfl, hw'⟩; obtain rfl : wr = w' := hw'.symm; clear hw')
    go_cut [6] from 14 to 137 (fun s6 wx => ∃ wb, s6 = .pointer (some ⟨wb, 0, none⟩) ∧ wr.heap.size ≤ wb ∧ Has wx wb 47 #[.int .i64 k0, .int .i64 k1, .int .i64 k2, .int .i64 k3, .string s1] ∧ New wr wx)
    case first =>
      go_region_held_law (fun wx => wx.cell? ⟨(a.add (k * 7)).block, (a.add (k * 7)).off + 1, none⟩ = some (.int .i64 xt) ∧ wx.cell? ⟨(a.add (k * 7)).block, (a.add (k * 7)).off + 2, none⟩ = some (.int .i64 k0) ∧ wx.cell? ⟨(a.add (k * 7)).block, (a.add (k * 7)).off + 3, none⟩ = some (.int .i64 k1) ∧ wx.cell? ⟨(a.add (k * 7)).block, (a.add (k * 7)).off + 4, none⟩ = some (.int .i64 k2) ∧ wx.cell? ⟨(a.add (k * 7)).block, (a.add (k * 7)).off + 5, none⟩ = some (.int .i64 k3) ∧ wx.cell? ⟨(a.add (k * 7)).block, (a.add (k * 7)).off + 6, none⟩ = some (.slice D n dc))
        (with_reducible refine HKW.out _ ?_; exact HNW3.out.then_new (by (with_reducible repeat (first | exact Chg.refl _ _ | refine Chg.drew ?_ | refine Chg.alloc ?_ _)); fail_if_success (have := True.intro)))
        (first
          | (go_at_call 7; (with_reducible refine (HJo.out _ (HNW3.out.then_new (by (with_reducible repeat (first | exact Chg.refl _ _ | refine Chg.drew ?_ | refine Chg.alloc ?_ _)); fail_if_success (have := True.intro)))).mono ?_); rintro e wJ ⟨rfl, hwJ⟩; subst hwJ))
      all_goals
        go_wp2_with fail
        go_meet
        case rel => exact ⟨_, rfl, Nat.le_refl _, (Has.new wr 47 #[.int .i64 k0, .int .i64 k1, .int .i64 k2, .int .i64 k3, .string s1]).drew, ((Chg.refl _ _).alloc _).drew⟩
    case rest =>
    obtain ⟨w4, rfl⟩ : ∃ w4, w4 = wc := ⟨_, rfl⟩
    obtain ⟨wb, rfl, hwb, hB4, hN4⟩ := hcut
    have HB4 := Lib.hid hB4; clear hB4
    have HNW4 : Hid (New W w4) := HNW3.out.then_new hN4
    have HN4 : Hid (New w1 w4) := HN3.out.then_new hN4
    have HM4 := Lib.hid (HM.out.new hN4)
    have HD4 := Lib.hid (HDf.out.new hN4)
    clear hN4 HM HN3 HNW3 HDf HJo
    go_upto_region 9 with (fail)
    go_cut [54] from 14 to 137 (fun s54 wx => (∃ bb : Bool, s54 = .bool bb) ∧ New w4 wx)
    case first =>
      go_region_held_law (fun wx => wx.cell? ⟨(a.add (k * 7)).block, (a.add (k * 7)).off + 1, none⟩ = some (.int .i64 xt) ∧ wx.cell? ⟨(a.add (k * 7)).block, (a.add (k * 7)).off + 2, none⟩ = some (.int .i64 k0) ∧ wx.cell? ⟨(a.add (k * 7)).block, (a.add (k * 7)).off + 3, none⟩ = some (.int .i64 k1) ∧ wx.cell? ⟨(a.add (k * 7)).block, (a.add (k * 7)).off + 4, none⟩ = some (.int .i64 k2) ∧ wx.cell? ⟨(a.add (k * 7)).block, (a.add (k * 7)).off + 5, none⟩ = some (.int .i64 k3) ∧ wx.cell? ⟨(a.add (k * 7)).block, (a.add (k * 7)).off + 6, none⟩ = some (.slice D n dc))
        (with_reducible refine HKW.out _ ?_; first | exact HNH.out | exact HNW4.out.then_new (by (with_reducible repeat (first | exact Chg.refl _ _ | refine Chg.drew ?_ | refine Chg.alloc ?_ _)); fail_if_success (have := True.intro)))
        (first
          | (go_at_call 9; (with_reducible refine (HHo.out _ (HNW4.out.then_new (by (with_reducible repeat (first | exact Chg.refl _ _ | refine Chg.drew ?_ | refine Chg.alloc ?_ _)); fail_if_success (have := True.intro))) (HM4.out.new (by (with_reducible repeat (first | exact Chg.refl _ _ | refine Chg.drew ?_ | refine Chg.alloc ?_ _)); fail_if_success (have := True.intro)))).mono ?_); rintro e wH ⟨⟨bb, rfl⟩, hNH⟩
             have HN5 : Hid (New w4 wH) := Chg.new_then (by (with_reducible repeat (first | exact Chg.refl _ _ | refine Chg.drew ?_ | refine Chg.alloc ?_ _)); fail_if_success (have := True.intro)) hNH
             have HNH : Hid (New W wH) := HNW4.out.then_new HN5.out
             clear hNH))
      all_goals
        go_wp2_with fail
        go_meet
        case rel => exact ⟨⟨_, rfl⟩, HN5.out⟩
    case rest =>
    obtain ⟨w5, rfl⟩ : ∃ w5, w5 = wc := ⟨_, rfl⟩
    obtain ⟨⟨bb, rfl⟩, hN5⟩ := hcut
    have HB5 := Lib.hid (HB4.out.keep hN5)
    have HNW5 : Hid (New W w5) := HNW4.out.then_new hN5
    have HN5 : Hid (New w1 w5) := HN4.out.then_new hN5
    have HM5 := Lib.hid (HM4.out.new hN5)
    have HD5 := Lib.hid (HD4.out.new hN5)
    clear hN5 HM4 HN4 HNW4 HD4 HB4 HHo
    go_upto_region 12 with (go_at_call 12; (with_reducible refine (HLn.out w5 HM5.out).mono ?_); rintro e w' ⟨rfl, hw'⟩; obtain rfl : w5 = w' := hw'.symm; clear hw')
    obtain ⟨tq, htq⟩ : ∃ tq : Nat, tq = mintN M sx := ⟨_, rfl⟩
    rw [← htq] at HMi
    have Htq := Lib.hid htq; clear htq
    go_cut [7] from 14 to 137 (fun s7 wx => ∃ tb, s7 = .pointer (some ⟨tb, 0, none⟩) ∧ w5.heap.size ≤ tb ∧ Has wx tb 30 #[.int .i64 (tq : Int)] ∧ Orc wx g g (mintL M sx) ∧ Chg (OS g w5) w5 wx)
    case first =>
      go_region_held_law (fun wx => wx.cell? ⟨(a.add (k * 7)).block, (a.add (k * 7)).off + 1, none⟩ = some (.int .i64 xt) ∧ wx.cell? ⟨(a.add (k * 7)).block, (a.add (k * 7)).off + 2, none⟩ = some (.int .i64 k0) ∧ wx.cell? ⟨(a.add (k * 7)).block, (a.add (k * 7)).off + 3, none⟩ = some (.int .i64 k1) ∧ wx.cell? ⟨(a.add (k * 7)).block, (a.add (k * 7)).off + 4, none⟩ = some (.int .i64 k2) ∧ wx.cell? ⟨(a.add (k * 7)).block, (a.add (k * 7)).off + 5, none⟩ = some (.int .i64 k3) ∧ wx.cell? ⟨(a.add (k * 7)).block, (a.add (k * 7)).off + 6, none⟩ = some (.slice D n dc))
        (with_reducible refine HKW.out _ ?_; first | exact HNM.out.then_new (by (with_reducible repeat (first | exact Chg.refl _ _ | refine Chg.drew ?_ | refine Chg.alloc ?_ _)); fail_if_success (have := True.intro)) | exact HNS.out | exact HNW5.out.then_new (by (with_reducible repeat (first | exact Chg.refl _ _ | refine Chg.drew ?_ | refine Chg.alloc ?_ _)); fail_if_success (have := True.intro)))
        (first
          | (go_at_call 11; (with_reducible refine (HMi.out (w5.alloc (.cells #[.int .i64 0] 30)).drew (HNW5.out.then_new (by (with_reducible repeat (first | exact Chg.refl _ _ | refine Chg.drew ?_ | refine Chg.alloc ?_ _)); fail_if_success (have := True.intro))) (HM5.out.new (by (with_reducible repeat (first | exact Chg.refl _ _ | refine Chg.drew ?_ | refine Chg.alloc ?_ _)); fail_if_success (have := True.intro)))).mono ?_); rintro e wM ⟨rfl, hMM, hCM⟩
             have hT0 : Has (w5.alloc (.cells #[.int .i64 0] 30)).drew w5.heap.size 30 #[.int .i64 0] := (Has.new w5 30 #[.int .i64 0]).drew
             have hTM := hT0.chg hCM (not_OS hT0 (by decide) (by decide))
             have z0 := (hTM.cell 0).trans rfl
             have zf := hTM.free 0
             have HTM := Lib.hid hTM
             have HMM := Lib.hid hMM
             have HCM : Hid (Chg (OS g w5) w5 wM) := OS.of_new (by (with_reducible repeat (first | exact Chg.refl _ _ | refine Chg.drew ?_ | refine Chg.alloc ?_ _)); fail_if_success (have := True.intro)) hCM
             have HNM : Hid (New W wM) := HNW5.out.trans HCM.out (fun i hi h => by have := h.1; have := HN1.out.size; rw [Hg.out] at *; omega)
             have HCS : Hid (Chg (OS g w5) w5 (wM.setCell ⟨w5.heap.size, 0, none⟩ (.int .i64 (tq : Int)))) := HCM.out.setCell (p := ⟨w5.heap.size, 0, none⟩) (fun h => absurd h (Nat.lt_irrefl _)) _
             have HNS : Hid (New W (wM.setCell ⟨w5.heap.size, 0, none⟩ (.int .i64 (tq : Int)))) := HNW5.out.trans HCS.out (fun i hi h => by have := h.1; have := HN1.out.size; rw [Hg.out] at *; omega)
             clear hT0 hTM hMM hCM)
          | (go_at_call 11; (with_reducible refine (HMi.out w5.drew (HNW5.out.then_new (by (with_reducible repeat (first | exact Chg.refl _ _ | refine Chg.drew ?_ | refine Chg.alloc ?_ _)); fail_if_success (have := True.intro))) (HM5.out.new (by (with_reducible repeat (first | exact Chg.refl _ _ | refine Chg.drew ?_ | refine Chg.alloc ?_ _)); fail_if_success (have := True.intro)))).mono ?_); rintro e wM ⟨rfl, hMM, hCM⟩
             have HMM := Lib.hid hMM
             have HCM : Hid (Chg (OS g w5) w5 wM) := OS.of_new (by (with_reducible repeat (first | exact Chg.refl _ _ | refine Chg.drew ?_ | refine Chg.alloc ?_ _)); fail_if_success (have := True.intro)) hCM
             have HNM : Hid (New W wM) := HNW5.out.trans HCM.out (fun i hi h => by have := h.1; have := HN1.out.size; rw [Hg.out] at *; omega)
             clear hMM hCM))
      all_goals
        go_wp2_with fail
        go_meet
        case rel => first
          | exact ⟨_, rfl, Nat.le_refl _, HTM.out.set 0 (.int .i64 (tq : Int)), HMM.out.far HTM.out (by decide) (by decide) (Chg.setCell (S := (· = w5.heap.size)) (Chg.refl _ _) (p := ⟨w5.heap.size, 0, none⟩) (fun _ => rfl) _), HCS.out⟩
          | exact ⟨_, rfl, HCM.out.size, Has.new wM 30 #[.int .i64 (tq : Int)], HMM.out.new ((Chg.refl _ _).alloc _), HCM.out.alloc _⟩
    case rest =>
    obtain ⟨w6, rfl⟩ : ∃ w6, w6 = wc := ⟨_, rfl⟩
    obtain ⟨tb, rfl, htb, hT6, hM6, hC6⟩ := hcut
    have HT6 := Lib.hid hT6; clear hT6
    have HM6 := Lib.hid hM6; clear hM6
    have HB6 := Lib.hid (HB5.out.chg hC6 (not_OS HB5.out (by decide) (by decide)))
    have HNW6 : Hid (New W w6) := HNW5.out.trans hC6 (fun i hi h => by have := h.1; have := HN1.out.size; rw [Hg.out] at *; omega)
    have HN6 : Hid (New w1 w6) := HN5.out.trans hC6 (fun i hi h => by have := h.1; rw [Hg.out] at *; omega)
    have HD6 := Lib.hid (HD5.out.os hC6)
    have hwt : wb < tb := Nat.lt_of_lt_of_le HB5.out.lt htb
    clear hC6 HM5 HN5 HNW5 HD5 HB5 HMi HKW HxD Hok
    obtain ⟨M', hM'⟩ : ∃ M', M' = mintL M sx := ⟨_, rfl⟩
    obtain ⟨ml, hml⟩ : ∃ ml, ml = M'.length := ⟨_, rfl⟩
    have Hways : Hid ((tq ≤ m ∧ ml = m ∧ 1 ≤ tq) ∨ (tq = m + 1 ∧ ml = m + 1)) := by
      rw [Hid, Htq.out, Hm.out, hml, hM']
      exact mint_ways M sx
    have Hat : Hid (sx ∈ M' ∧ atN M' sx = tq) := by rw [Hid, hM', Htq.out]; exact ⟨mem_mint M sx, atN_mint M sx⟩
    have Hml2 : Hid (M'.length ≤ k + 1) := by rw [Hid, hM']; exact Nat.le_trans (mintL_len M sx) (by omega)
    rw [← hM'] at HM6
    have Hml := Lib.hid hml; clear hml
    clear hM'
    have hm1 : m ≤ 100 := by rw [Hm.out]; omega
    have HLm : Hid (∀ wx, Orc wx g g M' → Calls Try.prog 12 #[.pointer (some ⟨g, 0, none⟩)] wx fun e w' => e = .returned (.int .i64 (ml : Int)) ∧ w' = wx) := fun wx h => by rw [Hml.out]; exact Len_any g g M' wx h
    go_upto_region 13 with (fail)
    go_cut [90] from 14 to 137 (fun s90 wx => s90 = .bool false ∧ New w6 wx)
    case first =>
      have HTc : Hid (∀ wx, New w6 wx → wx.cell? ⟨tb, 0, none⟩ = some (.int .i64 (tq : Int))) := fun wx hx => ((HT6.out.keep hx).cell 0).trans rfl
      obtain ⟨pm, b1, t1, t1', t2, t2', t3, t3', t4, t4', hq1, hw1, hw2⟩ := ord_tests hm1 Hways.out
      clear Hways
      have hbb : (b1 != b1) = false := by cases b1 <;> rfl
      have hbc : (b1 == b1) = true := by cases b1 <;> rfl
      go_region_held_law (fun wx => wx.cell? ⟨tb, 0, none⟩ = some (.int .i64 (tq : Int)))
        (with_reducible refine HTc.out _ ?_; exact (by (with_reducible repeat (first | exact Chg.refl _ _ | refine Chg.drew ?_ | refine Chg.alloc ?_ _)); fail_if_success (have := True.intro)))
        (first
          | (go_at_call 12; (with_reducible refine (HLm.out _ (HM6.out.new (by (with_reducible repeat (first | exact Chg.refl _ _ | refine Chg.drew ?_ | refine Chg.alloc ?_ _)); fail_if_success (have := True.intro)))).mono ?_); rintro e w' ⟨rfl, hw'⟩; subst hw'))
      all_goals
        go_wp2_with fail
        go_meet
        case rel => exact ⟨by first | rfl | (simp; done) | (simp [t1, t1', t2, t2', t3, t3', t4, t4', hbb]; done), (by (with_reducible repeat (first | exact Chg.refl _ _ | refine Chg.drew ?_ | refine Chg.alloc ?_ _)); fail_if_success (have := True.intro))⟩
    case rest =>
    obtain ⟨w7, rfl⟩ : ∃ w7, w7 = wc := ⟨_, rfl⟩
    obtain ⟨rfl, hN7⟩ := hcut
    have HT7 := Lib.hid (HT6.out.keep hN7)
    have HB7 := Lib.hid (HB6.out.keep hN7)
    have HN7 : Hid (New w1 w7) := HN6.out.then_new hN7
    have HD7 := Lib.hid (HD6.out.new hN7)
    have HM7 := Lib.hid (HM6.out.new hN7)
    clear hN7 HT6 HB6 HN6 HNW6 HD6 HM6
    obtain ⟨mv, sv, hV8⟩ := (HM7.out.new (((Chg.refl _ _).alloc (.cells #[.int .i64 0] 3)) : New w7 _)).letters
    have HAl := Lib.hid (All_any g g M' _ mv sv hV8)
    have HV8 := Lib.hid hV8; clear hV8
    go_wp2_with (go_at_call 10; (with_reducible refine HAl.out.mono ?_); rintro e w9 ⟨rfl, hw9⟩)
    have hN9 : New w7 ((w7.alloc (.cells #[.int .i64 0] 3)).alloc (.cells #[sv] 26)) := ((Chg.refl _ _).alloc _).alloc _
    have hK9 := (Has.new w7 3 #[.int .i64 0]).alloc (.cells #[sv] 26)
    have hS9 := Has.new_at (w7.alloc (.cells #[.int .i64 0] 3)) 26 #[sv] (w7.heap.size + 1) (by simp)
    have hV9 : OrcV ((w7.alloc (.cells #[.int .i64 0] 3)).alloc (.cells #[sv] 26)) g g M' mv sv := by
      obtain ⟨a1, a2, a3, a4, a5, a6⟩ := HV8.out
      have hN : New (w7.alloc (.cells #[.int .i64 0] 3)) ((w7.alloc (.cells #[.int .i64 0] 3)).alloc (.cells #[sv] 26)) := (Chg.refl _ _).alloc _
      exact ⟨a1.keep hN, a2, own_new a3 hN, by rcases a4 with a4 | ⟨b, e, hb, a4⟩; exact Or.inl a4; exact Or.inr ⟨b, e, hb, a4.chg hN fun f => f⟩, a5, a6⟩
    obtain ⟨w9, hw9⟩ : ∃ w9, w9 = (w7.alloc (.cells #[.int .i64 0] 3)).alloc (.cells #[sv] 26) := ⟨_, rfl⟩
    rw [← hw9] at hN9 hK9 hS9 hV9 ⊢
    clear hw9 HAl HV8
    obtain ⟨kb, hkb⟩ : ∃ kb, kb = w7.heap.size := ⟨_, rfl⟩
    rw [← hkb] at hK9 hS9 ⊢
    have hwk : wb < kb := by rw [hkb]; exact HB7.out.lt
    have hk1 : w1.heap.size ≤ kb := by rw [hkb]; exact HN7.out.size
    have htk : tb < kb := by rw [hkb]; exact HT7.out.lt
    have HB9 := Lib.hid (HB7.out.keep hN9)
    have HT9 := Lib.hid (HT7.out.keep hN9)
    have HN9 : Hid (New w1 w9) := HN7.out.then_new hN9
    have HD9 := Lib.hid (HD7.out.new hN9)
    have HK9 := Lib.hid hK9; clear hK9
    have HS9 := Lib.hid hS9; clear hS9
    have HV9 := Lib.hid hV9; clear hV9
    have Hkb := Lib.hid hkb; clear hkb
    clear hN9 HB7 HT7 HN7 HD7 HM7
    have hml3 : M'.length ≤ 1000 := Nat.le_trans Hml2.out (by omega)
    have hko : sv.ownBlock ≠ some kb := own_apart HV9.out.2.2.1 HK9.out (by decide)
    refine (wpIn_wide (n := 9)).1 ?_
    have hseq := all_stops 8 (by omega) (kb + 1) kb g M' sv w9 HS9.out (by omega) HV9.out.2.2.1 hko hml3
    obtain ⟨I, hI⟩ : ∃ I : List (Yl M') → World → Prop, I = fun pre W1 => Has W1 kb 3 #[.int .i64 (pre.length : Int)] ∧ Chg (· = kb) w9 W1 := ⟨_, rfl⟩
    obtain ⟨Ax, hAx⟩ : ∃ Ax : Yl M' → Act → World → Prop, Ax = fun x a' W1 => ∃ (mb : Nat), Has W1 mb 45 #[.int .i64 ((x.1.1 : Int) + 1), .int .i64 x.1.2.o, .int .i64 x.1.2.t, .int .i64 x.1.2.c, .int .i64 x.1.2.v, .string x.1.2.s] ∧ kb < mb ∧ a' = { tmps := #[.slice (some a) N c, undef, .pointer (some ⟨rb, 0, none⟩), .pointer (some ⟨g, 0, none⟩), .int .i64 (k : Int), .int .i64 (m : Int), .pointer (some ⟨wb, 0, none⟩), .pointer (some ⟨tb, 0, none⟩), .pointer (some ⟨kb, 0, none⟩), .pointer (some ⟨mb, 0, none⟩), .bool true, .bool false, .agg #[.map none, .slice none 0 0], .pointer (some ⟨g, 0, none⟩), u14, u15, u16, u17, u18, u19, u20, u21, u22, u23, u24, u25, u26, u27, u28, u29, u30, u31, u32, u33, u34, u35, u36, u37, u38, u39, u40, u41, u42, u43, u44, u45, u46, u47, u48, u49, u50, u51, u52, u53, u54, u55, u56, u57, u58, u59, u60, u61, u62, u63, u64, u65, u66, u67, u68, u69, u70, u71, u72, u73, u74, u75, u76, u77, u78, u79, u80, u81, u82, u83, u84, u85, u86, u87, u88, u89, .bool false, .pointer (some ⟨g, 0, none⟩), .func (.func 14) #[] #[.pointer (some ⟨kb + 1, 0, none⟩)], .agg #[.int .i64 ((x.1.1 : Int) + 1), .int .i64 x.1.2.o, .int .i64 x.1.2.t, .int .i64 x.1.2.c, .int .i64 x.1.2.v, .string x.1.2.s], u94, u95, u96, u97, u98, u99, u100, u101, u102, u103, u104, u105, u106, u107, u108, u109, u110, u111, u112, u113, u114, u115, u116, u117, u118, u119, u120, u121, u122, u123, u124, u125, u126, u127, u128, u129, u130, u131, u132, u133, u134, u135, u136, u137], defers := [] } := ⟨_, rfl⟩
    have hKt : ∀ {A B C : World}, Kc kb A B → Kc kb B C → Kc kb A C := fun h1 h2 => Kc.trans h1 h2
    have hKb : ∀ (W1 : World) (l : Nat) (o o' : Obj), w9.heap.size ≤ l → W1.heap[l]? = some o → o.isCells = false → o.isWalk = false → Kc kb W1 (W1.putObj l o') := fun W1 l o o' _ ho hc _ => Kc.put ho hc o'
    have hown : OwnFrom w9.heap.size I := by rw [hI]; exact own_I w9 kb HK9.out.lt
    have hownx : ∀ c : Code, OwnFrom w9.heap.size (fun (_ : List (Yl M')) (_ : World) => False) := fun _ _ _ _ _ hs _ _ => hs
    have h0 : I [] w9 := by rw [hI]; exact ⟨HK9.out, Chg.refl _ _⟩
    have hownA : ∀ x a', OwnFrom w9.heap.size (fun (_ : Unit) W1 => Ax x a' W1) := by
      rw [hAx]
      rintro x a' s A B row ⟨mb, h1, h2, h3⟩ hg hr
      exact ⟨mb, has_grown h1 hg (fun r e => (hr r e).2), h2, h3⟩
    have hen := enters_of (P := Try.prog) Try.func14 (by kernel_rfl) rfl
    refine wpIn_rangeFunc_ownH (F := Fence.wide) (n := 9) (w0 := w9) rfl (by omega) (gf := 14) (lb := #[.pointer (some ⟨kb + 1, 0, none⟩)]) rfl trivial hen hseq hKt hKb (Below.refl _ _) (fun _ => rfl) I (fun _ _ _ => False) hown hownx h0 Ax hownA ?assign ?body ?done ?stop
    case assign =>
      intro l pre x W1 K1 hI1 hK1
      rw [hI] at hI1
      have HI1 := Lib.hid hI1; clear hI1
      have HK1 := Lib.hid hK1; clear hK1
      simp only [ylV]
      push_cast
      gi_wp2
      refine HK1.out _ _ ((KeepsOthers.alloc _ _).from _) (Kc.of_chg ((Chg.refl _ _).alloc _)) ?_ ?_
      · rw [hI]
        exact ⟨HI1.out.1.alloc _, HI1.out.2.alloc _⟩
      · rw [hAx]
        exact ⟨W1.heap.size, Has.new W1 _ _, HI1.out.1.lt, rfl⟩
    case body =>
      rintro l pre x a' W1 hl - hI1 hA1 hpl
      rw [hI] at hI1
      rw [hAx] at hA1
      obtain ⟨mb, hB1, hkm, rfl⟩ := hA1
      obtain ⟨⟨xi, x0, x1, x2, x3, x4⟩, hxm⟩ := x
      dsimp only at hB1 hxm ⊢
      have e0 := (hI1.1.cell 0).trans rfl
      have ef := hI1.1.free 0
      have hpl2 : pre.length ≤ 1000 := by omega
      obtain ⟨pn, hpn⟩ : ∃ pn, pn = pre.length := ⟨_, rfl⟩
      rw [← hpn] at hI1 e0 hpl2
      have Hpn := Lib.hid hpn; clear hpn hpl
      gi_upto_region 19 with (fail)
      have hC2 : Chg (· = kb) W1 (W1.setCell ⟨kb, 0, none⟩ (.int .i64 ((pn : Int) + 1))) := Chg.setCell (S := (· = kb)) (Chg.refl _ _) (p := ⟨kb, 0, none⟩) (fun _ => rfl) _
      have hK2 : Has (W1.setCell ⟨kb, 0, none⟩ (.int .i64 ((pn : Int) + 1))) kb 3 #[.int .i64 ((pn : Int) + 1)] := hI1.1.set 0 _
      have hKO : KeepsOthers W1 (W1.setCell ⟨kb, 0, none⟩ (.int .i64 ((pn : Int) + 1))) := KeepsOthers.setCell _ _ _
      revert hC2 hK2 hKO
      generalize W1.setCell ⟨kb, 0, none⟩ (.int .i64 ((pn : Int) + 1)) = W2
      intro hC2 hK2 hKO
      have hC9 : Chg (· = kb) w9 W2 := hI1.2.trans hC2 (fun _ _ e => e)
      have hT2 := HT9.out.chg hC9 (fun e => by omega)
      have hB2 := HB9.out.chg hC9 (fun e => by omega)
      have hm2 := hB1.chg hC2 (fun e => by omega)
      clear e0 ef hB1
      have e0 := (hT2.cell 0).trans rfl
      have b0 := (hB2.cell 0).trans rfl
      have b1 := (hB2.cell 1).trans rfl
      have b2 := (hB2.cell 2).trans rfl
      have b3 := (hB2.cell 3).trans rfl
      have b4 := (hB2.cell 4).trans rfl
      have m0 := (hm2.cell 0).trans rfl
      have m1 := (hm2.cell 1).trans rfl
      have m2 := (hm2.cell 2).trans rfl
      have m3 := (hm2.cell 3).trans rfl
      have m4 := (hm2.cell 4).trans rfl
      have m5 := (hm2.cell 5).trans rfl
      have HP : Hid (KeepsFrom w9.heap.size W1 W2 ∧ Kc kb W1 W2 ∧ I (pre ++ [⟨(xi, ⟨x0, x1, x2, x3, x4⟩), hxm⟩]) W2) := by
        refine ⟨hKO.from _, Kc.of_chg hC2, ?_⟩
        rw [hI]
        refine ⟨?_, hC9⟩
        rw [List.length_append, ← Hpn.out]
        exact hK2
      have Hnd : Hid M'.Nodup := HV9.out.2.2.2.2.2
      have HWy : Hid ((xi + 1 = tq ∧ x0 = k0 ∧ x1 = k1 ∧ x2 = k2 ∧ x3 = k3 ∧ x4 = s1) ∨ (xi + 1 ≠ tq ∧ ¬ (x0 = k0 ∧ x1 = k1 ∧ x2 = k2 ∧ x3 = k3 ∧ x4 = s1))) := ord_at Hnd.out Hat.out.1 Hat.out.2 Hsx.out hxm
      clear hT2 hB2 hm2 hC2 hK2 hKO hC9 hI1 hAx hI hown hownx hownA h0 hKt hKb hen hseq Hnd
      rcases HWy.out with ⟨q0, rfl, rfl, rfl, rfl, rfl⟩ | ⟨q0, q1⟩
      · have t0 : ((xi : Int) + 1 == (tq : Int)) = true := by simp; omega
        have t1 : ((xi : Int) + 1 != (tq : Int)) = false := by simp; omega
        have hnk := neqKey x0 x1 x2 x3
        clear HWy q0
        gi_wp2
        exact HP.out
      · have t0 : ((xi : Int) + 1 == (tq : Int)) = false := by simp; omega
        have t1 : ((xi : Int) + 1 != (tq : Int)) = true := by simp; omega
        have hek := eqKey x0 x1 x2 x3 k0 k1 k2 k3
        by_cases hks : x0 = k0 ∧ x1 = k1 ∧ x2 = k2 ∧ x3 = k3
        · obtain ⟨rfl, rfl, rfl, rfl⟩ := hks
          have hse : (x4.toList == s1.toList) = false := by rw [str_same]; simp; intro e; exact q1 ⟨rfl, rfl, rfl, rfl, e⟩
          simp only [beq_self_eq_true, Bool.and_self] at hek
          clear HWy q0 q1
          gi_wp2
          exact HP.out
        · have hkf : (x0 == k0 && (x1 == k1 && (x2 == k2 && x3 == k3))) = false := by
            cases hb : (x0 == k0 && (x1 == k1 && (x2 == k2 && x3 == k3)))
            · rfl
            · simp at hb; exact absurd ⟨hb.1, hb.2.1, hb.2.2.1, hb.2.2.2⟩ hks
          rw [hkf] at hek
          clear HWy q0 q1 hkf hks
          gi_wp2
          exact HP.out
    case done =>
      rintro D xs W1 hD ⟨hxl, _⟩ hI1 hDD
      rw [hI] at hI1
      have hC9 := hI1.2
      have hKc := (hI1.1.cell 0).trans rfl
      rw [hxl] at hKc
      have HM9 : Hid (Orc W1 g g M') := (HV9.out.orc).far HK9.out (by decide) (by decide) hC9
      have HN10 : Hid (New w1 W1) := HN9.out.trans hC9 (fun i hi e => by omega)
      have HD10 : Hid (Dfs W1 (D :: Ds)) := by
        have h1 := HD9.out.chg hC9 (fun E hE e => by
          have h2 := HD9.out.2 E hE
          have h3 := HK9.out
          unfold Has at h3
          rw [e, h3] at h2
          cases h2)
        refine ⟨List.nodup_cons.2 ⟨fun hE => ?_, h1.1⟩, fun E hE => ?_⟩
        · have := lt_of_block (HD9.out.2 D hE)
          omega
        · rcases List.mem_cons.1 hE with rfl | hE
          · exact hDD
          · exact h1.2 E hE
      have HDb10 : Hid (∀ E ∈ D :: Ds, w1.heap.size ≤ E) := fun E hE => by
        rcases List.mem_cons.1 hE with rfl | hE
        · have := HN9.out.size; omega
        · exact HDb.out E hE
      have HKl : Hid (∀ wx, New W1 wx → wx.cell? ⟨kb, 0, none⟩ = some (.int .i64 (ml : Int))) := fun wx hx => by
        have h := ((hI1.1.keep hx).cell 0).trans rfl
        rw [hxl, ← Hml.out] at h
        exact h
      clear hC9 hKc hI1 hxl hDD hAx hI hown hownx hownA h0 hKt hKb hen hseq HV9 HB9 HT9 HK9 HS9 HD9 HN9
      dsimp only
      go_upto_region 21 with (fail)
      go_region_held_law (fun wx => wx.cell? ⟨kb, 0, none⟩ = some (.int .i64 (ml : Int)))
        (with_reducible refine HKl.out _ ?_; exact (by (with_reducible repeat (first | exact Chg.refl _ _ | refine Chg.drew ?_ | refine Chg.alloc ?_ _)); fail_if_success (have := True.intro)))
        (first
          | (go_at_call 12; (with_reducible refine (HLm.out _ (HM9.out.new (by (with_reducible repeat (first | exact Chg.refl _ _ | refine Chg.drew ?_ | refine Chg.alloc ?_ _)); fail_if_success (have := True.intro)))).mono ?_); rintro e w' ⟨rfl, hw'⟩; subst hw'))
      all_goals
        go_wp2_with fail
        go_roundg (100 - (k + 1))
        case measure => omega
        case rel => exact ⟨k + 1, M', D :: Ds, rfl, by omega, by omega, rfl, by go_num, HM9.out.new (by (with_reducible repeat (first | exact Chg.refl _ _ | refine Chg.drew ?_ | refine Chg.alloc ?_ _)); fail_if_success (have := True.intro)), Hml2.out, HN10.out.then_new (by (with_reducible repeat (first | exact Chg.refl _ _ | refine Chg.drew ?_ | refine Chg.alloc ?_ _)); fail_if_success (have := True.intro)), HD10.out.new (by (with_reducible repeat (first | exact Chg.refl _ _ | refine Chg.drew ?_ | refine Chg.alloc ?_ _)); fail_if_success (have := True.intro)), HDb10.out⟩
    case stop => exact fun D c pre W1 _ _ h _ => h.elim
  · have tk : (decide ((k : Int) < (N : Int)) = false ∧ decide (k < N) = false) ∨ (decide ((k : Int) < (N : Int)) = true ∧ decide (k < N) = true ∧ decide ((k : Int) < 100) = false ∧ decide (k < 100) = false) := by
      by_cases h1 : k < N
      · exact Or.inr ⟨by simp; omega, by simp; omega, by simp; omega, by simp; omega⟩
      · exact Or.inl ⟨by simp; omega, by simp; omega⟩
    have hG3 := HG1.out.keep HN3.out
    have r0 := (hG3.cell 0).trans rfl
    have rf := hG3.free 0
    have HG3 := Lib.hid hG3; clear hG3
    clear hlt
    rcases tk with ⟨tk, tk2⟩ | ⟨tk, tk2, tl, tl2⟩
    all_goals
      go_wp2_with fail
      have hC : Chg (· = rb) wr (wr.setCell ⟨rb, 0, none⟩ (.bool true)) := Chg.setCell (S := (· = rb)) (Chg.refl _ _) (p := ⟨rb, 0, none⟩) (fun _ => rfl) _
      have hrl := HG1.out.lt
      have hr := Hrb.out
      refine ⟨Ds, rfl, by rw [← hr]; rfl, ?_, (HN1.out.then_new HN3.out).trans hC (fun i hi e => by rw [e, Hrb.out] at hi; omega), HDf.out.chg hC (fun D hD e => by have := HDb.out D hD; omega), fun D hD => by have := HDb.out D hD; omega⟩
      rw [← hr]
      exact HG3.out.set 0 (.bool true)
end Go.Proofs.Ytoifcaogcphfhaa
