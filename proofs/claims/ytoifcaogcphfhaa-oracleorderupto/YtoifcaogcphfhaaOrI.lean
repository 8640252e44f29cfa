/-
  Package oracle's All: what it yields.
-/
import Derived.Test.YtoifcaogcphfhaaOrT
import Derived.RangeFuncNested
import Derived.RangeFuncBound
import Derived.RangeFuncCalls
import Derived.RangeFuncLeaves
import Derived.Shelf.Abstract
import Derived.Shelf.RegionOpen
import Derived.OwnWalkIn
import Derived.TacticsInMore
import Derived.LoopNIn
import Derived.LoopIn
import Derived.Stop.RegionWithIn
import Derived.Sort.LoopGhostIn
import Derived.Sort.CutIn
namespace Go.Proofs.Ytoifcaogcphfhaa
open Go.ChangeShapes Go.WideShapes Go.ChangeAt Go.RowKit Go.Maps Go.Shelf
attribute [local go_sem] Oper.semAt_some
set_option maxRecDepth 100000 in
theorem All_any (base g : Nat) (M : List Sl) (w : World) (mv sv : Value) (h : OrcV w base g M mv sv) : Calls Try.prog 10 #[.pointer (some ⟨g, 0, none⟩)] w fun e w' => e = .returned (.func (.func 14) #[] #[.pointer (some ⟨w.heap.size, 0, none⟩)]) ∧ w' = w.alloc (.cells #[sv] 26) := by
  obtain ⟨hH, _, hO, _⟩ := h
  obtain ⟨A, c, rfl, _⟩ := own_form hO
  have c1 := (hH.cell 1).trans rfl
  go_enter Try.func10, Try.ntmps10
  go_wp2_with fail
  go_ret
  exact ⟨rfl, rfl⟩
/-- what is yielded: a place and what stands there -/
def Yl (M : List Sl) : Type := { p : Nat × Sl // M[p.1]? = some p.2 }
def ylV (M : List Sl) (x : Yl M) : Array Value := #[.agg #[.int .i64 ((x.1.1 + 1 : Nat) : Int), .int .i64 x.1.2.o, .int .i64 x.1.2.t, .int .i64 x.1.2.c, .int .i64 x.1.2.v, .string x.1.2.s]]
/-- all blocks of cells but one stay -/
def Kc (kb : Nat) (W W' : World) : Prop := W.heap.size ≤ W'.heap.size ∧ ∀ k cs t m, k ≠ kb → W.heap[k]? = some (.cells cs t m) → W'.heap[k]? = some (.cells cs t m)
theorem Kc.refl (kb : Nat) (W : World) : Kc kb W W := ⟨Nat.le_refl _, fun _ _ _ _ _ h => h⟩
theorem Kc.trans {kb : Nat} {A B C : World} (h : Kc kb A B) (k : Kc kb B C) : Kc kb A C := ⟨Nat.le_trans h.1 k.1, fun i _ _ _ hi h0 => k.2 i _ _ _ hi (h.2 i _ _ _ hi h0)⟩
theorem Kc.has {kb k t : Nat} {cs : Array Value} {W W' : World} (h : Kc kb W W') (hk : k ≠ kb) (h0 : Has W k t cs) : Has W' k t cs := h.2 k cs t _ hk h0
theorem Kc.own {kb base n : Nat} {v : Value} {xs : List Value} {W W' : World} (h : Kc kb W W') (ho : W.ownsRow base 53 5 v n xs) (hk : v.ownBlock ≠ some kb) : W'.ownsRow base 53 5 v n xs := by
  refine ⟨ho.1, ?_⟩
  rcases ho.2 with h1 | ⟨g, cap, cur, rfl, hb, hg, h4, h5, h6, h7⟩
  · exact Or.inl h1
  · exact Or.inr ⟨g, cap, cur, rfl, hb, h.2 g _ _ _ (fun e => hk (by rw [e]; rfl)) hg, h4, h5, h6, h7⟩
theorem Kc.of_chg {kb : Nat} {W W' : World} (h : Chg (· = kb) W W') : Kc kb W W' := ⟨h.size, fun k _ _ _ hk h0 => (h.block k (lt_of_block h0) hk).trans h0⟩
theorem slRow_get (L : List Sl) (j t : Nat) (x : Sl) (hj : L[j]? = some x) (ht : t < 5) : (slRow L)[j * 5 + t]? = (slC x)[t]? := by
  induction L generalizing j with
  | nil => simp at hj
  | cons f l ih =>
    rw [slRow, List.flatMap_cons]
    have h5 : (slC f).length = 5 := rfl
    cases j with
    | zero =>
      simp only [List.getElem?_cons_zero, Option.some.injEq] at hj
      subst hj
      rw [List.getElem?_append_left (by omega)]
      congr 1
      omega
    | succ j =>
      simp only [List.getElem?_cons_succ] at hj
      rw [List.getElem?_append_right (by omega), h5, ← ih j hj, slRow]
      congr 1
      omega
theorem own_sl {w : World} {base c j : Nat} {A : Option Addr} {M : List Sl} {x : Sl} (h : w.ownsRow base 53 5 (.slice A M.length c) M.length (slRow M)) (hj : M[j]? = some x) : ∃ b, A = some ⟨b, 0, none⟩ ∧ ∀ t, t < 5 → w.cell? ⟨b, j * 5 + t, none⟩ = (slC x)[t]? := by
  have hlt : j < M.length := (List.getElem?_eq_some_iff.1 hj).1
  have hl := h.1
  rcases h.2 with ⟨hv, hn⟩ | ⟨g, cap, cur, hv, _⟩
  · omega
  · simp only [Value.slice.injEq] at hv
    obtain ⟨rfl, _, rfl⟩ := hv
    exact ⟨g, rfl, fun t ht => (h.cellAt (j * 5 + t) (by omega)).trans (slRow_get M j t x hj ht)⟩
/-- in order, from the first -/
def InOrder {M : List Sl} (pre : List (Yl M)) : Prop := ∀ (i : Nat) (x : Yl M), pre[i]? = some x → x.1.1 = i
theorem InOrder.nil {M : List Sl} : InOrder ([] : List (Yl M)) := fun i x h => by simp at h
theorem InOrder.push {M : List Sl} {pre : List (Yl M)} {x : Yl M} (h : InOrder pre) (hx : x.1.1 = pre.length) : InOrder (pre ++ [x]) := fun i y hy => by
  rcases Nat.lt_trichotomy i pre.length with hi | hi | hi
  · rw [List.getElem?_append_left hi] at hy; exact h i y hy
  · rw [hi, List.getElem?_append_right (Nat.le_refl _), Nat.sub_self] at hy
    simp only [List.getElem?_cons_zero, Option.some.injEq] at hy
    rw [← hy, hi, hx]
  · rw [List.getElem?_eq_none (by simp; omega)] at hy; cases hy
theorem grown_new {w w' : World} (h : New w w') : w.grownBy w' none := ⟨h.os, h.tape, h.output, h.size, fun k hk _ => h.block k hk fun f => f⟩
set_option maxRecDepth 100000 in
set_option maxHeartbeats 4000000 in
theorem all1_in (n : Nat) (hn : 1 ≤ n) (l Bs kb base : Nat) (M : List Sl) (A : Option Addr) (c : Nat) (J Jx : List (Yl M) → World → Prop) (W : World) (hJa : AbidesFrom W.heap.size J)
    (hY : ∀ pre x W1, J pre W1 → pre.length < M.length → YieldAt Fence.wide (n - 1) Try.prog l (ylV M x) W1 fun e W' => (e = .returned (.bool true) ∧ J (pre ++ [x]) W' ∧ Kc kb W1 W') ∨ (e = .returned (.bool false) ∧ Jx (pre ++ [x]) W'))
    (hBs : Has W Bs 26 #[.slice A M.length c]) (_hBk : Bs ≠ kb) (hO : W.ownsRow base 53 5 (.slice A M.length c) M.length (slRow M)) (hOk : Value.ownBlock (.slice A M.length c) ≠ some kb) (hm : M.length ≤ 1000) (h0 : J [] W) :
    CallsIn Fence.wide n Try.prog 14 #[.func (.yield l) #[] #[], .pointer (some ⟨Bs, 0, none⟩)] W fun e W' => (∃ v, e = .returned v) ∧
      ((∃ xs, (xs.length = M.length ∧ InOrder xs) ∧ J xs W') ∨ (∃ pre, InOrder pre ∧ Jx pre W')) := by
  obtain ⟨m, hml⟩ : ∃ m, m = M.length := ⟨_, rfl⟩
  have HO := Lib.hid hO; clear hO
  have HY := Lib.hid hY; clear hY
  have HJa := Lib.hid hJa; clear hJa
  have HBs := Lib.hid hBs
  have c0 : W.cell? ⟨Bs, 0, none⟩ = some (.slice A m c) := by rw [hml]; exact (hBs.cell 0).trans rfl
  clear hBs
  rw [← hml] at hm
  have Hml := Lib.hid hml; clear hml
  refine callsIn_of_wp Try.func14 rfl trivial ?_ rfl
  simp only [Try.ntmps14, List.size_toArray, List.length_cons, List.length_nil, Nat.reduceAdd, Nat.reduceSub, Array.replicate_succ, Array.replicate_zero, List.push_toArray, List.append_toArray, List.nil_append, List.cons_append]
  gi_wp2
  gi_loopw [7] (fun i wr => ∃ (k : Nat) (pre : List (Yl M)), k ≤ m ∧ i = .int .i64 k ∧ pre.length = k ∧ InOrder pre ∧ J pre wr ∧ Kc kb W wr)
    (fun i _ => m - (intOf i).toNat)
  case atStart => exact ⟨0, [], Nat.zero_le _, rfl, rfl, InOrder.nil, h0, Kc.refl _ _⟩
  case round =>
    obtain ⟨k, pre, hk, rfl, hpl, hio, hJs, hKc⟩ := hrel
    by_cases hlt : k < m
    · have hkM : k < M.length := by rw [← Hml.out]; exact hlt
      have hMk : M[k]? = some M[k] := List.getElem?_eq_getElem hkM
      obtain ⟨b, rfl, hcs⟩ := own_sl (hKc.own HO.out hOk) hMk
      obtain ⟨y, hy⟩ : ∃ y, y = M[k] := ⟨_, rfl⟩
      rw [← hy] at hcs hMk
      clear hy
      obtain ⟨y0, y1, y2, y3, ys⟩ := y
      have d0 : wr.cell? ⟨b, k * 5, none⟩ = some (.int .i64 y0) := (hcs 0 (by omega)).trans rfl
      have d1 : wr.cell? ⟨b, k * 5 + 1, none⟩ = some (.int .i64 y1) := (hcs 1 (by omega)).trans rfl
      have d2 : wr.cell? ⟨b, k * 5 + 2, none⟩ = some (.int .i64 y2) := (hcs 2 (by omega)).trans rfl
      have d3 : wr.cell? ⟨b, k * 5 + 3, none⟩ = some (.int .i64 y3) := (hcs 3 (by omega)).trans rfl
      have d4 : wr.cell? ⟨b, k * 5 + 4, none⟩ = some (.string ys) := (hcs 4 (by omega)).trans rfl
      clear hcs
      have HKc := Lib.hid hKc; clear hKc
      have HJs := Lib.hid hJs; clear hJs
      have Hio := Lib.hid hio; clear hio
      have Hpl := Lib.hid hpl; clear hpl
      have HMk := Lib.hid hMk; clear hMk
      gi_upto_region 3 with (fail)
      have hN2 : New wr (wr.alloc (.cells #[.int .i64 y0, .int .i64 y1, .int .i64 y2, .int .i64 y3, .string ys] 53)) := (Chg.refl _ _).alloc _
      have hS2 := Has.new wr 53 #[.int .i64 y0, .int .i64 y1, .int .i64 y2, .int .i64 y3, .string ys]
      obtain ⟨w2, hw2⟩ : ∃ w2, w2 = wr.alloc (.cells #[.int .i64 y0, .int .i64 y1, .int .i64 y2, .int .i64 y3, .string ys] 53) := ⟨_, rfl⟩
      rw [← hw2] at hN2 hS2 ⊢
      clear hw2
      have e0 := (hS2.cell 0).trans rfl
      have e1 := (hS2.cell 1).trans rfl
      have e2 := (hS2.cell 2).trans rfl
      have e3 := (hS2.cell 3).trans rfl
      have e4 := (hS2.cell 4).trans rfl
      clear hS2 d0 d1 d2 d3 d4
      have hJ2 : J pre w2.drew := HJa.out pre wr w2.drew none HJs.out (grown_new hN2.drew) (fun r e => by cases e)
      obtain ⟨fn, tmps, assign, body, hy, hR⟩ := HY.out pre ⟨(k, ⟨y0, y1, y2, y3, ys⟩), HMk.out⟩ w2.drew hJ2 (by rw [Hpl.out]; exact hkM)
      have HR := Lib.hid (hR.mono (R' := fun e W' => ∃ bb : Bool, e = .returned (.bool bb) ∧ ((bb = true ∧ J (pre ++ [⟨(k, ⟨y0, y1, y2, y3, ys⟩), HMk.out⟩]) W' ∧ Kc kb w2.drew W') ∨ (bb = false ∧ Jx (pre ++ [⟨(k, ⟨y0, y1, y2, y3, ys⟩), HMk.out⟩]) W'))) (fun e W' h => by
        rcases h with ⟨rfl, h1, h2⟩ | ⟨rfl, h1⟩
        · exact ⟨true, rfl, Or.inl ⟨rfl, h1, h2⟩⟩
        · exact ⟨false, rfl, Or.inr ⟨rfl, h1⟩⟩))
      clear hR
      simp only [ylV] at hy
      push_cast at hy
      have HN2 := Lib.hid hN2; clear hN2 hJ2
      gi_region_with (first
        | (refine ⟨trivial, ?_⟩; gi_at_call 15; refine (callsIn_wide.2 (number_any k _ (by omega))).mono ?_; rintro e w' ⟨rfl, rfl⟩)
        | (refine HR.out.mono ?_; rintro e W3 ⟨bb, rfl, h3⟩; have H3 := Lib.hid h3; clear h3))
      all_goals
        clear e0 e1 e2 e3 e4 hy
        rcases H3.out with ⟨rfl, hJ3, hk3⟩ | ⟨rfl, hJx3⟩
        · have HJ3 := Lib.hid hJ3; clear hJ3
          have Hk3 := Lib.hid hk3; clear hk3
          clear H3
          gi_wp2
          go_roundw
          case rel => exact ⟨k + 1, pre ++ [⟨(k, ⟨y0, y1, y2, y3, ys⟩), HMk.out⟩], by omega, by simp, by rw [List.length_append, Hpl.out]; rfl, Hio.out.push (by rw [Hpl.out]), HJ3.out, (HKc.out.trans (Kc.of_chg (Chg.of_new HN2.out.drew))).trans Hk3.out⟩
          case measure => simp [intOf]; omega
        · have HJx3 := Lib.hid hJx3; clear hJx3
          clear H3
          gi_wp2
          refine bodyPost_ret (results_none rfl _ _ _) rfl ?_
          exact ⟨⟨_, rfl⟩, .inr ⟨_, Hio.out.push (by rw [Hpl.out]), HJx3.out⟩⟩
    · obtain rfl : k = m := by omega
      gi_wp2
      go_end0
      exact ⟨⟨_, rfl⟩, .inl ⟨pre, ⟨by rw [hpl, Hml.out], hio⟩, hJs⟩⟩
/-- All, as a range takes it -/
theorem all_stops (n : Nat) (hn : 1 ≤ n) (Bs kb base : Nat) (M : List Sl) (sv : Value) (w : World) (hBs : Has w Bs 26 #[sv]) (hBk : Bs ≠ kb) (hO : w.ownsRow base 53 5 sv M.length (slRow M)) (hOk : sv.ownBlock ≠ some kb) (hm : M.length ≤ 1000) :
    SeqStopsK Fence.wide n Try.prog 14 #[.pointer (some ⟨Bs, 0, none⟩)] (ylV M) (Kc kb) (fun xs => xs.length = M.length ∧ InOrder xs) (fun pre => InOrder pre) M.length w := fun l J Jx W hW hJa _ hY h0 => by
  obtain ⟨A, c, rfl, _⟩ := own_form hO
  have hN : New w W := New.of_below hW
  exact all1_in n hn l Bs kb base M A c J Jx W hJa hY (hBs.keep hN) hBk (own_new hO hN) hOk hm h0
end Go.Proofs.Ytoifcaogcphfhaa
