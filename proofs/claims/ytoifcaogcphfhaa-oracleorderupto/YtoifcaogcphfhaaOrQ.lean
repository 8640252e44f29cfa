/-
  Package oracle's issue and Mint.
-/
import Derived.Test.YtoifcaogcphfhaaOrP
namespace Go.Proofs.Ytoifcaogcphfhaa
open Go.ChangeShapes Go.WideShapes Go.ChangeAt Go.RowKit Go.Maps
/-- 'append(s, xs...)', s the call's own: what was s's own stays so -/
theorem run_append_keep {P : Program} (w : World) (base : Nat) (t ty e : TypeId) (i : TypeInfo) (z : Value) (size bytes : Nat) (ht : P.underlying t = some (.slice e)) (hi : P.info? e = some i) (hz : i.zero = some z)
    (hsize : i.size = size) (hby : i.bytes = bytes) (hzs : z.cells.size = size) (hsz : 0 < size)
    (v : Value) (n : Nat) (xs : List Value) (hown : w.ownsRow base e size v n xs)
    (a : Addr) (m c : Nat) (news : List Value) (hl : news.length = m * size) (hnews : ∀ j u, news[j]? = some u → w.cell? (a.add j) = some u) (h1 : ∀ u ∈ news, u.oneCell' = true)
    (h63 : n + m ≤ maxLen) (hbytes : (n + m) * bytes ≤ 140737488355328) (hbase : base ≤ w.heap.size) :
    ∃ v' w', (Builtin.append_ #[t, t] ty #[v, .slice (some a) m c]).run P w = .ok v' w' ∧ w'.ownsRow base e size v' (n + m) (xs ++ news) ∧ w.grownBy w' v.ownBlock ∧ (v'.ownBlock = v.ownBlock ∨ v'.ownBlock = some w.heap.size) ∧ w'.ownsRow base e size v n xs := by
  obtain ⟨v', w', hr, h2, h3, _, h5⟩ := run_append_own_at (P := P) w base t ty e i z size bytes ht hi hz hsize hby hzs hsz v n xs hown a m c news hl hnews h1 h63 hbytes hbase
  refine ⟨v', w', hr, h2, h3, h5, ?_⟩
  have h63' := h63
  simp only [maxLen] at h63'
  rcases hown.2 with ⟨rfl, rfl⟩ | ⟨g, cap, cur, rfl, hbg, hg, hnc, hcm, hcs, htake⟩
  · have hx : xs = [] := List.eq_nil_of_length_eq_zero (by simpa using hown.1)
    subst hx
    exact World.ownsRow_nil _ _ _ _
  · subst hsize
    by_cases hroom : n + m ≤ cap
    · have hfit : n * i.size + news.length ≤ cur.size := by rw [hl, hcs, ← Nat.add_mul]; exact Nat.mul_le_mul_right _ hroom
      have hr2 := run_append_room (P := P) w t ty e i ht hi g n cap cur hg a m c news hl hnews h1 hroom hfit
      rw [hr2] at hr
      cases hr
      have hlen := hown.1
      refine ⟨hlen, .inr ⟨g, cap, _, rfl, hbg, setRow_heap w g cur _ e _ hg, hnc, hcm, ?_, ?_⟩⟩
      · simp only [List.size_toArray, List.length_append, List.length_take, List.length_drop, Array.length_toList]
        omega
      · rw [htake, List.append_assoc, ← hlen]
        exact List.take_left
    · subst hby
      have holds : ∀ j u, xs[j]? = some u → w.cell? ((⟨g, 0, none⟩ : Addr).add j) = some u := hown.cells (g := g) rfl
      have hr2 := run_append_grow (P := P) w t ty e i z ht hi hz ⟨g, 0, none⟩ n cap xs hown.1 holds a m c news hl hnews (by omega) (by omega) (growslice_fits (by omega) hbytes)
      rw [hr2] at hr
      cases hr
      exact own_new hown (((Chg.refl _ _).drew).alloc _)
theorem step_append_keep {P : Program} {w : World} {ops : Array Oper} {o : Oper} {a : Act} {K : Act → World → Prop} {Q : Exit → Act → World → Prop} {E : Prop} (hgd : o.guard = none) (s x : Operand) (t : TypeId)
    (ho : o.op = .call { callee := .builtin .append, args := #[s, x], argTypes := #[t, t] })
    (base : Nat) (e : TypeId) (i : TypeInfo) (z : Value) (size bytes : Nat) (ht : P.underlying t = some (.slice e)) (hi : P.info? e = some i) (hz : i.zero = some z)
    (hsize : i.size = size) (hby : i.bytes = bytes) (hzs : z.cells.size = size) (hsz : 0 < size)
    (v : Value) (n : Nat) (xs : List Value) (hs : a.eval s = v) (hown : w.ownsRow base e size v n xs)
    (ad : Addr) (m c : Nat) (news : List Value) (hx : a.eval x = .slice (some ad) m c) (hl : news.length = m * size)
    (hnews : ∀ j u, news[j]? = some u → w.cell? (ad.add j) = some u) (h1 : ∀ u ∈ news, u.oneCell' = true)
    (h63 : n + m ≤ maxLen) (hbytes : (n + m) * bytes ≤ 140737488355328) (hbase : base ≤ w.heap.size)
    (h : ∀ A' c' w', w'.ownsRow base e size (.slice A' (n + m) c') (n + m) (xs ++ news) → Chg (fun k => v.ownBlock = some k) w w' → w'.ownsRow base e size v n xs → K (a.put o.dst (.slice A' (n + m) c')) w') :
    if Region.wanted o (yielded ops a.tmps) = true then Oper.wp P o a w K Q else E := by
  have hw : Region.wanted o (yielded ops a.tmps) = true := by simp [Region.wanted, hgd]
  rw [if_pos hw]
  obtain ⟨v', w', hr, h2, h3, h5, h6⟩ := run_append_keep (P := P) w base t o.type e i z size bytes ht hi hz hsize hby hzs hsz v n xs hown ad m c news hl hnews h1 h63 hbytes hbase
  obtain ⟨A', c', rfl, _⟩ := own_form h2
  unfold Oper.wp execOp
  simp only [ho, resolve, invoke, builtin, Sem.run_bind, Sem.run_pure, Result.andThen_ok, List.map_toArray, List.map_cons, List.map_nil, hs, hx, hr]
  exact h A' c' w' h2 (Chg.grown (Chg.refl _ _) h3 fun k hk _ => hk) h6
theorem Try.info53 : (Try.prog.info? 53).map (fun i => (i.zero, i.size, i.bytes)) = some (some (.agg #[.int .i64 0, .int .i64 0, .int .i64 0, .int .i64 0, .string ⟨#[]⟩]), 5, 48) := by kernel_rfl
theorem Mp.ne_has {w : World} {b g : Nat} {t : TypeId} {cs : Array Value} {M : List Sl} (h : Mp w b M) (hg : Has w g t cs) : g ≠ b := by
  intro e
  obtain ⟨es, ck, h1, _⟩ := h
  unfold Has at hg
  rw [← e, hg] at h1
  cases h1
theorem Mp.ne_own {w : World} {b base e size n : Nat} {v : Value} {xs : List Value} {M : List Sl} (h : Mp w b M) (ho : w.ownsRow base e size v n xs) : v.ownBlock ≠ some b := by
  intro hv
  obtain ⟨es, ck, h1, _⟩ := h
  rcases ho.2 with ⟨rfl, _⟩ | ⟨g, cap, cur, rfl, _, hg, _⟩
  · cases hv
  · simp only [Value.ownBlock, Option.some.injEq] at hv
    rw [← hv, hg] at h1
    cases h1
theorem has_cells {w : World} {g : Nat} {t : TypeId} {l : List Value} (h : Has w g t l.toArray) (j : Nat) (u : Value) (hu : l[j]? = some u) : w.cell? ((⟨g, 0, none⟩ : Addr).add j) = some u := by
  obtain ⟨ad, e, hc⟩ := has_news h j u hu
  cases e
  exact hc
theorem own_OS {w : World} {base n k : Nat} {v : Value} {xs : List Value} (ho : w.ownsRow base 53 5 v n xs) (hv : v.ownBlock = some k) : OS base w k := by
  rcases ho.2 with ⟨rfl, _⟩ | ⟨g, cap, cur, rfl, hb, hg, _⟩
  · cases hv
  · simp only [Value.ownBlock, Option.some.injEq] at hv
    rw [← hv]
    exact ⟨hb, Or.inr (Or.inr ⟨_, _, hg⟩)⟩
theorem eqNil0 (w : World) : (binOp .eql 25 (.map none) (.map none)).run Try.prog w = .ok (.bool true) w := by kernel_rfl
theorem eqNil1 (b : Nat) (w : World) : (binOp .eql 25 (.map (some b)) (.map none)).run Try.prog w = .ok (.bool false) w := by kernel_rfl
set_option maxRecDepth 100000 in
set_option maxHeartbeats 2000000 in
theorem issue_any (base g : Nat) (M : List Sl) (x : Sl) (hx : SlOk x) (w : World) (mv sv : Value) (hH : Has w g 28 #[mv, sv]) (hgb : base ≤ g) (hO : w.ownsRow base 53 5 sv M.length (slRow M))
    (hMp : (mv = .map none ∧ M = []) ∨ ∃ b, mv = .map (some b) ∧ base ≤ b ∧ Mp w b M) (hok : ∀ y ∈ M, SlOk y) (hnd : M.Nodup) (hn : x ∉ M) (hm : M.length ≤ 1000) :
    Calls Try.prog 16 #[.pointer (some ⟨g, 0, none⟩), slV x] w fun e w' => e = .returned (.int .i64 ((M.length + 1 : Nat) : Int)) ∧ Orc w' base g (M ++ [x]) ∧ Chg (OS base w) w w' ∧ w'.ownsRow base 53 5 sv M.length (slRow M) := by
  obtain ⟨A, c, rfl, _⟩ := own_form hO
  obtain ⟨m, hml⟩ : ∃ m, m = M.length := ⟨_, rfl⟩
  rw [← hml] at hO hH hm ⊢
  have Hml := Lib.hid hml; clear hml
  obtain ⟨x0, x1, x2, x3, xs⟩ := x
  have hb0 : base ≤ w.heap.size := Nat.le_trans hgb (Nat.le_of_lt hH.lt)
  have HO := Lib.hid hO; clear hO
  have HH := Lib.hid hH; clear hH
  have Hok := Lib.hid hok; clear hok
  have Hnd := Lib.hid hnd; clear hnd
  have Hn := Lib.hid hn; clear hn
  have Hx := Lib.hid hx; clear hx
  unfold slV
  dsimp only
  go_enter Try.func16, Try.ntmps16
  go_upto_region 1 with (fail)
  have hN1 : New w (w.alloc (.cells #[.int .i64 x0, .int .i64 x1, .int .i64 x2, .int .i64 x3, .string xs] 53)) := (Chg.refl _ _).alloc _
  have hS1 := Has.new w 53 #[.int .i64 x0, .int .i64 x1, .int .i64 x2, .int .i64 x3, .string xs]
  obtain ⟨w1, hw1⟩ : ∃ w1, w1 = w.alloc (.cells #[.int .i64 x0, .int .i64 x1, .int .i64 x2, .int .i64 x3, .string xs] 53) := ⟨_, rfl⟩
  rw [← hw1] at hN1 hS1 ⊢
  clear hw1
  obtain ⟨sb, hsb⟩ : ∃ sb, sb = w.heap.size := ⟨_, rfl⟩
  rw [← hsb] at hS1 ⊢
  have hgs : g ≠ sb := by have := HH.out.lt; omega
  have hH1 := HH.out.keep hN1
  have c0 := (hH1.cell 0).trans rfl
  have c1 := (hH1.cell 1).trans rfl
  have f0 := hH1.free 0
  have HH1 := Lib.hid hH1; clear hH1
  have HO1 := Lib.hid (own_new HO.out hN1)
  have HS1 := Lib.hid hS1; clear hS1
  have HN1 := Lib.hid hN1; clear hN1
  have Hsb := Lib.hid hsb; clear hsb
  rcases hMp with ⟨rfl, hnil⟩ | ⟨b, rfl, hbb, hMb⟩
  case' inl =>
    have Hnil := Lib.hid hnil; clear hnil
    have d0 : (w1.alloc (.map #[] 0)).cell? ⟨g, 0, none⟩ = some (.map none) := ((HH1.out.alloc _).cell 0).trans rfl
    have df : (w1.alloc (.map #[] 0)).frozen? ⟨g, 0, none⟩ = false := (HH1.out.alloc _).free 0
    have hmm := @run_makeMap Try.prog
    have hq := eqNil0
    go_upto_region 3 with (fail)
    clear d0 df hmm hq
    have hC3 : Chg (OS base w) w ((w1.alloc (.map #[] 0)).setCell ⟨g, 0, none⟩ (.map (some w1.heap.size))) := ((Chg.of_new HN1.out).alloc _).setCell (p := ⟨g, 0, none⟩) (fun _ => ⟨hgb, Or.inr (Or.inl ⟨_, _, HH.out⟩)⟩) _
    have hH3 : Has ((w1.alloc (.map #[] 0)).setCell ⟨g, 0, none⟩ (.map (some w1.heap.size))) g 28 #[.map (some w1.heap.size), .slice A m c] := (HH1.out.alloc (.map #[] 0)).set 0 (.map (some w1.heap.size))
    have hCg : Chg (· = g) w1 ((w1.alloc (.map #[] 0)).setCell ⟨g, 0, none⟩ (.map (some w1.heap.size))) := Chg.setCell (S := (· = g)) ((Chg.refl _ _).alloc _) (p := ⟨g, 0, none⟩) (fun _ => rfl) _
    have hM3 : Mp ((w1.alloc (.map #[] 0)).setCell ⟨g, 0, none⟩ (.map (some w1.heap.size))) w1.heap.size M := by
      rw [Hnil.out]
      have h0 : Mp (w1.alloc (.map #[] 0)) w1.heap.size [] := ⟨#[], 0, heap_alloc_new w1 _, rfl, fun j e he => by simp at he⟩
      exact h0.chg (S := (· = g)) (Chg.setCell (S := (· = g)) (Chg.refl _ _) (p := ⟨g, 0, none⟩) (fun _ => rfl) _) (by have := HH1.out.lt; omega)
    have hb3 : base ≤ w1.heap.size := Nat.le_trans hb0 HN1.out.size
    have hbg3 : w1.heap.size ≠ g := by have := HH1.out.lt; omega
    have hOSb : w1.heap.size < w.heap.size → OS base w w1.heap.size := fun h => absurd h (by have := HN1.out.size; omega)
    revert hC3 hH3 hCg hM3 hb3 hbg3 hOSb
    generalize (w1.alloc (.map #[] 0)).setCell ⟨g, 0, none⟩ (.map (some w1.heap.size)) = w3
    generalize w1.heap.size = b
    intro hC3 hH3 hCg hM3 hb3 hbg3 hOSb
    have HOSb := Lib.hid hOSb; clear hOSb
    have hH3w := HH1.out
    clear HH1 Hnil
  case' inr =>
    have hq := eqNil1 b
    go_upto_region 3 with (fail)
    clear hq
    have hC3 : Chg (OS base w) w w1 := Chg.of_new HN1.out
    have hH3 := HH1.out
    have hCg : Chg (· = g) w1 w1 := Chg.refl _ _
    have hM3 := hMb.chg HN1.out fun f => f
    have hb3 := hbb
    have HOSb : Hid (b < w.heap.size → OS base w b) := fun _ => by
      obtain ⟨es, ck, h1, _⟩ := hMb
      exact ⟨hbb, Or.inl ⟨_, _, h1⟩⟩
    have hbg3 : b ≠ g := by
      intro e
      obtain ⟨es, ck, h1, _⟩ := hMb
      have h2 := HH.out
      unfold Has at h2
      rw [e, h2] at h1
      cases h1
    revert hC3 hH3 hCg hM3
    generalize hw3 : w1 = w3 at ⊢
    intro hC3 hH3 hCg hM3
    clear hCg
    have hCg : Chg (· = g) w1 w3 := by rw [hw3]; exact Chg.refl _ _
    clear hw3
    have hH3w := HH1.out
    clear hMb hbb HH1
  all_goals
    clear c0 c1 f0
    have hO3 := own_chg HO1.out hCg (fun k hk e => own_apart HO1.out hH3w (by decide) (by rw [hk, e]))
    have hS3 := HS1.out.chg hCg (fun e => hgs e.symm)
    have c0 := (hH3.cell 0).trans rfl
    have c1 := (hH3.cell 1).trans rfl
    have HH3 := Lib.hid hH3; clear hH3
    have HO3 := Lib.hid hO3; clear hO3
    have HC3 := Lib.hid hC3; clear hC3
    clear hCg HO1 HS1 HN1
    have s0 := (hS3.cell 0).trans rfl
    have s1 := (hS3.cell 1).trans rfl
    have s2 := (hS3.cell 2).trans rfl
    have s3 := (hS3.cell 3).trans rfl
    have s4 := (hS3.cell 4).trans rfl
    have HS3 := Lib.hid hS3; clear hS3
    have hMd : Mp w3.drew b M := hM3
    obtain ⟨w4, hst, hM4, hC4⟩ := hMd.store Hok.out ⟨x0, x1, x2, x3, xs⟩ Hx.out Hn.out
    unfold slV at hst
    dsimp only at hst
    rw [← Hml.out, show ((m + 1 : Nat) : Int) = (m : Int) + 1 from by omega] at hst
    have hg4 := hMd.ne_has (show Has w3.drew g _ _ from HH3.out)
    have hs4 := hMd.ne_has (show Has w3.drew sb _ _ from HS3.out)
    have ho4 := hMd.ne_own (show w3.drew.ownsRow _ _ _ _ _ _ from HO3.out)
    clear hM3 hMd
    have HM4 := Lib.hid hM4; clear hM4
    have HC4 := Lib.hid hC4; clear hC4
    go_upto_region 4 with (go_at_call 15; refine (number_any m w3 (by omega)).mono ?_; rintro e w5 ⟨rfl, hw5⟩; obtain rfl : w3 = w5 := hw5.symm)
    go_region
    all_goals
      have hH4 := (show Has w3.drew g _ _ from HH3.out).chg HC4.out hg4
      have hS4 := (show Has w3.drew sb _ _ from HS3.out).chg HC4.out hs4
      have hO4 := own_chg (show w3.drew.ownsRow _ _ _ _ _ _ from HO3.out) HC4.out (fun k hk e => ho4 (by rw [hk, e]))
      have hD4 : Chg (OS base w) w w4 := HC3.out.drew.trans HC4.out (fun i hi e => by rw [e] at hi ⊢; exact HOSb.out hi)
      clear hg4 hs4 ho4 hst c0 c1 s0 s1 s2 s3 s4 HH3 HS3 HO3
      have c1 := (hH4.cell 1).trans rfl
      have c2 : (w4.alloc (.cells #[.int .i64 x0, .int .i64 x1, .int .i64 x2, .int .i64 x3, .string xs] 53)).cell? ⟨g, 1, none⟩ = some (.slice A m c) := ((hH4.alloc _).cell 1).trans rfl
      have f1 := hH4.free 1
      have s0 := (hS4.cell 0).trans rfl
      have s1 := (hS4.cell 1).trans rfl
      have s2 := (hS4.cell 2).trans rfl
      have s3 := (hS4.cell 3).trans rfl
      have s4 := (hS4.cell 4).trans rfl
      have HH4 := Lib.hid hH4; clear hH4
      have HS4 := Lib.hid hS4; clear hS4
      have HO4 := Lib.hid hO4; clear hO4
      have HD4 := Lib.hid hD4; clear hD4
      go_upto_region 5 with (fail)
      obtain ⟨i0, hi, hz0, hz1, hz2⟩ := info_parts Try.info53
      go_region_law
        (refine step_append_keep rfl (.tmp 31) (.tmp 33) 26 rfl base 53 i0 (.agg #[.int .i64 0, .int .i64 0, .int .i64 0, .int .i64 0, .string ⟨#[]⟩]) 5 48 Try.underlying26 hi hz0 hz1 hz2 rfl (by decide) (.slice A m c) m (slRow M) (by simp [Act.eval]) (own_new HO4.out (by with_reducible repeat (first | exact Chg.refl _ _ | refine Chg.drew ?_ | refine Chg.alloc ?_ _))) ⟨w4.heap.size, 0, none⟩ 1 1 [.int .i64 x0, .int .i64 x1, .int .i64 x2, .int .i64 x3, .string xs] (by simp [Act.eval]) rfl (has_cells (Has.new _ _ _)) (by intro u hu; simp at hu; rcases hu with rfl | rfl | rfl | rfl | rfl <;> rfl) (by simp only [maxLen]; omega) (by omega) (by simp; have := HD4.out.size; omega) ?_
         intro A' c' w6 hO6 hC6 hK6
         have hC46 : Chg (fun k => Value.ownBlock (.slice A m c) = some k) w4 w6 := Chg.new_then (by with_reducible repeat (first | exact Chg.refl _ _ | refine Chg.drew ?_ | refine Chg.alloc ?_ _)) hC6
         have hH6 := HH4.out.chg hC46 (own_apart HO4.out HH4.out (by decide))
         have HM6 := Lib.hid (HM4.out.chg hC46 (HM4.out.ne_own HO4.out))
         have t1 := (hH6.cell 1).trans rfl
         have tf := hH6.free 1
         have HH6 := Lib.hid hH6
         have HO6 := Lib.hid hO6
         have HC6 := Lib.hid hC46
         have HK6 := Lib.hid hK6
         clear hO6 hC6 hK6 hC46 hH6)
      all_goals
        clear t1 tf c1 c2 f1 s0 s1 s2 s3 s4
        have hH7 := HH6.out.set 1 (.slice A' (m + 1) c')
        have hC7 : Chg (· = g) w6 (w6.setCell ⟨g, 1, none⟩ (.slice A' (m + 1) c')) := Chg.setCell (S := (· = g)) (Chg.refl _ _) (p := ⟨g, 1, none⟩) (fun _ => rfl) _
        revert hH7 hC7
        generalize w6.setCell ⟨g, 1, none⟩ (.slice A' (m + 1) c') = w7
        intro hH7 hC7
        have HH7 := Lib.hid hH7; clear hH7
        have HC7 := Lib.hid hC7; clear hC7
        go_wp2_with fail
        go_ret
        refine ⟨by go_num, ⟨.map (some b), .slice A' (m + 1) c', HH7.out, hgb, ?_, Or.inr ⟨b, rfl, hb3, HM6.out.chg HC7.out hbg3⟩, ?_, ?_⟩, ?_, own_chg HK6.out HC7.out (fun k hk e => own_apart HK6.out HH6.out (by decide) (by rw [hk, e]))⟩
        · have := own_chg HO6.out HC7.out (fun k hk e => own_apart HO6.out HH6.out (by decide) (by rw [hk, e]))
          rw [slRow_push, List.length_append, ← Hml.out]
          exact this
        · intro y hy
          rcases List.mem_append.1 hy with hy | hy
          · exact Hok.out y hy
          · rw [List.mem_singleton] at hy
            rw [hy]
            exact Hx.out
        · refine List.nodup_append.2 ⟨Hnd.out, by simp, ?_⟩
          intro y hy z hz e
          rw [List.mem_singleton] at hz
          exact Hn.out (by rw [← hz, ← e]; exact hy)
        · refine (HD4.out.trans HC6.out fun i hi hk => own_OS HO.out hk).trans HC7.out fun i hi e => ?_
          rw [e]
          exact ⟨hgb, Or.inr (Or.inl ⟨_, _, HH.out⟩)⟩
end Go.Proofs.Ytoifcaogcphfhaa
