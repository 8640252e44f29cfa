/-
  What the program's Store does.
-/
import Derived.Test.YtjkpijinpfimiaaPrO
namespace Go.Proofs.Ytjkpijinpfimiaa
open Go.RowKit
theorem Rws.three {w : World} {base g f : Nat} {t : TypeId} {S : Option Addr} {sc p ta tb : Nat} {x b : List Nat} (hg : Has w g t #[.int .i64 (ta : Int), .slice (some ⟨f, 0, none⟩) 32 64, .int .i64 (tb : Int), .slice (some ⟨f, 32, none⟩) 32 32, .int .i64 (p : Int), .slice S 32 sc]) (hb : b.length = 64) (hR : Row w f b) (hx : x.length = 32) (hO : w.ownsRow base 5 1 (.slice S 32 sc) 32 (x.map bV)) : Rws w (fun k => Value.ownBlock (.slice S 32 sc) = some k ∨ k = g ∨ k = f) (some ⟨g, 0, none⟩) [(ta, b.take 32), (tb, b.drop 32), (p, x)] := by
  have hAr := hR.arr hb
  have hA0 := Arr.take (m := 32) hAr (by omega)
  have hA1 := Arr.cut (l := 32) (m := 32) hAr (by omega)
  rw [List.take_of_length_le (by rw [List.length_drop, hb]; omega)] at hA1
  intro j r hr
  have hj3 : j < 3 := (List.getElem?_eq_some_iff.1 hr).1
  rcases (show j = 0 ∨ j = 1 ∨ j = 2 by omega) with rfl | rfl | rfl
  · simp only [List.getElem?_cons_zero, Option.some.injEq] at hr
    subst hr
    exact ⟨⟨g, 0, none⟩, some ⟨f, 0, none⟩, 64, rfl, Or.inr (Or.inl rfl), (hg.cell 0).trans rfl, (hg.cell 1).trans rfl, hA0.mono (fun x hx => Or.inr (Or.inr hx))⟩
  · simp only [List.getElem?_cons_succ, List.getElem?_cons_zero, Option.some.injEq] at hr
    subst hr
    exact ⟨⟨g, 0, none⟩, some ⟨f, 32, none⟩, 32, rfl, Or.inr (Or.inl rfl), (hg.cell 2).trans rfl, (hg.cell 3).trans rfl, Arr.mono hA1 (fun x hx => Or.inr (Or.inr hx))⟩
  · simp only [List.getElem?_cons_succ, List.getElem?_cons_zero, Option.some.injEq] at hr
    subst hr
    exact ⟨⟨g, 0, none⟩, S, sc, rfl, Or.inr (Or.inl rfl), (hg.cell 4).trans rfl, (hg.cell 5).trans rfl, (own_arr_bs hx hO).mono fun k hk => Or.inl hk⟩
theorem setE {w : World} {g : Nat} {y0 y1 y2 y3 : Value} (h : Has w g 60 #[y0, y1, y2, y3]) (x : Value) : Has (w.setCell ⟨g, 3, none⟩ x) g 60 #[y0, y1, y2, x] ∧ Chg (· = g) w (w.setCell ⟨g, 3, none⟩ x) := by
  refine ⟨?_, ?_⟩
  · have := h.set 3 x
    simpa using this
  · exact Chg.setCell (S := (· = g)) (Chg.refl _ _) (fun _ => rfl) _
set_option maxRecDepth 100000 in
set_option maxHeartbeats 8000000 in
theorem Store_any (g : Nat) (B : List Nat) (pw : Int) (c u K O I S : Int) (q p : Nat) (A : Option Addr) (n cc : Nat) (F : Nat → Prop) (l : List En) (D : Option Addr) (m dc : Nat) (body : List Nat) (w : World) (hC : Cd w g B pw) (hE : Ents w F A l) (hF : ∀ k, F k → k < w.heap.size) (hl : l.length = n) (hnil : A = none → n = 0 ∧ cc = 0) (hv : Vw.fine ⟨c, u, (q : Int), (p : Int), l⟩) (hD : Arr w F D m (fun i => bV (body.getD i 0))) (hm : body.length = m) (hb : ∀ x ∈ body, x < 256) :
    Calls Try.prog 30 #[.pointer (some ⟨g, 0, none⟩), .agg #[.int .i64 c, .int .i64 u, .int .i64 (q : Int), .int .i64 (p : Int), .slice A n cc], .agg #[.int .i64 K, .int .i64 O, .int .i64 I, .int .i64 S], .slice D m dc] w fun e w' => ChR g B pw (stE ⟨c, u, (q : Int), (p : Int), l⟩ ⟨K, O, I, S⟩ body.length) (stR ⟨c, u, (q : Int), (p : Int), l⟩ ⟨K, O, I, S⟩ body) (nextV ⟨c, u, (q : Int), (p : Int), l⟩ (stL l ⟨K, O, I, S⟩)) w e w' ∧ Chg (· = g) w w' := by
  have HC := Lib.hid hC
  have hgl := hC.lt
  have HE := Lib.hid hE; clear hE
  have HF := Lib.hid hF; clear hF
  have Hl := Lib.hid hl
  have Hnil := Lib.hid hnil; clear hnil
  have Hv := Lib.hid hv
  have HD := Lib.hid hD; clear hD
  have Hm := Lib.hid hm
  have Hb := Lib.hid hb; clear hb
  have hn5 : n ≤ 5 := by rw [← hl]; exact hv.len
  have hq1 : 1 ≤ q := by have := hv.q1; simp only at this; omega
  have hq2 : q ≤ 65535 := by have := hv.q2; simp only at this; omega
  have hp2 : p = 1 ∨ p = 2 := by have := hv.p; simp only at this; omega
  rw [hm]
  clear hl hv hC hm
  have HstE : Hid (stE ⟨c, u, (q : Int), (p : Int), l⟩ ⟨K, O, I, S⟩ m = if (En.mk K O I S).valid then (if 64 < m then 11 else if atI O I l < 0 ∧ 5 ≤ n then 20 else if 65535 ≤ (q : Int) then 29 else if freeI l < 0 then 21 else 0) else 2) := by show _ = _; unfold stE; simp only [Hl.out]
  obtain ⟨vb, hvb⟩ : ∃ vb, vb = w.heap.size := ⟨_, rfl⟩
  obtain ⟨eb, heb⟩ : ∃ eb, eb = w.heap.size + 1 := ⟨_, rfl⟩
  obtain ⟨rb, hrb⟩ : ∃ rb, rb = w.heap.size + 1 + 1 := ⟨_, rfl⟩
  go_enter Try.func30, Try.ntmps30
  go_upto_region 1 with (fail)
  obtain ⟨w1, hw1⟩ : ∃ w1, w1 = ((w.alloc (.cells #[.int .i64 c, .int .i64 u, .int .i64 (q : Int), .int .i64 (p : Int), .slice A n cc] 30)).alloc (.cells #[.int .i64 K, .int .i64 O, .int .i64 I, .int .i64 S] 60)).alloc (.cells #[.int .i64 0, .int .i64 0, .int .i64 0, .int .i64 0, .slice none 0 0] 30) := ⟨_, rfl⟩
  have HV1 : Hid (Has w1 vb 30 #[.int .i64 c, .int .i64 u, .int .i64 (q : Int), .int .i64 (p : Int), .slice A n cc]) := by rw [hw1, hvb]; exact ((Has.new w 30 _).alloc _).alloc _
  have HX1 : Hid (Has w1 eb 60 #[.int .i64 K, .int .i64 O, .int .i64 I, .int .i64 S]) := by rw [hw1, heb]; exact (Has.new_at _ 60 _ _ (by simp)).alloc _
  have HB1 : Hid (Has w1 rb 30 #[.int .i64 0, .int .i64 0, .int .i64 0, .int .i64 0, .slice none 0 0]) := by rw [hw1, hrb]; exact Has.new_at _ 30 _ _ (by simp)
  have HN1 : Hid (New w w1) := by rw [hw1]; exact (((Chg.refl _ _).alloc _).alloc _).alloc _
  have Hvr : Hid (w.heap.size ≤ rb ∧ rb ≠ g ∧ w.heap.size ≤ vb ∧ vb ≠ rb ∧ vb ≠ g ∧ w.heap.size ≤ eb ∧ eb ≠ rb ∧ eb ≠ g ∧ eb ≠ vb) := by show _ ∧ _ ∧ _ ∧ _ ∧ _ ∧ _ ∧ _ ∧ _ ∧ _; omega
  rw [← hw1, ← hrb]
  clear hw1 hrb
  rw [← heb]
  clear heb
  rw [← hvb]
  clear hvb
  have x0 : w1.cell? ⟨eb, 0, none⟩ = some (.int .i64 K) := (HX1.out.cell 0).trans rfl
  have x1 : w1.cell? ⟨eb, 1, none⟩ = some (.int .i64 O) := (HX1.out.cell 1).trans rfl
  have x2 : w1.cell? ⟨eb, 2, none⟩ = some (.int .i64 I) := (HX1.out.cell 2).trans rfl
  have x3 : w1.cell? ⟨eb, 3, none⟩ = some (.int .i64 S) := (HX1.out.cell 3).trans rfl
  go_wp2_with fail
  with_reducible refine (rightProduct_any K O I S w1).mono ?_
  rintro e w2 ⟨rfl, hN2⟩
  have HV2 := Lib.hid (HV1.out.keep hN2)
  have HX2 := Lib.hid (HX1.out.keep hN2)
  have HB2 := Lib.hid (HB1.out.keep hN2)
  have HN2 := Lib.hid (HN1.out.then_new hN2)
  clear hN2 x0 x1 x2 x3 HV1 HX1 HB1
  have v0 : w2.cell? ⟨vb, 0, none⟩ = some (.int .i64 c) := (HV2.out.cell 0).trans rfl
  have v1 : w2.cell? ⟨vb, 1, none⟩ = some (.int .i64 u) := (HV2.out.cell 1).trans rfl
  have v2 : w2.cell? ⟨vb, 2, none⟩ = some (.int .i64 (q : Int)) := (HV2.out.cell 2).trans rfl
  have v3 : w2.cell? ⟨vb, 3, none⟩ = some (.int .i64 (p : Int)) := (HV2.out.cell 3).trans rfl
  have v4 : w2.cell? ⟨vb, 4, none⟩ = some (.slice A n cc) := (HV2.out.cell 4).trans rfl
  have x0 : w2.cell? ⟨eb, 0, none⟩ = some (.int .i64 K) := (HX2.out.cell 0).trans rfl
  have x1 : w2.cell? ⟨eb, 1, none⟩ = some (.int .i64 O) := (HX2.out.cell 1).trans rfl
  have x2 : w2.cell? ⟨eb, 2, none⟩ = some (.int .i64 I) := (HX2.out.cell 2).trans rfl
  have x3 : w2.cell? ⟨eb, 3, none⟩ = some (.int .i64 S) := (HX2.out.cell 3).trans rfl
  have r0 : w2.cell? ⟨rb, 0, none⟩ = some (.int .i64 0) := (HB2.out.cell 0).trans rfl
  have r1 : w2.cell? ⟨rb, 1, none⟩ = some (.int .i64 0) := (HB2.out.cell 1).trans rfl
  have r2 : w2.cell? ⟨rb, 2, none⟩ = some (.int .i64 0) := (HB2.out.cell 2).trans rfl
  have r3 : w2.cell? ⟨rb, 3, none⟩ = some (.int .i64 0) := (HB2.out.cell 3).trans rfl
  have r4 : w2.cell? ⟨rb, 4, none⟩ = some (.slice none 0 0) := (HB2.out.cell 4).trans rfl
  have z0 := HB2.out.free 0
  have z1 := HB2.out.free 1
  have z2 := HB2.out.free 2
  have z3 := HB2.out.free 3
  have z4 := HB2.out.free 4
  by_cases hval : (En.mk K O I S).valid
  case neg =>
    have Hd : Hid (stE ⟨c, u, (q : Int), (p : Int), l⟩ ⟨K, O, I, S⟩ m = 2) := by show _ = _; rw [HstE.out, if_neg hval]
    rw [decide_eq_false hval]
    clear hval
    go_wp2_with fail
    obtain ⟨hX, hGX⟩ := setV HB2.out (.int .i64 0) (.int .i64 0) (.int .i64 0) (.int .i64 0) (.slice none 0 0)
    generalize (((((w2.setCell ⟨rb, 0, none⟩ (.int .i64 0)).setCell ⟨rb, 1, none⟩ (.int .i64 0)).setCell ⟨rb, 2, none⟩ (.int .i64 0)).setCell ⟨rb, 3, none⟩ (.int .i64 0)).setCell ⟨rb, 4, none⟩ (.slice none 0 0)) = wX at hX hGX ⊢
    have g0 := (hX.cell 0).trans rfl
    have g1 := (hX.cell 1).trans rfl
    have g2 := (hX.cell 2).trans rfl
    have g3 := (hX.cell 3).trans rfl
    have g4 := (hX.cell 4).trans rfl
    refine bodyPost_ret (v := .tuple #[.agg #[.int .i64 0, .int .i64 0, .int .i64 0, .int .i64 0, .slice none 0 0], .int .i64 2]) (by simp [results, Try.results30, go_sem, g0, g1, g2, g3, g4]) rfl ?_
    rw [Hd.out]
    exact ⟨Or.inl ⟨by decide, rfl, (HC.out.new HN2.out).chg hGX Hvr.out.2.1.symm⟩, (Chg.of_new HN2.out).trans hGX (fun i hi h => by have := Hvr.out; omega)⟩
  rw [decide_eq_true hval]
  have Hval := Lib.hid hval
  rw [if_pos hval] at HstE
  clear hval
  by_cases hm64 : 64 < m
  case pos =>
    have Hd : Hid (stE ⟨c, u, (q : Int), (p : Int), l⟩ ⟨K, O, I, S⟩ m = 11) := by show _ = _; rw [HstE.out, if_pos hm64]
    have t : decide (64 < (m : Int)) = true := by simp only [decide_eq_true_eq]; omega
    clear hm64
    go_wp2_with fail
    obtain ⟨hX, hGX⟩ := setV HB2.out (.int .i64 0) (.int .i64 0) (.int .i64 0) (.int .i64 0) (.slice none 0 0)
    generalize (((((w2.setCell ⟨rb, 0, none⟩ (.int .i64 0)).setCell ⟨rb, 1, none⟩ (.int .i64 0)).setCell ⟨rb, 2, none⟩ (.int .i64 0)).setCell ⟨rb, 3, none⟩ (.int .i64 0)).setCell ⟨rb, 4, none⟩ (.slice none 0 0)) = wX at hX hGX ⊢
    have g0 := (hX.cell 0).trans rfl
    have g1 := (hX.cell 1).trans rfl
    have g2 := (hX.cell 2).trans rfl
    have g3 := (hX.cell 3).trans rfl
    have g4 := (hX.cell 4).trans rfl
    refine bodyPost_ret (v := .tuple #[.agg #[.int .i64 0, .int .i64 0, .int .i64 0, .int .i64 0, .slice none 0 0], .int .i64 11]) (by simp [results, Try.results30, go_sem, g0, g1, g2, g3, g4]) rfl ?_
    rw [Hd.out]
    exact ⟨Or.inl ⟨by decide, rfl, (HC.out.new HN2.out).chg hGX Hvr.out.2.1.symm⟩, (Chg.of_new HN2.out).trans hGX (fun i hi h => by have := Hvr.out; omega)⟩
  rw [if_neg hm64] at HstE
  have t64 : decide (64 < (m : Int)) = false := by simp only [decide_eq_false_iff_not]; omega
  go_upto_region 5 with (fail)
  go_cut [37] (fun s37 wx => s37 = .bool (decide (atI O I l < 0 ∧ 5 ≤ n)) ∧ New w2 wx)
  case first =>
    go_wp2_with fail
    with_reducible refine (pAt_any c u (q : Int) (p : Int) O I A n cc F l w2 (HE.out.new HN2.out HF.out) (fun k hk => Nat.lt_of_lt_of_le (HF.out k hk) HN2.out.size) Hl.out (by omega)).mono ?_
    rintro e w3 ⟨rfl, hN3⟩
    have HM3 := Lib.hid hN3
    have hv4 : w3.cell? ⟨vb, 4, none⟩ = some (.slice A n cc) := ((HV2.out.keep hN3).cell 4).trans rfl
    clear hN3
    obtain ⟨at_, hat⟩ : ∃ x, x = atI O I l := ⟨_, rfl⟩
    rw [← hat]
    by_cases hat0 : at_ < 0
    · have t1 : decide (at_ < 0) = true := decide_eq_true hat0
      by_cases hn55 : 5 ≤ n
      · have t2 : decide (5 ≤ (n : Int)) = true := by simp only [decide_eq_true_eq]; omega
        have Hx : Hid (decide (atI O I l < 0 ∧ 5 ≤ n) = true) := decide_eq_true ⟨by rw [← hat]; exact hat0, hn55⟩
        clear hat hat0 hn55
        go_wp2_with fail
        go_meet
        case rel => exact ⟨by rw [Hx.out], HM3.out⟩
      · have t2 : decide (5 ≤ (n : Int)) = false := by simp only [decide_eq_false_iff_not]; omega
        have Hx : Hid (decide (atI O I l < 0 ∧ 5 ≤ n) = false) := decide_eq_false (fun h => hn55 h.2)
        clear hat hat0 hn55
        go_wp2_with fail
        go_meet
        case rel => exact ⟨by rw [Hx.out], HM3.out⟩
    · have t1 : decide (at_ < 0) = false := decide_eq_false hat0
      have Hx : Hid (decide (atI O I l < 0 ∧ 5 ≤ n) = false) := decide_eq_false (fun h => hat0 (by rw [hat]; exact h.1))
      clear hat hat0
      go_wp2_with fail
      go_meet
      case rel => exact ⟨by rw [Hx.out], HM3.out⟩
  case rest =>
  obtain ⟨rfl, hN3⟩ := hcut
  have HV3 := Lib.hid (HV2.out.keep hN3)
  have HX3 := Lib.hid (HX2.out.keep hN3)
  have HB3 := Lib.hid (HB2.out.keep hN3)
  have HN3 := Lib.hid (HN2.out.then_new hN3)
  clear hN3 v0 v1 v2 v3 v4 x0 x1 x2 x3 r0 r1 r2 r3 r4 z0 z1 z2 z3 z4 HV2 HX2 HB2 t64
  have v0 : wc.cell? ⟨vb, 0, none⟩ = some (.int .i64 c) := (HV3.out.cell 0).trans rfl
  have v1 : wc.cell? ⟨vb, 1, none⟩ = some (.int .i64 u) := (HV3.out.cell 1).trans rfl
  have v2 : wc.cell? ⟨vb, 2, none⟩ = some (.int .i64 (q : Int)) := (HV3.out.cell 2).trans rfl
  have v3 : wc.cell? ⟨vb, 3, none⟩ = some (.int .i64 (p : Int)) := (HV3.out.cell 3).trans rfl
  have v4 : wc.cell? ⟨vb, 4, none⟩ = some (.slice A n cc) := (HV3.out.cell 4).trans rfl
  have x0 : wc.cell? ⟨eb, 0, none⟩ = some (.int .i64 K) := (HX3.out.cell 0).trans rfl
  have x1 : wc.cell? ⟨eb, 1, none⟩ = some (.int .i64 O) := (HX3.out.cell 1).trans rfl
  have x2 : wc.cell? ⟨eb, 2, none⟩ = some (.int .i64 I) := (HX3.out.cell 2).trans rfl
  have x3 : wc.cell? ⟨eb, 3, none⟩ = some (.int .i64 S) := (HX3.out.cell 3).trans rfl
  have r0 : wc.cell? ⟨rb, 0, none⟩ = some (.int .i64 0) := (HB3.out.cell 0).trans rfl
  have r1 : wc.cell? ⟨rb, 1, none⟩ = some (.int .i64 0) := (HB3.out.cell 1).trans rfl
  have r2 : wc.cell? ⟨rb, 2, none⟩ = some (.int .i64 0) := (HB3.out.cell 2).trans rfl
  have r3 : wc.cell? ⟨rb, 3, none⟩ = some (.int .i64 0) := (HB3.out.cell 3).trans rfl
  have r4 : wc.cell? ⟨rb, 4, none⟩ = some (.slice none 0 0) := (HB3.out.cell 4).trans rfl
  have z0 := HB3.out.free 0
  have z1 := HB3.out.free 1
  have z2 := HB3.out.free 2
  have z3 := HB3.out.free 3
  have z4 := HB3.out.free 4
  have xf3 := HX3.out.free 3
  by_cases hful : atI O I l < 0 ∧ 5 ≤ n
  case pos =>
    have Hd : Hid (stE ⟨c, u, (q : Int), (p : Int), l⟩ ⟨K, O, I, S⟩ m = 20) := by show _ = _; rw [HstE.out, if_pos hful]
    rw [decide_eq_true hful]
    clear hful
    go_wp2_with fail
    obtain ⟨hX, hGX⟩ := setV HB3.out (.int .i64 0) (.int .i64 0) (.int .i64 0) (.int .i64 0) (.slice none 0 0)
    generalize (((((wc.setCell ⟨rb, 0, none⟩ (.int .i64 0)).setCell ⟨rb, 1, none⟩ (.int .i64 0)).setCell ⟨rb, 2, none⟩ (.int .i64 0)).setCell ⟨rb, 3, none⟩ (.int .i64 0)).setCell ⟨rb, 4, none⟩ (.slice none 0 0)) = wX at hX hGX ⊢
    have g0 := (hX.cell 0).trans rfl
    have g1 := (hX.cell 1).trans rfl
    have g2 := (hX.cell 2).trans rfl
    have g3 := (hX.cell 3).trans rfl
    have g4 := (hX.cell 4).trans rfl
    refine bodyPost_ret (v := .tuple #[.agg #[.int .i64 0, .int .i64 0, .int .i64 0, .int .i64 0, .slice none 0 0], .int .i64 20]) (by simp [results, Try.results30, go_sem, g0, g1, g2, g3, g4]) rfl ?_
    rw [Hd.out]
    exact ⟨Or.inl ⟨by decide, rfl, (HC.out.new HN3.out).chg hGX Hvr.out.2.1.symm⟩, (Chg.of_new HN3.out).trans hGX (fun i hi h => by have := Hvr.out; omega)⟩
  rw [if_neg hful] at HstE
  rw [decide_eq_false hful]
  have Hful := Lib.hid hful; clear hful
  by_cases hq : 65535 ≤ (q : Int)
  case pos =>
    have Hd : Hid (stE ⟨c, u, (q : Int), (p : Int), l⟩ ⟨K, O, I, S⟩ m = 29) := by show _ = _; rw [HstE.out, if_pos hq]
    have tq : decide (65535 ≤ (q : Int)) = true := decide_eq_true hq
    clear hq
    go_wp2_with fail
    obtain ⟨hX, hGX⟩ := setV HB3.out (.int .i64 0) (.int .i64 0) (.int .i64 0) (.int .i64 0) (.slice none 0 0)
    generalize (((((wc.setCell ⟨rb, 0, none⟩ (.int .i64 0)).setCell ⟨rb, 1, none⟩ (.int .i64 0)).setCell ⟨rb, 2, none⟩ (.int .i64 0)).setCell ⟨rb, 3, none⟩ (.int .i64 0)).setCell ⟨rb, 4, none⟩ (.slice none 0 0)) = wX at hX hGX ⊢
    have g0 := (hX.cell 0).trans rfl
    have g1 := (hX.cell 1).trans rfl
    have g2 := (hX.cell 2).trans rfl
    have g3 := (hX.cell 3).trans rfl
    have g4 := (hX.cell 4).trans rfl
    refine bodyPost_ret (v := .tuple #[.agg #[.int .i64 0, .int .i64 0, .int .i64 0, .int .i64 0, .slice none 0 0], .int .i64 29]) (by simp [results, Try.results30, go_sem, g0, g1, g2, g3, g4]) rfl ?_
    rw [Hd.out]
    exact ⟨Or.inl ⟨by decide, rfl, (HC.out.new HN3.out).chg hGX Hvr.out.2.1.symm⟩, (Chg.of_new HN3.out).trans hGX (fun i hi h => by have := Hvr.out; omega)⟩
  rw [if_neg hq] at HstE
  have tq : decide (65535 ≤ (q : Int)) = false := decide_eq_false hq
  go_wp2_with fail
  with_reducible refine (pFree_any c u (q : Int) (p : Int) A n cc F l wc (HE.out.new HN3.out HF.out) (fun k hk => Nat.lt_of_lt_of_le (HF.out k hk) HN3.out.size) Hl.out (by omega)).mono ?_
  rintro e w4 ⟨rfl, hN4⟩
  have HV4 := Lib.hid (HV3.out.keep hN4)
  have HX4 := Lib.hid (HX3.out.keep hN4)
  have HB4 := Lib.hid (HB3.out.keep hN4)
  have HN4 := Lib.hid (HN3.out.then_new hN4)
  clear hN4 v0 v1 v2 v3 v4 x0 x1 x2 x3 r0 r1 r2 r3 r4 z0 z1 z2 z3 z4 HV3 HX3 HB3 tq xf3
  obtain ⟨fr, hfr⟩ : ∃ x, x = freeI l := ⟨_, rfl⟩
  rw [← hfr] at HstE ⊢
  have Hfr := Lib.hid hfr; clear hfr
  have x0 : w4.cell? ⟨eb, 0, none⟩ = some (.int .i64 K) := (HX4.out.cell 0).trans rfl
  have x1 : w4.cell? ⟨eb, 1, none⟩ = some (.int .i64 O) := (HX4.out.cell 1).trans rfl
  have x2 : w4.cell? ⟨eb, 2, none⟩ = some (.int .i64 I) := (HX4.out.cell 2).trans rfl
  have x3 : w4.cell? ⟨eb, 3, none⟩ = some (.int .i64 S) := (HX4.out.cell 3).trans rfl
  have z0 := HX4.out.free 0
  have z1 := HX4.out.free 1
  have z2 := HX4.out.free 2
  have z3 := HX4.out.free 3
  go_upto_region 10 with (fail)
  obtain ⟨hX5, hG5⟩ := setE HX4.out (.int .i64 fr)
  generalize (w4.setCell ⟨eb, 3, none⟩ (.int .i64 fr)) = w5 at hX5 hG5 ⊢
  have HX5 := Lib.hid hX5
  have HV5 := Lib.hid (HV4.out.chg hG5 Hvr.out.2.2.2.2.2.2.2.2.symm)
  have HB5 := Lib.hid (HB4.out.chg hG5 Hvr.out.2.2.2.2.2.2.1.symm)
  have HN5 : Hid (New w w5) := HN4.out.trans hG5 (fun i hi h => by have := Hvr.out; omega)
  clear hX5 hG5 x0 x1 x2 x3 z0 z1 z2 z3 HX4 HV4 HB4
  have v0 : w5.cell? ⟨vb, 0, none⟩ = some (.int .i64 c) := (HV5.out.cell 0).trans rfl
  have v1 : w5.cell? ⟨vb, 1, none⟩ = some (.int .i64 u) := (HV5.out.cell 1).trans rfl
  have v2 : w5.cell? ⟨vb, 2, none⟩ = some (.int .i64 (q : Int)) := (HV5.out.cell 2).trans rfl
  have v3 : w5.cell? ⟨vb, 3, none⟩ = some (.int .i64 (p : Int)) := (HV5.out.cell 3).trans rfl
  have v4 : w5.cell? ⟨vb, 4, none⟩ = some (.slice A n cc) := (HV5.out.cell 4).trans rfl
  have x0 : w5.cell? ⟨eb, 0, none⟩ = some (.int .i64 K) := (HX5.out.cell 0).trans rfl
  have x1 : w5.cell? ⟨eb, 1, none⟩ = some (.int .i64 O) := (HX5.out.cell 1).trans rfl
  have x2 : w5.cell? ⟨eb, 2, none⟩ = some (.int .i64 I) := (HX5.out.cell 2).trans rfl
  have x3 : w5.cell? ⟨eb, 3, none⟩ = some (.int .i64 fr) := (HX5.out.cell 3).trans rfl
  have r0 : w5.cell? ⟨rb, 0, none⟩ = some (.int .i64 0) := (HB5.out.cell 0).trans rfl
  have r1 : w5.cell? ⟨rb, 1, none⟩ = some (.int .i64 0) := (HB5.out.cell 1).trans rfl
  have r2 : w5.cell? ⟨rb, 2, none⟩ = some (.int .i64 0) := (HB5.out.cell 2).trans rfl
  have r3 : w5.cell? ⟨rb, 3, none⟩ = some (.int .i64 0) := (HB5.out.cell 3).trans rfl
  have r4 : w5.cell? ⟨rb, 4, none⟩ = some (.slice none 0 0) := (HB5.out.cell 4).trans rfl
  have z0 := HB5.out.free 0
  have z1 := HB5.out.free 1
  have z2 := HB5.out.free 2
  have z3 := HB5.out.free 3
  have z4 := HB5.out.free 4
  by_cases hf0 : fr < 0
  case pos =>
    have Hd : Hid (stE ⟨c, u, (q : Int), (p : Int), l⟩ ⟨K, O, I, S⟩ m = 21) := by show _ = _; rw [HstE.out, if_pos hf0]
    have tf : decide (fr < 0) = true := decide_eq_true hf0
    clear hf0
    go_wp2_with fail
    obtain ⟨hX, hGX⟩ := setV HB5.out (.int .i64 0) (.int .i64 0) (.int .i64 0) (.int .i64 0) (.slice none 0 0)
    generalize (((((w5.setCell ⟨rb, 0, none⟩ (.int .i64 0)).setCell ⟨rb, 1, none⟩ (.int .i64 0)).setCell ⟨rb, 2, none⟩ (.int .i64 0)).setCell ⟨rb, 3, none⟩ (.int .i64 0)).setCell ⟨rb, 4, none⟩ (.slice none 0 0)) = wX at hX hGX ⊢
    have g0 := (hX.cell 0).trans rfl
    have g1 := (hX.cell 1).trans rfl
    have g2 := (hX.cell 2).trans rfl
    have g3 := (hX.cell 3).trans rfl
    have g4 := (hX.cell 4).trans rfl
    refine bodyPost_ret (v := .tuple #[.agg #[.int .i64 0, .int .i64 0, .int .i64 0, .int .i64 0, .slice none 0 0], .int .i64 21]) (by simp [results, Try.results30, go_sem, g0, g1, g2, g3, g4]) rfl ?_
    rw [Hd.out]
    exact ⟨Or.inl ⟨by decide, rfl, (HC.out.new HN5.out).chg hGX Hvr.out.2.1.symm⟩, (Chg.of_new HN5.out).trans hGX (fun i hi h => by have := Hvr.out; omega)⟩
  rw [if_neg hf0] at HstE
  have tf : decide (fr < 0) = false := decide_eq_false hf0
  obtain ⟨t, hft, ht6, _⟩ : ∃ t : Nat, freeI l = t ∧ t < 6 ∧ ∀ e ∈ l, e.s ≠ (t : Int) := by
    rcases freeI_cases l with h | h
    · exact absurd (show fr < 0 by rw [Hfr.out]; omega) hf0
    · exact h
  have hfrt := Hfr.out.trans hft
  subst hfrt
  have Hft := Lib.hid hft
  have Hd : Hid (stE ⟨c, u, (q : Int), (p : Int), l⟩ ⟨K, O, I, S⟩ m = 0) := HstE.out
  clear hft hf0 Hfr
  obtain ⟨q', hq'⟩ : ∃ q', q' = q + 1 := ⟨_, rfl⟩
  obtain ⟨p', hp'⟩ : ∃ p', p' = 3 - p := ⟨_, rfl⟩
  obtain ⟨ta, hta⟩ : ∃ x, x = 3 + 2 * t := ⟨_, rfl⟩
  obtain ⟨tb, htb⟩ : ∃ x, x = 4 + 2 * t := ⟨_, rfl⟩
  have fq : (q : Int) + 1 = (q' : Int) := by omega
  have fp : 3 - (p : Int) = (p' : Int) := by omega
  have hq'' : q' ≤ 65535 := by omega
  obtain ⟨L, hL⟩ : ∃ L, L = stL l ⟨K, O, I, S⟩ := ⟨_, rfl⟩
  have Hd' : Hid (stE ⟨c, u, (q : Int), (p : Int), l⟩ ⟨K, O, I, S⟩ body.length = 0) := by show _ = _; rw [Hm.out]; exact Hd.out
  have HSnd : Hid (Sound L ∧ L.length ≤ 5) := by
    rw [hL]
    obtain ⟨h1, h2, h3, h4, h5⟩ := stE_zero Hd'.out
    exact stL_fine Hv.out.sound Hv.out.len h1 h3 h5
  have HR : Hid (stR ⟨c, u, (q : Int), (p : Int), l⟩ ⟨K, O, I, S⟩ body = [(ta, (pad 64 body).take 32), (tb, (pad 64 body).drop 32), (p', sectorB (listB q' L))]) := by
    show _ = _
    unfold stR dirR
    simp only
    rw [Hft.out, ← hL, show (3 - (p : Int)).toNat = p' by omega, show ((q : Int) + 1).toNat = q' by omega, show (3 + 2 * (t : Int)).toNat = ta by omega, show (4 + 2 * (t : Int)).toNat = tb by omega]
  have HNV : Hid (nextV ⟨c, u, (q : Int), (p : Int), l⟩ (stL l ⟨K, O, I, S⟩) = ⟨c, u, (q' : Int), (p' : Int), L⟩) := by
    show _ = _
    unfold nextV
    simp only
    rw [fq, fp, ← hL]
  have HWf : Hid (∀ r ∈ [((ta, (pad 64 body).take 32) : Wr), (tb, (pad 64 body).drop 32), (p', sectorB (listB q' L))], Wr.fine r) := by rw [← HR.out]; exact stR_fine Hv.out Hd'.out Hb.out
  have HWL : Hid (wiL l ⟨K, O, I, (t : Int)⟩ = L) := by
    show _ = _
    rw [hL, ← wiL_st]
    unfold En.at_
    rw [Hft.out]
  have HNx : Hid (∀ (wx : World) (E : Option Addr) (en ec : Nat), Calls Try.prog 54 #[.agg #[.int .i64 c, .int .i64 u, .int .i64 (q : Int), .int .i64 (p : Int), .slice A n cc], .slice E en ec] wx fun e w' => e = .returned (.agg #[.int .i64 c, .int .i64 u, .int .i64 (q' : Int), .int .i64 (p' : Int), .slice E en ec]) ∧ New wx w') := by
    intro wx E en ec
    rw [← fq, ← fp]
    exact next_any c u (q : Int) p A n cc E en ec wx hp2 (by omega)
  have HWi : Hid (∀ (wx : World), New w5 wx → Calls Try.prog 59 #[.agg #[.int .i64 c, .int .i64 u, .int .i64 (q : Int), .int .i64 (p : Int), .slice A n cc], .agg #[.int .i64 K, .int .i64 O, .int .i64 I, .int .i64 (t : Int)]] wx fun e w' => ∃ A' m c', e = .returned (.slice A' m c') ∧ m = L.length ∧ w'.ownsRow w.heap.size 60 4 (.slice A' m c') m (enRow L) ∧ New wx w') := by
    intro wx hx
    have hx' := HN5.out.then_new hx
    refine (with_any c u (q : Int) (p : Int) A n cc F l K O I (t : Int) wx (HE.out.new hx' HF.out) (fun k hk => Nat.lt_of_lt_of_le (HF.out k hk) hx'.size) Hl.out Hnil.out (by omega)).mono ?_
    rintro e w' ⟨A', m, c', rfl, hm, hO, hN⟩
    rw [HWL.out] at hm hO
    exact ⟨A', m, c', rfl, hm, own_base hO (fun k hk => Nat.le_trans hx'.size (hO.lt k hk).1), hN⟩
  clear hq' hp' hL hq fq fp hp2
  have Hvl : Hid (¬ w5.heap.size ≤ vb ∧ ¬ w5.heap.size ≤ eb) := by have := HV5.out.lt; have := HX5.out.lt; show _ ∧ _; omega
  have HK : Hid (∀ wx, Chg (fun k => w5.heap.size ≤ k) w5 wx → wx.cell? ⟨vb, 0, none⟩ = some (.int .i64 c) ∧ wx.cell? ⟨vb, 1, none⟩ = some (.int .i64 u) ∧ wx.cell? ⟨vb, 2, none⟩ = some (.int .i64 (q : Int)) ∧ wx.cell? ⟨vb, 3, none⟩ = some (.int .i64 (p : Int)) ∧ wx.cell? ⟨vb, 4, none⟩ = some (.slice A n cc) ∧ wx.cell? ⟨eb, 0, none⟩ = some (.int .i64 K) ∧ wx.cell? ⟨eb, 1, none⟩ = some (.int .i64 O) ∧ wx.cell? ⟨eb, 2, none⟩ = some (.int .i64 I) ∧ wx.cell? ⟨eb, 3, none⟩ = some (.int .i64 (t : Int))) := fun wx hx => by
    have h1 := HV5.out.chg hx Hvl.out.1
    have h2 := HX5.out.chg hx Hvl.out.2
    exact ⟨(h1.cell 0).trans rfl, (h1.cell 1).trans rfl, (h1.cell 2).trans rfl, (h1.cell 3).trans rfl, (h1.cell 4).trans rfl, (h2.cell 0).trans rfl, (h2.cell 1).trans rfl, (h2.cell 2).trans rfl, (h2.cell 3).trans rfl⟩
  clear r0 r1 r2 r3 r4 z0 z1 z2 z3 z4
  go_upto_region 12 with (fail)
  go_cut [10] (fun s10 wx => NxR w.heap.size w5 c u (q' : Int) (p' : Int) L s10 wx)
  case first =>
    go_region_held_law (fun wx => wx.cell? ⟨vb, 0, none⟩ = some (.int .i64 c) ∧ wx.cell? ⟨vb, 1, none⟩ = some (.int .i64 u) ∧ wx.cell? ⟨vb, 2, none⟩ = some (.int .i64 (q : Int)) ∧ wx.cell? ⟨vb, 3, none⟩ = some (.int .i64 (p : Int)) ∧ wx.cell? ⟨vb, 4, none⟩ = some (.slice A n cc) ∧ wx.cell? ⟨eb, 0, none⟩ = some (.int .i64 K) ∧ wx.cell? ⟨eb, 1, none⟩ = some (.int .i64 O) ∧ wx.cell? ⟨eb, 2, none⟩ = some (.int .i64 I) ∧ wx.cell? ⟨eb, 3, none⟩ = some (.int .i64 (t : Int)))
         (first
           | (with_reducible refine HK7.out _ ?_; with_reducible repeat (first | exact Chg.refl _ _ | refine Chg.drew ?_ | refine Chg.alloc ?_ _ | refine Chg.setCell ?_ (fun _ => by first | omega | (dsimp only; omega)) _))
           | (with_reducible refine HK6.out _ ?_; with_reducible repeat (first | exact Chg.refl _ _ | refine Chg.drew ?_ | refine Chg.alloc ?_ _ | refine Chg.setCell ?_ (fun _ => by first | omega | (dsimp only; omega)) _))
           | (with_reducible refine HK.out _ ?_; with_reducible repeat (first | exact Chg.refl _ _ | refine Chg.drew ?_ | refine Chg.alloc ?_ _ | refine Chg.setCell ?_ (fun _ => by first | omega | (dsimp only; omega)) _)))
         (first
           | (go_at_call 54; (with_reducible refine (HNx.out (w6.alloc (.cells #[.int .i64 0, .int .i64 0, .int .i64 0, .int .i64 0, .slice none 0 0] 30)) A6 m6 c6).mono ?_); rintro e w7 ⟨rfl, hN7⟩
              have hM7 : New w5 w7 := (HM6.out.then_new (by with_reducible repeat (first | exact Chg.refl _ _ | refine Chg.alloc ?_ _ | refine Chg.drew ?_))).then_new hN7
              have HM7 := Lib.hid hM7
              have HO7 := Lib.hid (own_new (own_new HO6.out (by with_reducible repeat (first | exact Chg.refl _ _ | refine Chg.alloc ?_ _ | refine Chg.drew ?_))) hN7)
              have hZ7 := (Has.new w6 30 #[.int .i64 0, .int .i64 0, .int .i64 0, .int .i64 0, .slice none 0 0]).keep hN7
              have zc0 := (hZ7.cell 0).trans rfl
              have zf0 := hZ7.free 0
              have zc1 := (hZ7.cell 1).trans rfl
              have zf1 := hZ7.free 1
              have zc2 := (hZ7.cell 2).trans rfl
              have zf2 := hZ7.free 2
              have zc3 := (hZ7.cell 3).trans rfl
              have zf3 := hZ7.free 3
              have zc4 := (hZ7.cell 4).trans rfl
              have zf4 := hZ7.free 4
              have HZ7 := Lib.hid hZ7
              clear hZ7
              have HK7 : Hid (∀ wx, Chg (fun k => w5.heap.size ≤ k) w7 wx → wx.cell? ⟨vb, 0, none⟩ = some (.int .i64 c) ∧ wx.cell? ⟨vb, 1, none⟩ = some (.int .i64 u) ∧ wx.cell? ⟨vb, 2, none⟩ = some (.int .i64 (q : Int)) ∧ wx.cell? ⟨vb, 3, none⟩ = some (.int .i64 (p : Int)) ∧ wx.cell? ⟨vb, 4, none⟩ = some (.slice A n cc) ∧ wx.cell? ⟨eb, 0, none⟩ = some (.int .i64 K) ∧ wx.cell? ⟨eb, 1, none⟩ = some (.int .i64 O) ∧ wx.cell? ⟨eb, 2, none⟩ = some (.int .i64 I) ∧ wx.cell? ⟨eb, 3, none⟩ = some (.int .i64 (t : Int))) := fun wx hx => HK.out wx ((Chg.of_new hM7).trans hx (fun i _ h => h))
              clear hN7 hM7)
           | (go_at_call 54; (with_reducible refine (HNx.out w6 A6 m6 c6).mono ?_); rintro e w7 ⟨rfl, hN7⟩
              have hM7 : New w5 w7 := (HM6.out.then_new (by with_reducible repeat (first | exact Chg.refl _ _ | refine Chg.alloc ?_ _ | refine Chg.drew ?_))).then_new hN7
              have HM7 := Lib.hid hM7
              have HO7 := Lib.hid (own_new (own_new HO6.out (by with_reducible repeat (first | exact Chg.refl _ _ | refine Chg.alloc ?_ _ | refine Chg.drew ?_))) hN7)
              have hZ7 := HZ6.out.keep hN7
              have zc0 := (hZ7.cell 0).trans rfl
              have zf0 := hZ7.free 0
              have zc1 := (hZ7.cell 1).trans rfl
              have zf1 := hZ7.free 1
              have zc2 := (hZ7.cell 2).trans rfl
              have zf2 := hZ7.free 2
              have zc3 := (hZ7.cell 3).trans rfl
              have zf3 := hZ7.free 3
              have zc4 := (hZ7.cell 4).trans rfl
              have zf4 := hZ7.free 4
              have HZ7 := Lib.hid hZ7
              clear hZ7
              have HK7 : Hid (∀ wx, Chg (fun k => w5.heap.size ≤ k) w7 wx → wx.cell? ⟨vb, 0, none⟩ = some (.int .i64 c) ∧ wx.cell? ⟨vb, 1, none⟩ = some (.int .i64 u) ∧ wx.cell? ⟨vb, 2, none⟩ = some (.int .i64 (q : Int)) ∧ wx.cell? ⟨vb, 3, none⟩ = some (.int .i64 (p : Int)) ∧ wx.cell? ⟨vb, 4, none⟩ = some (.slice A n cc) ∧ wx.cell? ⟨eb, 0, none⟩ = some (.int .i64 K) ∧ wx.cell? ⟨eb, 1, none⟩ = some (.int .i64 O) ∧ wx.cell? ⟨eb, 2, none⟩ = some (.int .i64 I) ∧ wx.cell? ⟨eb, 3, none⟩ = some (.int .i64 (t : Int))) := fun wx hx => HK.out wx ((Chg.of_new hM7).trans hx (fun i _ h => h))
              clear hN7 hM7)
           | (go_at_call 54; (with_reducible refine (HNx.out w6 A6 m6 c6).mono ?_); rintro e w7 ⟨rfl, hN7⟩
              have hM7 : New w5 w7 := (HM6.out.then_new (by with_reducible repeat (first | exact Chg.refl _ _ | refine Chg.alloc ?_ _ | refine Chg.drew ?_))).then_new hN7
              have HM7 := Lib.hid hM7
              have HO7 := Lib.hid (own_new (own_new HO6.out (by with_reducible repeat (first | exact Chg.refl _ _ | refine Chg.alloc ?_ _ | refine Chg.drew ?_))) hN7)
              have HK7 : Hid (∀ wx, Chg (fun k => w5.heap.size ≤ k) w7 wx → wx.cell? ⟨vb, 0, none⟩ = some (.int .i64 c) ∧ wx.cell? ⟨vb, 1, none⟩ = some (.int .i64 u) ∧ wx.cell? ⟨vb, 2, none⟩ = some (.int .i64 (q : Int)) ∧ wx.cell? ⟨vb, 3, none⟩ = some (.int .i64 (p : Int)) ∧ wx.cell? ⟨vb, 4, none⟩ = some (.slice A n cc) ∧ wx.cell? ⟨eb, 0, none⟩ = some (.int .i64 K) ∧ wx.cell? ⟨eb, 1, none⟩ = some (.int .i64 O) ∧ wx.cell? ⟨eb, 2, none⟩ = some (.int .i64 I) ∧ wx.cell? ⟨eb, 3, none⟩ = some (.int .i64 (t : Int))) := fun wx hx => HK.out wx ((Chg.of_new hM7).trans hx (fun i _ h => h))
              clear hN7 hM7)
           | (go_at_call 59; (with_reducible refine (HWi.out w5.drew (by with_reducible repeat (first | exact Chg.refl _ _ | refine Chg.alloc ?_ _ | refine Chg.drew ?_))).mono ?_); rintro e w6 ⟨A6, m6, c6, rfl, hm6, hO6, hN6⟩
              have hM6 : New w5 w6 := Chg.then_new (S := fun _ => False) (by with_reducible repeat (first | exact Chg.refl _ _ | refine Chg.alloc ?_ _ | refine Chg.drew ?_)) hN6
              have HM6 := Lib.hid hM6
              have hs6 : w5.heap.size ≤ w6.heap.size := hM6.size
              have HO6 := Lib.hid hO6
              have Hm6 := Lib.hid hm6
              have HK6 : Hid (∀ wx, Chg (fun k => w5.heap.size ≤ k) w6 wx → wx.cell? ⟨vb, 0, none⟩ = some (.int .i64 c) ∧ wx.cell? ⟨vb, 1, none⟩ = some (.int .i64 u) ∧ wx.cell? ⟨vb, 2, none⟩ = some (.int .i64 (q : Int)) ∧ wx.cell? ⟨vb, 3, none⟩ = some (.int .i64 (p : Int)) ∧ wx.cell? ⟨vb, 4, none⟩ = some (.slice A n cc) ∧ wx.cell? ⟨eb, 0, none⟩ = some (.int .i64 K) ∧ wx.cell? ⟨eb, 1, none⟩ = some (.int .i64 O) ∧ wx.cell? ⟨eb, 2, none⟩ = some (.int .i64 I) ∧ wx.cell? ⟨eb, 3, none⟩ = some (.int .i64 (t : Int))) := fun wx hx => HK.out wx ((Chg.of_new hM6).trans hx (fun i _ h => h))
              clear hm6 hO6 hN6 hM6)
           | (go_at_call 59; (with_reducible refine (HWi.out (w5.drew.alloc (.cells #[.int .i64 0, .int .i64 0, .int .i64 0, .int .i64 0, .slice none 0 0] 30)) (by with_reducible repeat (first | exact Chg.refl _ _ | refine Chg.alloc ?_ _ | refine Chg.drew ?_))).mono ?_); rintro e w6 ⟨A6, m6, c6, rfl, hm6, hO6, hN6⟩
              have hM6 : New w5 w6 := Chg.then_new (S := fun _ => False) (by with_reducible repeat (first | exact Chg.refl _ _ | refine Chg.alloc ?_ _ | refine Chg.drew ?_)) hN6
              have HM6 := Lib.hid hM6
              have hs6 : w5.heap.size ≤ w6.heap.size := hM6.size
              have HO6 := Lib.hid hO6
              have Hm6 := Lib.hid hm6
              have hZ6 := (Has.new w5.drew 30 #[.int .i64 0, .int .i64 0, .int .i64 0, .int .i64 0, .slice none 0 0]).keep hN6
              have HZ6 := Lib.hid hZ6
              clear hZ6
              have HK6 : Hid (∀ wx, Chg (fun k => w5.heap.size ≤ k) w6 wx → wx.cell? ⟨vb, 0, none⟩ = some (.int .i64 c) ∧ wx.cell? ⟨vb, 1, none⟩ = some (.int .i64 u) ∧ wx.cell? ⟨vb, 2, none⟩ = some (.int .i64 (q : Int)) ∧ wx.cell? ⟨vb, 3, none⟩ = some (.int .i64 (p : Int)) ∧ wx.cell? ⟨vb, 4, none⟩ = some (.slice A n cc) ∧ wx.cell? ⟨eb, 0, none⟩ = some (.int .i64 K) ∧ wx.cell? ⟨eb, 1, none⟩ = some (.int .i64 O) ∧ wx.cell? ⟨eb, 2, none⟩ = some (.int .i64 I) ∧ wx.cell? ⟨eb, 3, none⟩ = some (.int .i64 (t : Int))) := fun wx hx => HK.out wx ((Chg.of_new hM6).trans hx (fun i _ h => h))
              clear hm6 hO6 hN6 hM6)
           | (go_simp; go_at_call 59; (with_reducible refine (HWi.out (w5.alloc (.cells #[.int .i64 0, .int .i64 0, .int .i64 0, .int .i64 0, .slice none 0 0] 30)).drew (by with_reducible repeat (first | exact Chg.refl _ _ | refine Chg.alloc ?_ _ | refine Chg.drew ?_))).mono ?_); rintro e w6 ⟨A6, m6, c6, rfl, hm6, hO6, hN6⟩
              have hM6 : New w5 w6 := Chg.then_new (S := fun _ => False) (by with_reducible repeat (first | exact Chg.refl _ _ | refine Chg.alloc ?_ _ | refine Chg.drew ?_)) hN6
              have HM6 := Lib.hid hM6
              have hs6 : w5.heap.size ≤ w6.heap.size := hM6.size
              have HO6 := Lib.hid hO6
              have Hm6 := Lib.hid hm6
              have hZ6 := (Has.new w5 30 #[.int .i64 0, .int .i64 0, .int .i64 0, .int .i64 0, .slice none 0 0]).drew.keep hN6
              have HZ6 := Lib.hid hZ6
              clear hZ6
              have HK6 : Hid (∀ wx, Chg (fun k => w5.heap.size ≤ k) w6 wx → wx.cell? ⟨vb, 0, none⟩ = some (.int .i64 c) ∧ wx.cell? ⟨vb, 1, none⟩ = some (.int .i64 u) ∧ wx.cell? ⟨vb, 2, none⟩ = some (.int .i64 (q : Int)) ∧ wx.cell? ⟨vb, 3, none⟩ = some (.int .i64 (p : Int)) ∧ wx.cell? ⟨vb, 4, none⟩ = some (.slice A n cc) ∧ wx.cell? ⟨eb, 0, none⟩ = some (.int .i64 K) ∧ wx.cell? ⟨eb, 1, none⟩ = some (.int .i64 O) ∧ wx.cell? ⟨eb, 2, none⟩ = some (.int .i64 I) ∧ wx.cell? ⟨eb, 3, none⟩ = some (.int .i64 (t : Int))) := fun wx hx => HK.out wx ((Chg.of_new hM6).trans hx (fun i _ h => h))
              clear hm6 hO6 hN6 hM6))
    all_goals
      go_wp2_with fail
      go_meet
      case rel => first | (with_reducible exact NxR.new HM7.out Hm6.out HO7.out) | (with_reducible exact NxR.set HM7.out Hm6.out HO7.out HZ7.out (by first | exact hs6 | omega))
  case rest =>
  clear tf v0 v1 v2 v3 v4 x0 x1 x2 x3
  obtain ⟨w8, rfl⟩ : ∃ w8, w8 = wc := ⟨_, rfl⟩
  obtain ⟨nb, E, mm, ec, rfl, hnb, hmm, hV8, hO8, hN8⟩ := hcut
  subst hmm
  have HV8 := Lib.hid hV8
  have HO8 := Lib.hid hO8
  have HN8 := Lib.hid (HN5.out.then_new hN8)
  have HB8 := Lib.hid (HB5.out.keep hN8)
  have HX8 := Lib.hid (HX5.out.keep hN8)
  have Hnb : Hid (nb ≠ rb ∧ w.heap.size ≤ nb ∧ nb ≠ g) := by have := HB5.out.lt; have := HN5.out.size; show _ ∧ _ ∧ _; omega
  clear hV8 hO8 hN8 hnb HWi HNx HK HV5 HX5 HB5
  have HPd : Hid (∀ wx, New w8 wx → Calls Try.prog 60 #[.slice D m dc, .int .i64 64] wx fun e w' => ∃ f, e = .returned (.slice (some ⟨f, 0, none⟩) 64 64) ∧ w.heap.size ≤ f ∧ Row w' f (pad 64 body) ∧ New wx w') := fun wx hx => by
    have hx' := HN8.out.then_new hx
    refine (padded_any D m dc F body 64 64 wx (HD.out.new hx' HF.out) (fun k hk => Nat.lt_of_lt_of_le (HF.out k hk) hx'.size) Hm.out rfl (by omega)).mono ?_
    rintro e w' ⟨f, rfl, Hf, hR, hN⟩
    exact ⟨f, rfl, by have := Hf.out; have := hx'.size; omega, hR, hN⟩
  have HSl : Hid (∀ wx, Calls Try.prog 41 #[.int .i64 (t : Int)] wx fun e w' => e = .returned (.int .i64 (ta : Int)) ∧ wx = w') := fun wx => by
    rw [show (ta : Int) = 3 + 2 * (t : Int) by omega]
    exact (slotSector_any (t : Int) wx (by omega)).mono (fun e w' h => ⟨h.1, h.2.symm⟩)
  have Hta := Lib.hid hta
  have Htb := Lib.hid htb
  clear hta htb
  have x3 : w8.cell? ⟨eb, 3, none⟩ = some (.int .i64 (t : Int)) := (HX8.out.cell 3).trans rfl
  have HK : Hid (∀ wx, New w8 wx → wx.cell? ⟨eb, 3, none⟩ = some (.int .i64 (t : Int))) := fun wx hx => ((HX8.out.keep hx).cell 3).trans rfl
  go_upto_region 13 with (fail)
  go_cut [11, 12] (fun s11 s12 wx => ∃ f, s11 = .slice (some ⟨f, 0, none⟩) 64 64 ∧ s12 = .int .i64 (ta : Int) ∧ w.heap.size ≤ f ∧ Row wx f (pad 64 body) ∧ New w8 wx)
  case first =>
    go_region_held_law (fun wx => wx.cell? ⟨eb, 3, none⟩ = some (.int .i64 (t : Int)))
      (first
        | (with_reducible refine HK9.out _ ?_; with_reducible repeat (first | exact Chg.refl _ _ | refine Chg.drew ?_ | refine Chg.alloc ?_ _))
        | (with_reducible refine HK.out _ ?_; with_reducible repeat (first | exact Chg.refl _ _ | refine Chg.drew ?_ | refine Chg.alloc ?_ _)))
      (first
        | (go_at_call 41; (with_reducible refine (HSl.out _).mono ?_); rintro e w' ⟨rfl, rfl⟩)
        | (go_at_call 60; (with_reducible refine (HPd.out _ (by with_reducible repeat (first | exact Chg.refl _ _ | refine Chg.alloc ?_ _ | refine Chg.drew ?_))).mono ?_); rintro e w9 ⟨f, rfl, hf, hR9, hN9⟩
           have hM9 : New w8 w9 := Chg.then_new (S := fun _ => False) (by with_reducible repeat (first | exact Chg.refl _ _ | refine Chg.alloc ?_ _ | refine Chg.drew ?_)) hN9
           have HM9 := Lib.hid hM9
           have HR9 := Lib.hid hR9
           have Hf := Lib.hid hf
           have HK9 : Hid (∀ wx, New w9 wx → wx.cell? ⟨eb, 3, none⟩ = some (.int .i64 (t : Int))) := fun wx hx => HK.out wx (hM9.then_new hx)
           clear hM9 hR9 hN9 hf))
    all_goals
      go_wp2_with fail
      go_meet
      case rel => first | exact ⟨f, rfl, rfl, Hf.out, HR9.out, HM9.out⟩ | exact ⟨f, rfl, rfl, Hf.out, HR9.out, HM9.out.drew⟩
  case rest =>
  clear x3
  obtain ⟨w9, rfl⟩ : ∃ w9, w9 = wc := ⟨_, rfl⟩
  obtain ⟨f, rfl, rfl, hfw, hR9, hN9⟩ := hcut
  have HV9 := Lib.hid (HV8.out.keep hN9)
  have HO9 := Lib.hid (own_new HO8.out hN9)
  have HN9 := Lib.hid (HN8.out.then_new hN9)
  have HB9 := Lib.hid (HB8.out.keep hN9)
  have HR9 := Lib.hid hR9
  have Hfw : Hid (w.heap.size ≤ f ∧ f ≠ g) := by show _ ∧ _; omega
  clear hR9 hN9 hfw HV8 HO8 HB8 HX8 HK HPd HSl
  have HSc : Hid (∀ wx, New w9 wx → Calls Try.prog 57 #[.agg #[.int .i64 c, .int .i64 u, .int .i64 (q' : Int), .int .i64 (p' : Int), .slice E L.length ec]] wx fun e w' => ∃ S sc, e = .returned (.agg #[.int .i64 (p' : Int), .slice S 32 sc]) ∧ w'.ownsRow w.heap.size 5 1 (.slice S 32 sc) 32 ((sectorB (listB q' L)).map bV) ∧ New wx w') := fun wx hx => by
    have hO := own_new HO9.out hx
    refine (sector_any c u (p' : Int) q' E L.length ec _ L wx (Ents.of_own hO) (own_below hO) rfl HSnd.out.2 hq'' HSnd.out.1.1).mono ?_
    rintro e w' ⟨S, sc, rfl, hS, hN⟩
    exact ⟨S, sc, rfl, own_base hS (fun k hk => Nat.le_trans (Nat.le_trans HN9.out.size hx.size) (hS.lt k hk).1), hN⟩
  have HW : Hid (∀ (wx : World) (b : Nat) (S8 : Option Addr) (sc : Nat), New w wx → w.heap.size ≤ b → Has wx b 95 #[.int .i64 (ta : Int), .slice (some ⟨f, 0, none⟩) 32 64, .int .i64 (tb : Int), .slice (some ⟨f, 32, none⟩) 32 32, .int .i64 (p' : Int), .slice S8 32 sc] → Row wx f (pad 64 body) → wx.ownsRow w.heap.size 5 1 (.slice S8 32 sc) 32 ((sectorB (listB q' L)).map bV) → Calls Try.prog 56 #[.pointer (some ⟨g, 0, none⟩), .agg #[.int .i64 c, .int .i64 u, .int .i64 (q' : Int), .int .i64 (p' : Int), .slice E L.length ec], .slice (some ⟨b, 0, none⟩) 3 3] wx fun e w' => ∃ (y0 y1 y2 y3 : Int) (Y : Option Addr) (yn yc : Nat) (x : Int), e = .returned (.tuple #[.agg #[.int .i64 y0, .int .i64 y1, .int .i64 y2, .int .i64 y3, .slice Y yn yc], .int .i64 x]) ∧ ((wrE pw 3 = 0 ∧ x = 0 ∧ Value.agg #[.int .i64 y0, .int .i64 y1, .int .i64 y2, .int .i64 y3, .slice Y yn yc] = .agg #[.int .i64 c, .int .i64 u, .int .i64 (q' : Int), .int .i64 (p' : Int), .slice E L.length ec]) ∨ (wrE pw 3 = 30 ∧ x = 30 ∧ Value.agg #[.int .i64 y0, .int .i64 y1, .int .i64 y2, .int .i64 y3, .slice Y yn yc] = .agg #[.int .i64 0, .int .i64 0, .int .i64 0, .int .i64 0, .slice none 0 0])) ∧ Cd w' g (doneI B [((ta, (pad 64 body).take 32) : Wr), (tb, (pad 64 body).drop 32), (p', sectorB (listB q' L))] (wrN pw 3)) (wrP pw (wrN pw 3)) ∧ Chg (· = g) wx w') := by
    intro wx b S8 sc hx hb hB hR hS
    refine (written_any g B pw (some ⟨b, 0, none⟩) 3 3 _ [((ta, (pad 64 body).take 32) : Wr), (tb, (pad 64 body).drop 32), (p', sectorB (listB q' L))] c u (q' : Int) (p' : Int) E L.length ec wx (HC.out.new hx) (Rws.three hB (pad_len 64 body) hR (sector_len _) hS) (fun k hk => by rcases hk with hk | hk | hk; exact ⟨by have := (hS.lt k hk).1; omega, (hS.lt k hk).2⟩; (rw [hk]; exact ⟨by omega, hB.lt⟩); (rw [hk]; exact ⟨Hfw.out.2, hR.lt⟩)) rfl (by omega) HWf.out).mono ?_
    rintro e w' ⟨hr, hC', hG'⟩
    rcases hr with ⟨h, rfl⟩ | ⟨h, rfl⟩
    · exact ⟨_, _, _, _, _, _, _, _, rfl, Or.inl ⟨h, rfl, rfl⟩, hC', hG'⟩
    · exact ⟨_, _, _, _, _, _, _, _, rfl, Or.inr ⟨h, rfl, rfl⟩, hC', hG'⟩
  have v0 : w9.cell? ⟨nb, 0, none⟩ = some (.int .i64 c) := (HV9.out.cell 0).trans rfl
  have v1 : w9.cell? ⟨nb, 1, none⟩ = some (.int .i64 u) := (HV9.out.cell 1).trans rfl
  have v2 : w9.cell? ⟨nb, 2, none⟩ = some (.int .i64 (q' : Int)) := (HV9.out.cell 2).trans rfl
  have v3 : w9.cell? ⟨nb, 3, none⟩ = some (.int .i64 (p' : Int)) := (HV9.out.cell 3).trans rfl
  have v4 : w9.cell? ⟨nb, 4, none⟩ = some (.slice E L.length ec) := (HV9.out.cell 4).trans rfl
  have HK : Hid (∀ wx, Chg (fun k => k = g ∨ k = rb) w9 wx → wx.cell? ⟨nb, 0, none⟩ = some (.int .i64 c) ∧ wx.cell? ⟨nb, 1, none⟩ = some (.int .i64 u) ∧ wx.cell? ⟨nb, 2, none⟩ = some (.int .i64 (q' : Int)) ∧ wx.cell? ⟨nb, 3, none⟩ = some (.int .i64 (p' : Int)) ∧ wx.cell? ⟨nb, 4, none⟩ = some (.slice E L.length ec)) := fun wx hx => by
    have h := HV9.out.chg hx (fun h => by have := Hnb.out; omega)
    exact ⟨(h.cell 0).trans rfl, (h.cell 1).trans rfl, (h.cell 2).trans rfl, (h.cell 3).trans rfl, (h.cell 4).trans rfl⟩
  have hsA : ∀ wy, (Instr.slice 22 (.slice (some ⟨f, 0, none⟩) 64 64) none (some (.int .i64 32)) none).run Try.prog wy = .ok (.slice (some ⟨f, 0, none⟩) 32 64) wy := fun wy => slice_to ⟨f, 0, none⟩ 64 64 32 (by omega) wy
  have hsB : ∀ wy, (Instr.slice 22 (.slice (some ⟨f, 0, none⟩) 64 64) (some (.int .i64 32)) none none).run Try.prog wy = .ok (.slice (some ⟨f, 32, none⟩) 32 32) wy := fun wy => slice_from ⟨f, 0, none⟩ 64 64 32 (by omega) (by omega) wy
  have ft : (ta : Int) + 1 = (tb : Int) := by have := Hta.out; have := Htb.out; omega
  have htb' : tb ≤ 16 := by have := Htb.out; omega
  have ft2 : IntKind.i64.wrap ((ta : Int) + 1) = (tb : Int) := by rw [ft]; exact IntWalk.i64_in _ (by omega)
  have ft3 : IntKind.i64.wrap (tb : Int) = (tb : Int) := IntWalk.i64_in _ (by omega)
  clear htb'
  go_upto_region 14 with (fail)
  go_region_held_law (fun wx => wx.cell? ⟨nb, 0, none⟩ = some (.int .i64 c) ∧ wx.cell? ⟨nb, 1, none⟩ = some (.int .i64 u) ∧ wx.cell? ⟨nb, 2, none⟩ = some (.int .i64 (q' : Int)) ∧ wx.cell? ⟨nb, 3, none⟩ = some (.int .i64 (p' : Int)) ∧ wx.cell? ⟨nb, 4, none⟩ = some (.slice E L.length ec))
    (first
      | (with_reducible refine HK11.out _ ?_; with_reducible repeat (first | exact Chg.refl _ _ | refine Chg.drew ?_ | refine Chg.setCell (S := (· = rb)) ?_ (fun _ => by dsimp only) _))
      | (with_reducible refine HK10.out _ ?_; with_reducible repeat (first | exact Chg.refl _ _ | refine Chg.drew ?_ | refine Chg.alloc ?_ _))
      | (with_reducible refine HK.out _ ?_; with_reducible repeat (first | exact Chg.refl _ _ | refine Chg.drew ?_ | refine Chg.alloc ?_ _)))
    (first
      | (go_simp; go_at_call 56; (with_reducible refine (HW.out (w10.alloc (.cells #[.int .i64 (ta : Int), .slice (some ⟨f, 0, none⟩) 32 64, .int .i64 (tb : Int), .slice (some ⟨f, 32, none⟩) 32 32, .int .i64 (p' : Int), .slice S8 32 sc] 95)) w10.heap.size S8 sc (HN10.out.alloc _) HN10.out.size (Has.new w10 95 _) (HR10.out.new ((Chg.refl _ _).alloc _)) (own_new HS10.out ((Chg.refl _ _).alloc _))).mono ?_); rintro e w11 ⟨y0, y1, y2, y3, Y, yn, yc, x, rfl, hcs, hC11, hG11⟩
         have Hcs := Lib.hid hcs
         have HC11 := Lib.hid hC11
         have hM11 : Chg (· = g) w9 w11 := (Chg.of_new (HM10.out.alloc (.cells #[.int .i64 (ta : Int), .slice (some ⟨f, 0, none⟩) 32 64, .int .i64 (tb : Int), .slice (some ⟨f, 32, none⟩) 32 32, .int .i64 (p' : Int), .slice S8 32 sc] 95))).trans hG11 (fun _ _ h => h)
         have HG11 : Hid (Chg (· = g) w w11) := Chg.new_then HN9.out hM11
         have hB11 := HB9.out.chg hM11 Hvr.out.2.1
         have HO11 := Lib.hid (own_chg HO9.out hM11 (fun k hk h => own_apart HO9.out (HC.out.new HN9.out).has (by decide) (by rw [hk, h])))
         have HK11 : Hid (∀ wx, Chg (· = rb) w11 wx → wx.cell? ⟨nb, 0, none⟩ = some (.int .i64 c) ∧ wx.cell? ⟨nb, 1, none⟩ = some (.int .i64 u) ∧ wx.cell? ⟨nb, 2, none⟩ = some (.int .i64 (q' : Int)) ∧ wx.cell? ⟨nb, 3, none⟩ = some (.int .i64 (p' : Int)) ∧ wx.cell? ⟨nb, 4, none⟩ = some (.slice E L.length ec)) := fun wx hx => HK.out wx ((hM11.mono fun _ _ h => Or.inl h).trans hx (fun _ _ h => Or.inr h))
         have r0 := (hB11.cell 0).trans rfl
         have r1 := (hB11.cell 1).trans rfl
         have r2 := (hB11.cell 2).trans rfl
         have r3 := (hB11.cell 3).trans rfl
         have r4 := (hB11.cell 4).trans rfl
         have z0 := hB11.free 0
         have z1 := hB11.free 1
         have z2 := hB11.free 2
         have z3 := hB11.free 3
         have z4 := hB11.free 4
         have HB11 := Lib.hid hB11
         clear hcs hC11 hG11 hM11 hB11)
      | (go_at_call 57; (with_reducible refine (HSc.out w9.drew ((Chg.refl _ _).drew)).mono ?_); rintro e w10 ⟨S8, sc, rfl, hS10, hN10⟩
         have hM10 : New w9 w10 := Chg.then_new (S := fun _ => False) ((Chg.refl _ _).drew) hN10
         have HM10 := Lib.hid hM10
         have HN10 := Lib.hid (HN9.out.then_new hM10)
         have HS10 := Lib.hid hS10
         have HR10 := Lib.hid (HR9.out.new hM10)
         have HK10 : Hid (∀ wx, New w10 wx → wx.cell? ⟨nb, 0, none⟩ = some (.int .i64 c) ∧ wx.cell? ⟨nb, 1, none⟩ = some (.int .i64 u) ∧ wx.cell? ⟨nb, 2, none⟩ = some (.int .i64 (q' : Int)) ∧ wx.cell? ⟨nb, 3, none⟩ = some (.int .i64 (p' : Int)) ∧ wx.cell? ⟨nb, 4, none⟩ = some (.slice E L.length ec)) := fun wx hx => HK.out wx (Chg.of_new (hM10.then_new hx))
         clear hS10 hN10 hM10))
  all_goals
    clear ft ft2 ft3 hsA hsB
    go_wp2_with fail
    obtain ⟨hX, hGX⟩ := setV HB11.out (.int .i64 y0) (.int .i64 y1) (.int .i64 y2) (.int .i64 y3) (.slice Y yn yc)
    generalize (((((w11.setCell ⟨rb, 0, none⟩ (.int .i64 y0)).setCell ⟨rb, 1, none⟩ (.int .i64 y1)).setCell ⟨rb, 2, none⟩ (.int .i64 y2)).setCell ⟨rb, 3, none⟩ (.int .i64 y3)).setCell ⟨rb, 4, none⟩ (.slice Y yn yc)) = wX at hX hGX ⊢
    have g0 := (hX.cell 0).trans rfl
    have g1 := (hX.cell 1).trans rfl
    have g2 := (hX.cell 2).trans rfl
    have g3 := (hX.cell 3).trans rfl
    have g4 := (hX.cell 4).trans rfl
    refine bodyPost_ret (v := .tuple #[.agg #[.int .i64 y0, .int .i64 y1, .int .i64 y2, .int .i64 y3, .slice Y yn yc], .int .i64 x]) (by simp [results, Try.results30, go_sem, g0, g1, g2, g3, g4]) rfl ?_
    have hCX := HC11.out.chg hGX Hvr.out.2.1.symm
    have hOX := own_chg HO11.out hGX (fun k hk h => own_apart HO11.out HB11.out (by decide) (by rw [hk, h]))
    refine ⟨?_, HG11.out.trans hGX (fun i hi h => by have := Hvr.out; omega)⟩
    rw [Hd.out, HR.out, HNV.out]
    rcases Hcs.out with ⟨h1, rfl, h2⟩ | ⟨h1, rfl, h2⟩
    · rw [h2]
      exact Or.inr (Or.inr ⟨rfl, h1, ⟨E, ec, rfl, hOX⟩, hCX⟩)
    · rw [h2]
      exact Or.inr (Or.inl ⟨rfl, h1, rfl, hCX⟩)
end Go.Proofs.Ytjkpijinpfimiaa
