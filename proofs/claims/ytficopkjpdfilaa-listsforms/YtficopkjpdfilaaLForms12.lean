/-
  The walk of ListsForms: whatever delta and bytes are given, Put and Get are the document's, and each undoes the other.
-/
import Derived.Test.YtficopkjpdfilaaLiY
namespace Go.Proofs.Ytficopkjpdfilaa
open Go.RowKit
open Go.ChangeShapes Go.WideShapes Go.ChangeAt Go.Joins
set_option maxRecDepth 100000 in
set_option maxHeartbeats 16000000 in
theorem forms12_walk (tv : Int) (B : Option Addr) (m ca : Nat) (E : Option Addr) (p co : Nat) (add off : List It) {W : World} (hB : ItsN W B m ca add) (hD : ItsN W E p co off)
    (A : Option Addr) (n c : Nat) (hz : (∃ bs : List Nat, bs.length = n ∧ Arr W (· < W.heap.size) A n (fun i => bV (bs.getD i 0)) ∧ (∀ x ∈ bs, x < 256) ∧ n ≤ c ∧ c ≤ maxLen ∧ (A = none → n = 0 ∧ c = 0)) ∧ n ≤ 140737488351232) :
    Calls Try.prog 4 #[.agg #[.int .i64 tv, .slice B m ca, .slice E p co], .slice A n c] W fun e w' => e = .returned (.bool true) ∧ New W w' := by
  obtain ⟨⟨bs, hbl, hbA, hb256, hbc, hbm, hbn⟩, hbz⟩ := hz
  have HB := Lib.hid hB; clear hB
  have HD := Lib.hid hD; clear hD
  have HbA := Lib.hid hbA; clear hbA
  have H256 := Lib.hid hb256; clear hb256
  have Hbl := Lib.hid hbl; clear hbl
  have Hbn := Lib.hid hbn; clear hbn
  have Hbc := Lib.hid (And.intro hbc hbm); clear hbc hbm
  have HA0 := Lib.hid (awake12_any (W.alloc (.cells #[.int .i64 tv, .slice B m ca, .slice E p co] 37)))
  go_enter Try.func4, Try.ntmps4
  go_wp2_with fail
  with_reducible refine HA0.out.mono ?_
  rintro e w0 ⟨rfl, hN0⟩
  have HX0 := Lib.hid ((Has.new W 37 #[.int .i64 tv, .slice B m ca, .slice E p co]).keep hN0)
  have HN0 := Lib.hid (((Chg.refl (fun _ => False) W).alloc _).then_new hN0)
  clear hN0 HA0
  have lx : W.heap.size < w0.heap.size := HX0.out.lt
  have x0 : w0.cell? ⟨W.heap.size, 0, none⟩ = some (.int .i64 tv) := (HX0.out.cell 0).trans rfl
  have x1 : w0.cell? ⟨W.heap.size, 1, none⟩ = some (.slice B m ca) := (HX0.out.cell 1).trans rfl
  have x2 : w0.cell? ⟨W.heap.size, 2, none⟩ = some (.slice E p co) := (HX0.out.cell 2).trans rfl
  have HC := Lib.hid (copied_any add off B E m p ca co tv (· < W.heap.size) w0 (HB.out.2.1.new HN0.out (fun k h => h)) (HD.out.2.1.new HN0.out (fun k h => h)) (fun k hk => Nat.lt_of_lt_of_le hk HN0.out.size) HB.out.1 HD.out.1 (by have := HB.out.2.2.2; omega) (by have := HD.out.2.2.2; omega) HB.out.2.2.1 HD.out.2.2.1)
  go_wp2_with fail
  with_reducible refine HC.out.mono ?_
  rintro e w1 ⟨A1, c1, A2, c2, rfl, hO1, hO2, hN1⟩
  have HP := Lib.hid (Put_any add off A1 A2 m p c1 c2 tv (· < w1.heap.size) w1 (own_its hO1 (Chg.refl _ _)) (own_its hO2 (Chg.refl _ _)) (fun _ h => h) HB.out.1 HD.out.1 (by have := HB.out.2.2.2; omega) (by have := HD.out.2.2.2; omega))
  have HX1 := Lib.hid (HX0.out.keep hN1)
  have HN1 := Lib.hid (HN0.out.then_new hN1)
  clear hO1 hO2 hN1 x0 x1 x2 lx HX0 HN0 HC
  obtain ⟨X, hX⟩ : ∃ X, X = putE tv add off := ⟨_, rfl⟩
  obtain ⟨ps, hps⟩ : ∃ ps, ps = putB tv add off := ⟨_, rfl⟩
  obtain ⟨l, hl⟩ : ∃ l, l = ps.length := ⟨_, rfl⟩
  have HXe := Lib.hid hX
  have Hps := Lib.hid hps
  have Hl := Lib.hid hl
  clear hX hps hl
  have HP' : Hid (Calls Try.prog 21 #[.agg #[.int .i64 tv, .slice A1 m c1, .slice A2 p c2]] w1 fun e w' => (∃ A3 c3, e = .returned (.tuple #[.slice A3 l c3, .int .i64 X]) ∧ w'.ownsRow w1.heap.size 5 1 (.slice A3 l c3) l (ps.map bV)) ∧ New w1 w') := by
    refine HP.out.mono fun e w' ⟨h, hN⟩ => ⟨?_, hN⟩
    rw [HXe.out, Hl.out, Hps.out]
    exact h.one
  clear HP
  go_wp2_with fail
  with_reducible refine HP'.out.mono ?_
  rintro e w2 ⟨⟨A3, c3, rfl, hO3⟩, hN2⟩
  have HX2 := Lib.hid (HX1.out.keep hN2)
  have HN2 := Lib.hid (HN1.out.then_new hN2)
  have HO2 := Lib.hid hO3
  clear hO3 hN2 HX1 HN1 HP'
  have lx : W.heap.size < w2.heap.size := HX2.out.lt
  have x0 : w2.cell? ⟨W.heap.size, 0, none⟩ = some (.int .i64 tv) := (HX2.out.cell 0).trans rfl
  have x1 : w2.cell? ⟨W.heap.size, 1, none⟩ = some (.slice B m ca) := (HX2.out.cell 1).trans rfl
  have x2 : w2.cell? ⟨W.heap.size, 2, none⟩ = some (.slice E p co) := (HX2.out.cell 2).trans rfl
  have HQ : Hid (Calls Try.prog 22 #[.int .i64 tv, .slice B m ca, .slice E p co] w2 fun e w' => (∃ A4 c4, e = .returned (.tuple #[.slice A4 l c4, .int .i64 X]) ∧ w'.ownsRow w2.heap.size 5 1 (.slice A4 l c4) l (ps.map bV)) ∧ New w2 w') := by
    refine (docPut_any add off B E m p ca co tv (· < W.heap.size) w2 (HB.out.2.1.new HN2.out (fun k h => h)) (HD.out.2.1.new HN2.out (fun k h => h)) (fun k hk => Nat.lt_of_lt_of_le hk HN2.out.size) HB.out.1 HD.out.1 HB.out.2.2.2 HD.out.2.2.2).mono fun e w' ⟨h, hN⟩ => ⟨?_, hN⟩
    rw [HXe.out, Hl.out, Hps.out]
    exact h.one
  go_wp2_with fail
  with_reducible refine HQ.out.mono ?_
  rintro e w3 ⟨⟨A4, c4, rfl, hO4⟩, hN3⟩
  have HX3 := Lib.hid (HX2.out.keep hN3)
  have HN3 := Lib.hid (HN2.out.then_new hN3)
  have HO3 := Lib.hid (own_new HO2.out hN3)
  have HO4 := Lib.hid hO4
  clear hO4 hN3 HX2 HN2 HO2 HQ lx x0 x1 x2
  have s1 := own_str HO3.out
  have s2 := own_str HO4.out
  go_upto_region 5 with (fail)
  go_cut [58] (fun s58 wc => s58 = .bool false ∧ wc = w3)
  case first =>
    by_cases hx : X = 0
    · subst hx
      go_wp2_with fail
      go_meet
      exact ⟨rfl, rfl⟩
    · have t1 : (X == 0) = false := by simp [hx]
      have t2 : (X != 0) = true := by simp [hx]
      obtain rfl : l = 0 := by rw [Hl.out, Hps.out]; exact putB_pos (by rw [← HXe.out]; exact hx)
      clear hx
      go_wp2_with fail
      go_meet
      exact ⟨rfl, rfl⟩
  case rest =>
  obtain ⟨rfl, rfl⟩ := hcut
  clear s1 s2 HO4
  go_upto_if 60 with (fail)
  go_cut [] (fun wd => New W wd)
  case first =>
    by_cases hx : X = 0
    case neg =>
      have t1 : (X == 0) = false := by simp [hx]
      clear hx
      go_wp2_with fail
      go_meet
      exact HN3.out
    subst hx
    have HG : Hid (Calls Try.prog 23 #[.slice A3 l c3] wc fun e w' => ∃ A5 c5 A6 c6, e = .returned (.tuple #[.agg #[.int .i64 tv, .slice A5 m c5, .slice A6 p c6], .int .i64 0]) ∧
        w'.ownsRow wc.heap.size 44 5 (.slice A5 m c5) m (ics add) ∧ w'.ownsRow wc.heap.size 44 5 (.slice A6 p c6) p (ics off) ∧ New wc w') := by
      refine (Get_any ps A3 l c3 _ wc (own_arr_bs Hl.out.symm HO3.out) (own_lt HO3.out) Hl.out.symm (own_nil HO3.out) ?_ ?_).mono fun e w' h => ?_
      · rw [Hl.out, Hps.out]; have := putB_bound tv add off; omega
      · rw [Hps.out]; exact putB_small tv add off
      · rw [Hps.out] at h
        have := h.back HXe.out.symm
        rw [HB.out.1, HD.out.1] at this
        exact this
    go_wp2_with fail
    with_reducible refine HG.out.mono ?_
    rintro e w4 ⟨A5, c5, A6, c6, rfl, hO5, hO6, hN4⟩
    obtain ⟨w5, hw5⟩ : ∃ w, w = w4.alloc (.cells #[.int .i64 tv, .slice A5 m c5, .slice A6 p c6] 37) := ⟨_, rfl⟩
    have hNa : New w4 w5 := by rw [hw5]; exact (Chg.refl _ _).alloc _
    have hXd : Has w5 w4.heap.size 37 #[.int .i64 tv, .slice A5 m c5, .slice A6 p c6] := by rw [hw5]; exact Has.new _ _ _
    obtain ⟨g, hg⟩ : ∃ g, g = w4.heap.size := ⟨_, rfl⟩
    rw [← hg] at hXd
    have HXd5 := Lib.hid hXd
    have HI5 := Lib.hid (own_its hO5 hNa)
    have HJ5 := Lib.hid (own_its hO6 hNa)
    have HX5 := Lib.hid ((HX3.out.keep hN4).keep hNa)
    have HN5 := Lib.hid ((HN3.out.then_new hN4).then_new hNa)
    clear hXd hO5 hO6 hN4 hNa HG HX3 HN3 HO3
    go_upto_region 9 with (fail)
    rw [← hw5, ← hg]
    clear hw5 hg
    have lx : W.heap.size < w5.heap.size := HX5.out.lt
    have x0 : w5.cell? ⟨W.heap.size, 0, none⟩ = some (.int .i64 tv) := (HX5.out.cell 0).trans rfl
    have x1 : w5.cell? ⟨W.heap.size, 1, none⟩ = some (.slice B m ca) := (HX5.out.cell 1).trans rfl
    have lg : g < w5.heap.size := HXd5.out.lt
    have g0 : w5.cell? ⟨g, 0, none⟩ = some (.int .i64 tv) := (HXd5.out.cell 0).trans rfl
    have g1 : w5.cell? ⟨g, 1, none⟩ = some (.slice A5 m c5) := (HXd5.out.cell 1).trans rfl
    have HS := Lib.hid (Same_eq add A5 B m m c5 ca w5 HB.out.1 HB.out.1 (by have := HB.out.2.2.2; omega) HI5.out ((HB.out.2.1.any HN5.out)))
    go_wp2_with fail
    with_reducible refine HS.out.mono ?_
    rintro e w6 ⟨rfl, hN6⟩
    have HJ6 := Lib.hid (HJ5.out.any hN6)
    have HX6 := Lib.hid (HX5.out.keep hN6)
    have HXd6 := Lib.hid (HXd5.out.keep hN6)
    have HN6 := Lib.hid (HN5.out.then_new hN6)
    clear hN6 HS HJ5 HX5 HXd5 HN5 HI5 lx x0 x1 lg g0 g1
    have lx : W.heap.size < w6.heap.size := HX6.out.lt
    have x2 : w6.cell? ⟨W.heap.size, 2, none⟩ = some (.slice E p co) := (HX6.out.cell 2).trans rfl
    have lg : g < w6.heap.size := HXd6.out.lt
    have g2 : w6.cell? ⟨g, 2, none⟩ = some (.slice A6 p c6) := (HXd6.out.cell 2).trans rfl
    have HS := Lib.hid (Same_eq off A6 E p p c6 co w6 HD.out.1 HD.out.1 (by have := HD.out.2.2.2; omega) HJ6.out ((HD.out.2.1.any HN6.out)))
    go_wp2_with fail
    with_reducible refine HS.out.mono ?_
    rintro e w7 ⟨rfl, hN7⟩
    have HN7 := Lib.hid (HN6.out.then_new hN7)
    clear hN7 HS HJ6 HX6 HXd6 HN6 lx x2 lg g2
    go_wp2_with fail
    go_meet
    exact HN7.out
  case rest =>
  have HN8 := Lib.hid hcut
  clear hcut HB HD HX3 HN3 HO3 HXe Hps Hl
  have HA8 := Lib.hid (HbA.out.new HN8.out (fun _ h => h))
  have HF8 : Hid (∀ k, k < W.heap.size → k < wc.heap.size) := fun k hk => Nat.lt_of_lt_of_le hk HN8.out.size
  go_upto_region 12 with (first
    | (at_builtin
       refine wpList_copy rfl _ _ rfl rfl A n c bs _ rfl HA8.out HF8.out Hbl.out Hbn.out (by omega) ?_
       intro B1 d1 w9 hO9 hN9
       have HO9 := Lib.hid hO9
       have HN9 := Lib.hid (HN8.out.then_new hN9)
       clear hO9 hN9 HA8 HF8)
    | fail)
  have HG := Lib.hid (Get_any bs B1 n d1 _ w9 (own_arr_bs Hbl.out HO9.out) (own_lt HO9.out) Hbl.out (own_nil HO9.out) hbz H256.out)
  obtain ⟨X2, hX2⟩ : ∃ X, X = getE bs := ⟨_, rfl⟩
  obtain ⟨T, hT⟩ : ∃ X, X = getT bs := ⟨_, rfl⟩
  obtain ⟨a, ha⟩ : ∃ X, X = getA bs := ⟨_, rfl⟩
  obtain ⟨o, ho⟩ : ∃ X, X = getO bs := ⟨_, rfl⟩
  obtain ⟨x, hx⟩ : ∃ x, x = a.length := ⟨_, rfl⟩
  obtain ⟨y, hy⟩ : ∃ y, y = o.length := ⟨_, rfl⟩
  have hx64 : x ≤ 64 := by rw [hx, ha]; exact (get_bound bs).1
  have hy64 : y ≤ 64 := by rw [hy, ho]; exact (get_bound bs).2
  have HX2 := Lib.hid hX2
  have HT := Lib.hid hT
  have Ha := Lib.hid ha
  have Ho := Lib.hid ho
  have Hx := Lib.hid hx
  have Hy := Lib.hid hy
  clear hX2 hT ha ho hx hy
  have HG' : Hid (Calls Try.prog 23 #[.slice B1 n d1] w9 fun e w' => (∃ A1 c1 A2 c2, e = .returned (.tuple #[.agg #[.int .i64 T, .slice A1 x c1, .slice A2 y c2], .int .i64 X2]) ∧
      w'.ownsRow w9.heap.size 44 5 (.slice A1 x c1) x (ics a) ∧ w'.ownsRow w9.heap.size 44 5 (.slice A2 y c2) y (ics o)) ∧ New w9 w') := by
    rw [Hid, HX2.out, HT.out, Hx.out, Hy.out, Ha.out, Ho.out]
    exact HG.out
  clear HG
  go_wp2_with fail
  with_reducible refine HG'.out.mono ?_
  rintro e w10 ⟨⟨B2, d2, B3, d3, rfl, hO2, hO3⟩, hN10⟩
  obtain ⟨w11, hw11⟩ : ∃ w, w = w10.alloc (.cells #[.int .i64 T, .slice B2 x d2, .slice B3 y d3] 37) := ⟨_, rfl⟩
  have hNa : New w10 w11 := by rw [hw11]; exact (Chg.refl _ _).alloc _
  have hXd : Has w11 w10.heap.size 37 #[.int .i64 T, .slice B2 x d2, .slice B3 y d3] := by rw [hw11]; exact Has.new _ _ _
  obtain ⟨g, hg⟩ : ∃ g, g = w10.heap.size := ⟨_, rfl⟩
  rw [← hg] at hXd
  have HG11 := Lib.hid hXd
  have HI11 := Lib.hid (own_its hO2 hNa)
  have HJ11 := Lib.hid (own_its hO3 hNa)
  have HO11 := Lib.hid (own_new (own_new HO9.out hN10) hNa)
  have HN11 := Lib.hid ((HN9.out.then_new hN10).then_new hNa)
  clear hXd hO2 hO3 hN10 hNa HG' HO9 HN9 HN8
  go_upto_region 13 with (fail)
  rw [← hw11, ← hg]
  clear hw11 hg
  have HG' : Hid (Calls Try.prog 24 #[.slice A n c] w11 fun e w' => (∃ A1 n1 c1 A2 n2 c2, e = .returned (.tuple #[.agg #[.int .i64 T, .slice A1 n1 c1, .slice A2 n2 c2], .int .i64 X2]) ∧ a.length = n1 ∧ o.length = n2 ∧ Its w' (· < w'.heap.size) A1 a ∧ Its w' (· < w'.heap.size) A2 o) ∧ New w11 w') := by
    rw [Hid, HX2.out, HT.out, Ha.out, Ho.out]
    exact docGet_any bs A n c _ w11 (HbA.out.new HN11.out (fun _ h => h)) (fun k hk => Nat.lt_of_lt_of_le hk HN11.out.size) Hbl.out Hbc.out.1 hbz H256.out
  go_wp2_with fail
  with_reducible refine HG'.out.mono ?_
  rintro e w12 ⟨⟨B4, n4, d4, B5, n5, d5, rfl, hn4, hn5, hI4, hI5⟩, hN12⟩
  obtain rfl : n4 = x := hn4.symm.trans Hx.out.symm
  obtain rfl : n5 = y := hn5.symm.trans Hy.out.symm
  obtain ⟨w13, hw13⟩ : ∃ w, w = w12.alloc (.cells #[.int .i64 T, .slice B4 n4 d4, .slice B5 n5 d5] 63) := ⟨_, rfl⟩
  have hNa : New w12 w13 := by rw [hw13]; exact (Chg.refl _ _).alloc _
  have hXd : Has w13 w12.heap.size 63 #[.int .i64 T, .slice B4 n4 d4, .slice B5 n5 d5] := by rw [hw13]; exact Has.new _ _ _
  obtain ⟨g', hg'⟩ : ∃ g, g = w12.heap.size := ⟨_, rfl⟩
  rw [← hg'] at hXd
  have HK13 := Lib.hid hXd
  have HG13 := Lib.hid ((HG11.out.keep hN12).keep hNa)
  have HI13 := Lib.hid ((HI11.out.any hN12).any hNa)
  have HJ13 := Lib.hid ((HJ11.out.any hN12).any hNa)
  have HP13 := Lib.hid (hI4.any hNa)
  have HQ13 := Lib.hid (hI5.any hNa)
  have HO13 := Lib.hid (own_new (own_new HO11.out hN12) hNa)
  have HN13 := Lib.hid ((HN11.out.then_new hN12).then_new hNa)
  clear hXd hI4 hI5 hN12 hNa HG' HO11 HN11 HG11 HI11 HJ11 hn4 hn5
  go_upto_region 14 with (fail)
  rw [← hw13, ← hg']
  clear hw13 hg'
  have lx : g' < w13.heap.size := HK13.out.lt
  have x0 : w13.cell? ⟨g', 0, none⟩ = some (.int .i64 T) := (HK13.out.cell 0).trans rfl
  have x1 : w13.cell? ⟨g', 1, none⟩ = some (.slice B4 n4 d4) := (HK13.out.cell 1).trans rfl
  have lg : g < w13.heap.size := HG13.out.lt
  have g0 : w13.cell? ⟨g, 0, none⟩ = some (.int .i64 T) := (HG13.out.cell 0).trans rfl
  have g1 : w13.cell? ⟨g, 1, none⟩ = some (.slice B2 n4 d2) := (HG13.out.cell 1).trans rfl
  have HS := Lib.hid (Same_eq a B2 B4 n4 n4 d2 d4 w13 Hx.out.symm Hx.out.symm (by omega) HI13.out HP13.out)
  go_wp2_with fail
  with_reducible refine HS.out.mono ?_
  rintro e w14 ⟨rfl, hN14⟩
  have HK14 := Lib.hid (HK13.out.keep hN14)
  have HG14 := Lib.hid (HG13.out.keep hN14)
  have HI14 := Lib.hid (HI13.out.any hN14)
  have HJ14 := Lib.hid (HJ13.out.any hN14)
  have HQ14 := Lib.hid (HQ13.out.any hN14)
  have HO14 := Lib.hid (own_new HO13.out hN14)
  have HN14 := Lib.hid (HN13.out.then_new hN14)
  clear hN14 HS HK13 HG13 HI13 HJ13 HP13 HQ13 HO13 HN13 lx x0 x1 lg g0 g1
  have lx : g' < w14.heap.size := HK14.out.lt
  have x2 : w14.cell? ⟨g', 2, none⟩ = some (.slice B5 n5 d5) := (HK14.out.cell 2).trans rfl
  have lg : g < w14.heap.size := HG14.out.lt
  have g2 : w14.cell? ⟨g, 2, none⟩ = some (.slice B3 n5 d3) := (HG14.out.cell 2).trans rfl
  have HS := Lib.hid (Same_eq o B3 B5 n5 n5 d3 d5 w14 Hy.out.symm Hy.out.symm (by omega) HJ14.out HQ14.out)
  go_wp2_with fail
  with_reducible refine HS.out.mono ?_
  rintro e w15 ⟨rfl, hN15⟩
  have HG15 := Lib.hid (HG14.out.keep hN15)
  have HI15 := Lib.hid (HI14.out.any hN15)
  have HJ15 := Lib.hid (HJ14.out.any hN15)
  have HO15 := Lib.hid (own_new HO14.out hN15)
  have HN15 := Lib.hid (HN14.out.then_new hN15)
  clear hN15 HS HK14 HG14 HI14 HJ14 HQ14 HO14 HN14 lx x2 lg g2
  have s1 := own_str HO15.out
  have s2 := arr_string (dst := 9) Try.underlying56 Try.underlying5 Try.underlying9 (HbA.out.new HN15.out (fun _ h => h)) Hbl.out H256.out Hbn.out
  have lg : g < w15.heap.size := HG15.out.lt
  have g0 : w15.cell? ⟨g, 0, none⟩ = some (.int .i64 T) := (HG15.out.cell 0).trans rfl
  have g1 : w15.cell? ⟨g, 1, none⟩ = some (.slice B2 n4 d2) := (HG15.out.cell 1).trans rfl
  have g2 : w15.cell? ⟨g, 2, none⟩ = some (.slice B3 n5 d3) := (HG15.out.cell 2).trans rfl
  by_cases hx : X2 = 0
  case neg =>
    have t1 : (X2 != 0) = true := by simp [hx]
    clear hx
    go_wp2_with fail
    go_ret
    exact ⟨rfl, HN15.out⟩
  subst hx
  have HP : Hid (Calls Try.prog 21 #[.agg #[.int .i64 T, .slice B2 n4 d2, .slice B3 n5 d3]] w15 fun e w' => (∃ A3 c3, e = .returned (.tuple #[.slice A3 n c3, .int .i64 0]) ∧ w'.ownsRow w15.heap.size 5 1 (.slice A3 n c3) n (bs.map bV)) ∧ New w15 w') := by
    refine (Put_any a o B2 B3 n4 n5 d2 d3 T (· < w15.heap.size) w15 HI15.out HJ15.out (fun _ h => h) Hx.out.symm Hy.out.symm (by omega) (by omega)).mono fun e w' ⟨h, hN⟩ => ⟨?_, hN⟩
    rw [HT.out, Ha.out, Ho.out] at h
    have := h.back HX2.out.symm H256.out
    rw [Hbl.out] at this
    exact this
  go_wp2_with fail
  with_reducible refine HP.out.mono ?_
  rintro e w16 ⟨⟨B6, d6, rfl, hO6⟩, hN16⟩
  have HN16 := Lib.hid (HN15.out.then_new hN16)
  clear s1 s2 lg g0 g1 g2 HO15 HG15 HI15 HJ15 HN15 hN16 HP
  have s1 := own_str hO6
  have s2 := arr_string (dst := 9) Try.underlying56 Try.underlying5 Try.underlying9 (HbA.out.new HN16.out (fun _ h => h)) Hbl.out H256.out Hbn.out
  clear hO6
  go_wp2_with fail
  go_ret
  exact ⟨rfl, HN16.out⟩
end Go.Proofs.Ytficopkjpdfilaa
