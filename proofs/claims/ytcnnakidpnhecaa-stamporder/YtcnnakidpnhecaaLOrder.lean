/-
  What the law StampOrder does: it returns true and turns nothing that was there.
-/
import Derived.Test.YtcnnakidpnhecaaStE
import Derived.Test.YtcnnakidpnhecaaLBack
namespace Go.Proofs.Ytcnnakidpnhecaa
open Go.RowKit
theorem Latest_two (d m d' m' : Int) (w : World) (hh : Nat) (he : w.heap.size = hh) (hr : rightB d m = true) (hr' : rightB d' m' = true) (x y : Int)
    (hxy : (d * 1440 + m < d' * 1440 + m' ∧ x = d' ∧ y = m') ∨ (¬ d * 1440 + m < d' * 1440 + m' ∧ x = d ∧ y = m)) :
    Calls Try.prog 25 #[.slice (some ⟨hh, 0, none⟩) 2 2] (w.alloc (.cells #[.int .i64 d, .int .i64 m, .int .i64 d', .int .i64 m'] 38)) fun e w' => e = .returned (.tuple #[.agg #[.int .i64 x, .int .i64 y], .bool true]) ∧ New w w' := by
  subst he
  have hH := Has.new w 38 #[.int .i64 d, .int .i64 m, .int .i64 d', .int .i64 m']
  refine (Latest_ok (· = w.heap.size) (some ⟨w.heap.size, 0, none⟩) 2 2 (fun i => if i = 0 then d else d') (fun i => if i = 0 then m else m') _ (fun i hi => by
      refine ⟨_, rfl, rfl, ?_⟩
      match i, hi with
      | 0, _ => exact ⟨hH.cell 0, hH.cell 1⟩
      | 1, _ => exact ⟨hH.cell 2, hH.cell 3⟩) (fun k hk => by subst hk; simp) (by omega) (by omega) (by omega) (fun j hj => by
      match j, hj with
      | 0, _ => exact hr
      | 1, _ => exact hr')).mono ?_
  rintro e w' ⟨j, hL, rfl, hN⟩
  refine ⟨?_, Chg.new_then ((Chg.refl _ _).alloc _) hN⟩
  obtain ⟨hj, hle, hlt⟩ := hL
  have hj2 : j = 0 ∨ j = 1 := by omega
  rcases hj2 with rfl | rfl
  · have := hle 1 (by omega)
    simp only [tm] at this
    rcases hxy with ⟨h1, rfl, rfl⟩ | ⟨h1, rfl, rfl⟩
    · simp at this; omega
    · rfl
  · have := hlt 0 (by omega)
    simp only [tm] at this
    rcases hxy with ⟨h1, rfl, rfl⟩ | ⟨h1, rfl, rfl⟩
    · rfl
    · simp at this; omega
set_option maxHeartbeats 2000000 in
theorem order_walk (d m d' m' : Int) (w : World) :
    Calls Try.prog 8 #[.agg #[.int .i64 d, .int .i64 m], .agg #[.int .i64 d', .int .i64 m']] w fun e w' => e = .returned (.bool true) ∧ New w w' := by
  have HA0 := Lib.hid ((Has.new w 38 #[.int .i64 d, .int .i64 m]).alloc (.cells #[.int .i64 d', .int .i64 m'] 38))
  have hb0 := Has.new (w.alloc (.cells #[.int .i64 d, .int .i64 m] 38)) 38 #[.int .i64 d', .int .i64 m']
  rw [World.size_alloc] at hb0
  have HB0 := Lib.hid hb0; clear hb0
  have HN0 : Hid (New w ((w.alloc (.cells #[.int .i64 d, .int .i64 m] 38)).alloc (.cells #[.int .i64 d', .int .i64 m'] 38))) := ((Chg.refl _ _).alloc _).alloc _
  by_cases hr : rightB d m = true
  · by_cases hr' : rightB d' m' = true
    · obtain ⟨r1, r2, r3, r4⟩ := rightB_true hr
      obtain ⟨q1, q2, q3, q4⟩ := rightB_true hr'
      have hB1 := fun w => Between_any d m d' m' w (by omega) (by omega) (by omega) (by omega) (by omega) (by omega) (by omega) (by omega)
      have hB2 := fun w => Between_any d' m' d m w (by omega) (by omega) (by omega) (by omega) (by omega) (by omega) (by omega) (by omega)
      obtain ⟨n, hn⟩ : ∃ n, n = d' * 1440 + m' - (d * 1440 + m) := ⟨_, rfl⟩
      have hn' : d * 1440 + m - (d' * 1440 + m') = -n := by omega
      rw [← hn] at hB1
      rw [hn'] at hB2
      have HBT := Lib.hid hB1; clear hB1
      have HBU := Lib.hid hB2; clear hB2
      have hnl : -94371839 ≤ n := by omega
      have hnu : n ≤ 94371839 := by omega
      by_cases hgt : 0 < n
      · have HL1 := Lib.hid (fun w hh he => Latest_two d m d' m' w hh he hr hr' d' m' (Or.inl ⟨by omega, rfl, rfl⟩))
        have HL2 := Lib.hid (fun w hh he => Latest_two d' m' d m w hh he hr' hr d' m' (Or.inr ⟨by omega, rfl, rfl⟩))
        have hne : ¬ (d = d' ∧ m = m') := by omega
        have hn0 : (n == 0) = false := by rw [beq_eq_false_iff_ne]; omega
        clear hn hn'
        have hcase : (d == d') = false ∨ ((d == d') = true ∧ (m == m') = false) := by
          simp only [beq_eq_false_iff_ne, beq_iff_eq]; omega
        rcases hcase with hdd | ⟨hdd, hmm⟩
        all_goals
          go_enter Try.func8, Try.ntmps8
          go_wp2_with fail
          with_reducible refine (awake_any _).mono ?_
          rintro e w1 ⟨rfl, hN1⟩
          have ha1 := HA0.out.keep hN1
          have hb1 := HB0.out.keep hN1
          have hc0 := ha1.cell 0
          have hc1 := ha1.cell 1
          have hd0 := hb1.cell 0
          have hd1 := hb1.cell 1
          simp at hc0 hc1 hd0 hd1
          have HA1 := Lib.hid ha1; clear ha1
          have HB1 := Lib.hid hb1; clear hb1
          have HN1 := Lib.hid hN1; clear hN1
          go_wp2_with fail
          with_reducible refine (Right_any _ _ _).mono ?_
          rintro e w2 ⟨rfl, rfl⟩
          clear hc0 hc1 hd0 hd1
          have ha2 := HA1.out.alloc (.cells #[.int .i64 d, .int .i64 m] 38)
          have hb2 := HB1.out.alloc (.cells #[.int .i64 d, .int .i64 m] 38)
          have hc0 := ha2.cell 0
          have hc1 := ha2.cell 1
          have hd0 := hb2.cell 0
          have hd1 := hb2.cell 1
          simp at hc0 hc1 hd0 hd1
          have HA2 := Lib.hid ha2; clear ha2
          have HB2 := Lib.hid hb2; clear hb2
          go_wp2_with fail
          with_reducible refine (Right_any _ _ _).mono ?_
          rintro e w3 ⟨rfl, rfl⟩
          clear hc0 hc1 hd0 hd1
          have ha3 := HA2.out.alloc (.cells #[.int .i64 d', .int .i64 m'] 38)
          have hb3 := HB2.out.alloc (.cells #[.int .i64 d', .int .i64 m'] 38)
          have hc0 := ha3.cell 0
          have hc1 := ha3.cell 1
          have hd0 := hb3.cell 0
          have hd1 := hb3.cell 1
          simp at hc0 hc1 hd0 hd1
          have HA3 := Lib.hid ha3; clear ha3
          have HB3 := Lib.hid hb3; clear hb3
          go_wp2_with fail
          with_reducible refine (HBT.out _).mono ?_
          rintro e w4 ⟨rfl, hN4⟩
          clear hc0 hc1 hd0 hd1
          have ha4 := HA3.out.keep hN4
          have hb4 := HB3.out.keep hN4
          have hc0 := ha4.cell 0
          have hc1 := ha4.cell 1
          have hd0 := hb4.cell 0
          have hd1 := hb4.cell 1
          simp at hc0 hc1 hd0 hd1
          have HA4 := Lib.hid ha4; clear ha4
          have HB4 := Lib.hid hb4; clear hb4
          have HN4 := Lib.hid hN4; clear hN4
          go_wp2_with fail
          with_reducible refine (HL1.out _ _ rfl).mono ?_
          rintro e w5 ⟨rfl, hN5⟩
          clear hc0 hc1 hd0 hd1
          have ha5 := (HA4.out.keep hN5).alloc (.cells #[.int .i64 d', .int .i64 m'] 38)
          have hb5 := (HB4.out.keep hN5).alloc (.cells #[.int .i64 d', .int .i64 m'] 38)
          have hc0 := ha5.cell 0
          have hc1 := ha5.cell 1
          have hd0 := hb5.cell 0
          have hd1 := hb5.cell 1
          simp at hc0 hc1 hd0 hd1
          have HA5 := Lib.hid ha5; clear ha5
          have HB5 := Lib.hid hb5; clear hb5
          have HX5 := Lib.hid (Has.new w5 38 #[.int .i64 d', .int .i64 m'])
          have HN5 := Lib.hid hN5; clear hN5
          obtain ⟨bl, hbl⟩ : ∃ bl, bl = w5.heap.size := ⟨_, rfl⟩
          have hsz : (w5.alloc (.cells #[.int .i64 d', .int .i64 m'] 38)).heap.size = w5.heap.size + 1 := by simp
          go_wp2_with fail
          with_reducible refine (HL2.out _ _ hsz).mono ?_
          rintro e w6 ⟨rfl, hN6⟩
          clear hsz
          clear hc0 hc1 hd0 hd1
          have ha6 := (HA5.out.keep hN6).alloc (.cells #[.int .i64 d', .int .i64 m'] 38)
          have hb6 := (HB5.out.keep hN6).alloc (.cells #[.int .i64 d', .int .i64 m'] 38)
          have hc0 := ha6.cell 0
          have hc1 := ha6.cell 1
          have hd0 := hb6.cell 0
          have hd1 := hb6.cell 1
          simp at hc0 hc1 hd0 hd1
          have HA6 := Lib.hid ha6; clear ha6
          have HB6 := Lib.hid hb6; clear hb6
          have hx6 := HX5.out.keep hN6
          rw [← hbl] at hx6 ⊢
          have hxl := hx6.lt
          have hal := HA6.out.lt
          have hbl6 := HB6.out.lt
          have hx0 := hx6.cell 0
          have hx1 := hx6.cell 1
          simp at hx0 hx1 hal hbl6
          have HX6 := Lib.hid hx6; clear hx6
          have HN6 := Lib.hid hN6; clear hN6 hbl
          clear hc0 hc1 hd0 hd1
          have ha7 := HA5.out.keep HN6.out
          have hb7 := HB5.out.keep HN6.out
          have hal := ha7.lt
          have hbl7 := hb7.lt
          have hc0 := ha7.cell 0
          have hc1 := ha7.cell 1
          have hd0 := hb7.cell 0
          have hd1 := hb7.cell 1
          simp at hc0 hc1 hd0 hd1
          have HA7 := Lib.hid ha7; clear ha7
          have HB7 := Lib.hid hb7; clear hb7
          go_wp2_with fail
          with_reducible refine (HBU.out _).mono ?_
          rintro e w8 ⟨rfl, hN8⟩
          clear hc0 hc1 hd0 hd1 hx0 hx1
          have hq : New w6 w8 := Chg.new_then (((Chg.refl _ _).alloc _).alloc _) hN8
          have hc0 := (HA7.out.keep hq).cell 0
          have hc1 := (HA7.out.keep hq).cell 1
          have hd0 := (HB7.out.keep hq).cell 0
          have hd1 := (HB7.out.keep hq).cell 1
          simp at hc0 hc1 hd0 hd1
          have HQ := Lib.hid hq; clear hq hN8
          go_wp2
          go_ret
          refine ⟨rfl, ?_⟩
          have n1 : New w w4 := (((HN0.out.then_new HN1.out).alloc _).alloc _).then_new HN4.out
          exact (((n1.then_new HN5.out).alloc _).then_new HN6.out).then_new HQ.out
      · by_cases hlt : n < 0
        · have HL1 := Lib.hid (fun w hh he => Latest_two d m d' m' w hh he hr hr' d m (Or.inr ⟨by omega, rfl, rfl⟩))
          have HL2 := Lib.hid (fun w hh he => Latest_two d' m' d m w hh he hr' hr d m (Or.inl ⟨by omega, rfl, rfl⟩))
          have hne : ¬ (d = d' ∧ m = m') := by omega
          have hn0 : (n == 0) = false := by rw [beq_eq_false_iff_ne]; omega
          clear hn hn'
          have hcase : (d == d') = false ∨ ((d == d') = true ∧ (m == m') = false) := by
            simp only [beq_eq_false_iff_ne, beq_iff_eq]; omega
          rcases hcase with hdd | ⟨hdd, hmm⟩
          all_goals
            go_enter Try.func8, Try.ntmps8
            go_wp2_with fail
            with_reducible refine (awake_any _).mono ?_
            rintro e w1 ⟨rfl, hN1⟩
            have ha1 := HA0.out.keep hN1
            have hb1 := HB0.out.keep hN1
            have hc0 := ha1.cell 0
            have hc1 := ha1.cell 1
            have hd0 := hb1.cell 0
            have hd1 := hb1.cell 1
            simp at hc0 hc1 hd0 hd1
            have HA1 := Lib.hid ha1; clear ha1
            have HB1 := Lib.hid hb1; clear hb1
            have HN1 := Lib.hid hN1; clear hN1
            go_wp2_with fail
            with_reducible refine (Right_any _ _ _).mono ?_
            rintro e w2 ⟨rfl, rfl⟩
            clear hc0 hc1 hd0 hd1
            have ha2 := HA1.out.alloc (.cells #[.int .i64 d, .int .i64 m] 38)
            have hb2 := HB1.out.alloc (.cells #[.int .i64 d, .int .i64 m] 38)
            have hc0 := ha2.cell 0
            have hc1 := ha2.cell 1
            have hd0 := hb2.cell 0
            have hd1 := hb2.cell 1
            simp at hc0 hc1 hd0 hd1
            have HA2 := Lib.hid ha2; clear ha2
            have HB2 := Lib.hid hb2; clear hb2
            go_wp2_with fail
            with_reducible refine (Right_any _ _ _).mono ?_
            rintro e w3 ⟨rfl, rfl⟩
            clear hc0 hc1 hd0 hd1
            have ha3 := HA2.out.alloc (.cells #[.int .i64 d', .int .i64 m'] 38)
            have hb3 := HB2.out.alloc (.cells #[.int .i64 d', .int .i64 m'] 38)
            have hc0 := ha3.cell 0
            have hc1 := ha3.cell 1
            have hd0 := hb3.cell 0
            have hd1 := hb3.cell 1
            simp at hc0 hc1 hd0 hd1
            have HA3 := Lib.hid ha3; clear ha3
            have HB3 := Lib.hid hb3; clear hb3
            go_wp2_with fail
            with_reducible refine (HBT.out _).mono ?_
            rintro e w4 ⟨rfl, hN4⟩
            clear hc0 hc1 hd0 hd1
            have ha4 := HA3.out.keep hN4
            have hb4 := HB3.out.keep hN4
            have hc0 := ha4.cell 0
            have hc1 := ha4.cell 1
            have hd0 := hb4.cell 0
            have hd1 := hb4.cell 1
            simp at hc0 hc1 hd0 hd1
            have HA4 := Lib.hid ha4; clear ha4
            have HB4 := Lib.hid hb4; clear hb4
            have HN4 := Lib.hid hN4; clear hN4
            go_wp2_with fail
            with_reducible refine (HL1.out _ _ rfl).mono ?_
            rintro e w5 ⟨rfl, hN5⟩
            clear hc0 hc1 hd0 hd1
            have ha5 := (HA4.out.keep hN5).alloc (.cells #[.int .i64 d, .int .i64 m] 38)
            have hb5 := (HB4.out.keep hN5).alloc (.cells #[.int .i64 d, .int .i64 m] 38)
            have hc0 := ha5.cell 0
            have hc1 := ha5.cell 1
            have hd0 := hb5.cell 0
            have hd1 := hb5.cell 1
            simp at hc0 hc1 hd0 hd1
            have HA5 := Lib.hid ha5; clear ha5
            have HB5 := Lib.hid hb5; clear hb5
            have HX5 := Lib.hid (Has.new w5 38 #[.int .i64 d, .int .i64 m])
            have HN5 := Lib.hid hN5; clear hN5
            obtain ⟨bl, hbl⟩ : ∃ bl, bl = w5.heap.size := ⟨_, rfl⟩
            have hsz : (w5.alloc (.cells #[.int .i64 d, .int .i64 m] 38)).heap.size = w5.heap.size + 1 := by simp
            go_wp2_with fail
            with_reducible refine (HL2.out _ _ hsz).mono ?_
            rintro e w6 ⟨rfl, hN6⟩
            clear hsz
            clear hc0 hc1 hd0 hd1
            have ha6 := (HA5.out.keep hN6).alloc (.cells #[.int .i64 d, .int .i64 m] 38)
            have hb6 := (HB5.out.keep hN6).alloc (.cells #[.int .i64 d, .int .i64 m] 38)
            have hc0 := ha6.cell 0
            have hc1 := ha6.cell 1
            have hd0 := hb6.cell 0
            have hd1 := hb6.cell 1
            simp at hc0 hc1 hd0 hd1
            have HA6 := Lib.hid ha6; clear ha6
            have HB6 := Lib.hid hb6; clear hb6
            have hx6 := HX5.out.keep hN6
            rw [← hbl] at hx6 ⊢
            have hxl := hx6.lt
            have hal := HA6.out.lt
            have hbl6 := HB6.out.lt
            have hx0 := hx6.cell 0
            have hx1 := hx6.cell 1
            simp at hx0 hx1 hal hbl6
            have HX6 := Lib.hid hx6; clear hx6
            have HN6 := Lib.hid hN6; clear hN6 hbl
            clear hc0 hc1 hd0 hd1
            have ha7 := HA5.out.keep HN6.out
            have hb7 := HB5.out.keep HN6.out
            have hal := ha7.lt
            have hbl7 := hb7.lt
            have hc0 := ha7.cell 0
            have hc1 := ha7.cell 1
            have hd0 := hb7.cell 0
            have hd1 := hb7.cell 1
            simp at hc0 hc1 hd0 hd1
            have HA7 := Lib.hid ha7; clear ha7
            have HB7 := Lib.hid hb7; clear hb7
            go_wp2_with fail
            with_reducible refine (HBU.out _).mono ?_
            rintro e w8 ⟨rfl, hN8⟩
            clear hc0 hc1 hd0 hd1 hx0 hx1
            have hq : New w6 w8 := Chg.new_then (((Chg.refl _ _).alloc _).alloc _) hN8
            have hc0 := (HA7.out.keep hq).cell 0
            have hc1 := (HA7.out.keep hq).cell 1
            have hd0 := (HB7.out.keep hq).cell 0
            have hd1 := (HB7.out.keep hq).cell 1
            simp at hc0 hc1 hd0 hd1
            have HQ := Lib.hid hq; clear hq hN8
            go_wp2
            go_ret
            refine ⟨rfl, ?_⟩
            have n1 : New w w4 := (((HN0.out.then_new HN1.out).alloc _).alloc _).then_new HN4.out
            exact (((n1.then_new HN5.out).alloc _).then_new HN6.out).then_new HQ.out
        · have hdd : d' = d := by omega
          have hmm : m' = m := by omega
          have hnn : n = 0 := by omega
          subst hdd
          subst hmm
          subst hnn
          have HL1 := Lib.hid (fun w hh he => Latest_two d' m' d' m' w hh he hr hr d' m' (Or.inr ⟨by omega, rfl, rfl⟩))
          have HL2 := Lib.hid (fun w hh he => Latest_two d' m' d' m' w hh he hr hr d' m' (Or.inr ⟨by omega, rfl, rfl⟩))
          clear hn hn'
          go_enter Try.func8, Try.ntmps8
          go_wp2_with fail
          with_reducible refine (awake_any _).mono ?_
          rintro e w1 ⟨rfl, hN1⟩
          have ha1 := HA0.out.keep hN1
          have hb1 := HB0.out.keep hN1
          have hc0 := ha1.cell 0
          have hc1 := ha1.cell 1
          have hd0 := hb1.cell 0
          have hd1 := hb1.cell 1
          simp at hc0 hc1 hd0 hd1
          have HA1 := Lib.hid ha1; clear ha1
          have HB1 := Lib.hid hb1; clear hb1
          have HN1 := Lib.hid hN1; clear hN1
          go_wp2_with fail
          with_reducible refine (Right_any _ _ _).mono ?_
          rintro e w2 ⟨rfl, rfl⟩
          clear hc0 hc1 hd0 hd1
          have ha2 := HA1.out.alloc (.cells #[.int .i64 d', .int .i64 m'] 38)
          have hb2 := HB1.out.alloc (.cells #[.int .i64 d', .int .i64 m'] 38)
          have hc0 := ha2.cell 0
          have hc1 := ha2.cell 1
          have hd0 := hb2.cell 0
          have hd1 := hb2.cell 1
          simp at hc0 hc1 hd0 hd1
          have HA2 := Lib.hid ha2; clear ha2
          have HB2 := Lib.hid hb2; clear hb2
          go_wp2_with fail
          with_reducible refine (Right_any _ _ _).mono ?_
          rintro e w3 ⟨rfl, rfl⟩
          clear hc0 hc1 hd0 hd1
          have ha3 := HA2.out.alloc (.cells #[.int .i64 d', .int .i64 m'] 38)
          have hb3 := HB2.out.alloc (.cells #[.int .i64 d', .int .i64 m'] 38)
          have hc0 := ha3.cell 0
          have hc1 := ha3.cell 1
          have hd0 := hb3.cell 0
          have hd1 := hb3.cell 1
          simp at hc0 hc1 hd0 hd1
          have HA3 := Lib.hid ha3; clear ha3
          have HB3 := Lib.hid hb3; clear hb3
          go_wp2_with fail
          with_reducible refine (HBT.out _).mono ?_
          rintro e w4 ⟨rfl, hN4⟩
          clear hc0 hc1 hd0 hd1
          have ha4 := HA3.out.keep hN4
          have hb4 := HB3.out.keep hN4
          have hc0 := ha4.cell 0
          have hc1 := ha4.cell 1
          have hd0 := hb4.cell 0
          have hd1 := hb4.cell 1
          simp at hc0 hc1 hd0 hd1
          have HA4 := Lib.hid ha4; clear ha4
          have HB4 := Lib.hid hb4; clear hb4
          have HN4 := Lib.hid hN4; clear hN4
          go_wp2_with fail
          with_reducible refine (HL1.out _ _ rfl).mono ?_
          rintro e w5 ⟨rfl, hN5⟩
          clear hc0 hc1 hd0 hd1
          have ha5 := (HA4.out.keep hN5).alloc (.cells #[.int .i64 d', .int .i64 m'] 38)
          have hb5 := (HB4.out.keep hN5).alloc (.cells #[.int .i64 d', .int .i64 m'] 38)
          have hc0 := ha5.cell 0
          have hc1 := ha5.cell 1
          have hd0 := hb5.cell 0
          have hd1 := hb5.cell 1
          simp at hc0 hc1 hd0 hd1
          have HA5 := Lib.hid ha5; clear ha5
          have HB5 := Lib.hid hb5; clear hb5
          have HX5 := Lib.hid (Has.new w5 38 #[.int .i64 d', .int .i64 m'])
          have HN5 := Lib.hid hN5; clear hN5
          obtain ⟨bl, hbl⟩ : ∃ bl, bl = w5.heap.size := ⟨_, rfl⟩
          have hsz : (w5.alloc (.cells #[.int .i64 d', .int .i64 m'] 38)).heap.size = w5.heap.size + 1 := by simp
          go_wp2_with fail
          with_reducible refine (HL2.out _ _ hsz).mono ?_
          rintro e w6 ⟨rfl, hN6⟩
          clear hsz
          clear hc0 hc1 hd0 hd1
          have ha6 := (HA5.out.keep hN6).alloc (.cells #[.int .i64 d', .int .i64 m'] 38)
          have hb6 := (HB5.out.keep hN6).alloc (.cells #[.int .i64 d', .int .i64 m'] 38)
          have hc0 := ha6.cell 0
          have hc1 := ha6.cell 1
          have hd0 := hb6.cell 0
          have hd1 := hb6.cell 1
          simp at hc0 hc1 hd0 hd1
          have HA6 := Lib.hid ha6; clear ha6
          have HB6 := Lib.hid hb6; clear hb6
          have hx6 := HX5.out.keep hN6
          rw [← hbl] at hx6 ⊢
          have hxl := hx6.lt
          have hal := HA6.out.lt
          have hbl6 := HB6.out.lt
          have hx0 := hx6.cell 0
          have hx1 := hx6.cell 1
          simp at hx0 hx1 hal hbl6
          have HX6 := Lib.hid hx6; clear hx6
          have HN6 := Lib.hid hN6; clear hN6 hbl
          clear hc0 hc1 hd0 hd1
          have ha7 := HA5.out.keep HN6.out
          have hb7 := HB5.out.keep HN6.out
          have hal := ha7.lt
          have hbl7 := hb7.lt
          have hc0 := ha7.cell 0
          have hc1 := ha7.cell 1
          have hd0 := hb7.cell 0
          have hd1 := hb7.cell 1
          simp at hc0 hc1 hd0 hd1
          have HA7 := Lib.hid ha7; clear ha7
          have HB7 := Lib.hid hb7; clear hb7
          go_wp2_with fail
          with_reducible refine (HBU.out _).mono ?_
          rintro e w8 ⟨rfl, hN8⟩
          clear hc0 hc1 hd0 hd1 hx0 hx1
          have hq : New w6 w8 := Chg.new_then (((Chg.refl _ _).alloc _).alloc _) hN8
          have hc0 := (HA7.out.keep hq).cell 0
          have hc1 := (HA7.out.keep hq).cell 1
          have hd0 := (HB7.out.keep hq).cell 0
          have hd1 := (HB7.out.keep hq).cell 1
          simp at hc0 hc1 hd0 hd1
          have HQ := Lib.hid hq; clear hq hN8
          go_wp2
          go_ret
          refine ⟨rfl, ?_⟩
          have n1 : New w w4 := (((HN0.out.then_new HN1.out).alloc _).alloc _).then_new HN4.out
          exact (((n1.then_new HN5.out).alloc _).then_new HN6.out).then_new HQ.out
    · have hr' : rightB d' m' = false := by simpa using hr'
      go_enter Try.func8, Try.ntmps8
      go_wp2_with fail
      with_reducible refine (awake_any _).mono ?_
      rintro e w1 ⟨rfl, hN1⟩
      have ha1 := HA0.out.keep hN1
      have hb1 := HB0.out.keep hN1
      have hc0 := ha1.cell 0
      have hc1 := ha1.cell 1
      have hd0 := hb1.cell 0
      have hd1 := hb1.cell 1
      simp at hc0 hc1 hd0 hd1
      have HA1 := Lib.hid ha1; clear ha1
      have HB1 := Lib.hid hb1; clear hb1
      have HN1 := Lib.hid hN1; clear hN1
      go_wp2_with fail
      with_reducible refine (Right_any _ _ _).mono ?_
      rintro e w2 ⟨rfl, rfl⟩
      clear hc0 hc1 hd0 hd1
      have ha2 := HA1.out.alloc (.cells #[.int .i64 d, .int .i64 m] 38)
      have hb2 := HB1.out.alloc (.cells #[.int .i64 d, .int .i64 m] 38)
      have hc0 := ha2.cell 0
      have hc1 := ha2.cell 1
      have hd0 := hb2.cell 0
      have hd1 := hb2.cell 1
      simp at hc0 hc1 hd0 hd1
      have HA2 := Lib.hid ha2; clear ha2
      have HB2 := Lib.hid hb2; clear hb2
      go_wp2_with fail
      with_reducible refine (Right_any _ _ _).mono ?_
      rintro e w3 ⟨rfl, rfl⟩
      go_wp2_with fail
      with_reducible refine (awake_any _).mono ?_
      rintro e w9 ⟨rfl, hN9⟩
      have HN9 := Lib.hid hN9; clear hN9
      go_wp2
      go_ret
      exact ⟨rfl, (((HN0.out.then_new HN1.out).alloc _).alloc _).then_new HN9.out⟩
  · have hr : rightB d m = false := by simpa using hr
    go_enter Try.func8, Try.ntmps8
    go_wp2_with fail
    with_reducible refine (awake_any _).mono ?_
    rintro e w1 ⟨rfl, hN1⟩
    have ha1 := HA0.out.keep hN1
    have hb1 := HB0.out.keep hN1
    have hc0 := ha1.cell 0
    have hc1 := ha1.cell 1
    have hd0 := hb1.cell 0
    have hd1 := hb1.cell 1
    simp at hc0 hc1 hd0 hd1
    have HA1 := Lib.hid ha1; clear ha1
    have HB1 := Lib.hid hb1; clear hb1
    have HN1 := Lib.hid hN1; clear hN1
    go_wp2_with fail
    with_reducible refine (Right_any _ _ _).mono ?_
    rintro e w2 ⟨rfl, rfl⟩
    go_wp2_with fail
    with_reducible refine (awake_any _).mono ?_
    rintro e w9 ⟨rfl, hN9⟩
    have HN9 := Lib.hid hN9; clear hN9
    go_wp2
    go_ret
    exact ⟨rfl, ((HN0.out.then_new HN1.out).alloc _).then_new HN9.out⟩
theorem order_law {W : World} (d m : Int) (_ : (Lit.int .i64 d).wf = true) (_ : (Lit.int .i64 m).wf = true) (d' m' : Int) (_ : (Lit.int .i64 d').wf = true) (_ : (Lit.int .i64 m').wf = true) :
    Calls Try.prog 8 #[.agg #[.int .i64 d, .int .i64 m], .agg #[.int .i64 d', .int .i64 m']] W fun e w' => e = .returned (.bool true) ∧ New W w' := order_walk d m d' m' W
end Go.Proofs.Ytcnnakidpnhecaa
