/-
  What the law StampAdds does: it returns true and turns nothing that was there.
-/
import Derived.Test.YtcnnakidpnhecaaLBack
namespace Go.Proofs.Ytcnnakidpnhecaa
open Go.RowKit
theorem day_min (x : Int) (h0 : 0 ≤ x) (h1 : x ≤ 94371839) : rightB (x / 1440) (x % 1440) = true := by
  unfold rightB; rw [decide_eq_true_eq]; omega
set_option maxHeartbeats 2000000 in
theorem adds_walk (d m n : Int) (w : World) :
    Calls Try.prog 6 #[.agg #[.int .i64 d, .int .i64 m], .int .i64 n] w fun e w' => e = .returned (.bool true) ∧ New w w' := by
  have hst := Has.new w 38 #[.int .i64 d, .int .i64 m]
  have HST := Lib.hid hst; clear hst
  by_cases hr : rightB d m = true
  · obtain ⟨r1, r2, r3, r4⟩ := rightB_true hr
    by_cases ho : n < -(d * 1440 + m) ∨ 94371839 - (d * 1440 + m) < n
    · have HA := Lib.hid (fun w => Add_over d m n w hr ho)
      have HR := Lib.hid hr; clear hr
      obtain ⟨t, ht⟩ : ∃ t, t = d * 1440 + m := ⟨_, rfl⟩
      rw [← ht] at ho
      have ht0 : 0 ≤ t := by omega
      have ht1 : t ≤ 94371839 := by omega
      have hov : (decide (n < -(d * 1440 + m)) || decide (94371839 - (d * 1440 + m) < n)) = true := by
        rw [← ht, Bool.or_eq_true, decide_eq_true_eq, decide_eq_true_eq]; exact ho
      have hcase : decide (n < -(d * 1440 + m)) = true ∨ (decide (n < -(d * 1440 + m)) = false ∧ decide (94371839 - (d * 1440 + m) < n) = true) := by
        cases h : decide (n < -(d * 1440 + m)) with
        | true => exact Or.inl rfl
        | false => rw [h] at hov; exact Or.inr ⟨rfl, by simpa using hov⟩
      clear hov ho
      have HT := Lib.hid ht; clear ht
      rcases hcase with hx | ⟨hx, hy⟩
      all_goals
        go_enter Try.func6, Try.ntmps6
        go_wp2_with fail
        with_reducible refine (awake_any _).mono ?_
        rintro e w1 ⟨rfl, hN1⟩
        have hst1 := HST.out.keep hN1
        have hc0 := hst1.cell 0
        have hc1 := hst1.cell 1
        simp at hc0 hc1
        have HST1 := Lib.hid hst1; clear hst1
        have HN1 := Lib.hid hN1; clear hN1
        go_wp2_with fail
        with_reducible refine (HA.out _).mono ?_
        rintro e w2 ⟨rfl, hN2⟩
        have hst2 := (HST1.out.keep hN2).alloc (.cells #[.int .i64 0, .int .i64 0] 38)
        clear hc0 hc1
        have hc0 := hst2.cell 0
        have hc1 := hst2.cell 1
        simp at hc0 hc1
        have HST2 := Lib.hid hst2; clear hst2
        have HN2 := Lib.hid hN2; clear hN2
        have hrt := HR.out
        go_wp2_with fail
        with_reducible refine (refRight_any _ _ _).mono ?_
        rintro e w3 ⟨rfl, rfl⟩
        have hst3 := HST2.out.alloc (.cells #[.int .i64 d, .int .i64 m] 38)
        clear hc0 hc1
        have hc0 := hst3.cell 0
        have hc1 := hst3.cell 1
        simp at hc0 hc1
        clear hst3
        go_wp2
        go_ret
        exact ⟨rfl, ((Chg.new_then ((Chg.refl _ _).alloc _) (HN1.out.then_new HN2.out)).alloc _).alloc _⟩
    · have hA1 := fun w => Add_ok d m n w hr (by omega) (by omega)
      have h0 : 0 ≤ d * 1440 + m + n := by omega
      have h1 : d * 1440 + m + n ≤ 94371839 := by omega
      have hdm := day_min _ h0 h1
      obtain ⟨D, hD⟩ : ∃ D, D = (d * 1440 + m + n) / 1440 := ⟨_, rfl⟩
      obtain ⟨M, hM⟩ : ∃ M, M = (d * 1440 + m + n) % 1440 := ⟨_, rfl⟩
      rw [← hD, ← hM] at hA1 hdm
      have hDM : D * 1440 + M = d * 1440 + m + n := by omega
      obtain ⟨q1, q2, q3, q4⟩ := rightB_true hdm
      have hA2 := fun w => Add_ok D M (-n) w hdm (by omega) (by omega)
      have e1 : (D * 1440 + M + -n) / 1440 = d := by omega
      have e2 : (D * 1440 + M + -n) % 1440 = m := by omega
      rw [e1, e2] at hA2
      have hB1 := fun w => Between_any d m D M w (by omega) (by omega) (by omega) (by omega) (by omega) (by omega) (by omega) (by omega)
      have e3 : D * 1440 + M - (d * 1440 + m) = n := by omega
      rw [e3] at hB1
      have hB2 := fun w => Between_any D M d m w (by omega) (by omega) (by omega) (by omega) (by omega) (by omega) (by omega) (by omega)
      have e4 : d * 1440 + m - (D * 1440 + M) = -n := by omega
      rw [e4] at hB2
      have hx : decide (n < -(d * 1440 + m)) = false := by rw [decide_eq_false_iff_not]; omega
      have hy : decide (94371839 - (d * 1440 + m) < n) = false := by rw [decide_eq_false_iff_not]; omega
      have hn1 : -94371839 ≤ n := by omega
      have hn2 : n ≤ 94371839 := by omega
      have heqB : ((D * 1440 + M) == (d * 1440 + m + n)) = true := by rw [beq_iff_eq]; exact hDM
      have HA1 := Lib.hid hA1; clear hA1
      have HA2 := Lib.hid hA2; clear hA2
      have HB1 := Lib.hid hB1; clear hB1
      have HB2 := Lib.hid hB2; clear hB2
      have HR := Lib.hid hr; clear hr
      have HR' := Lib.hid hdm; clear hdm
      clear e1 e2 e3 e4 hDM hD hM ho
      go_enter Try.func6, Try.ntmps6
      go_wp2_with fail
      with_reducible refine (awake_any _).mono ?_
      rintro e w1 ⟨rfl, hN1⟩
      have hst1 := HST.out.keep hN1
      have hc0 := hst1.cell 0
      have hc1 := hst1.cell 1
      simp at hc0 hc1
      have HST1 := Lib.hid hst1; clear hst1
      have HN1 := Lib.hid hN1; clear hN1
      go_wp2_with fail
      with_reducible refine (HA1.out _).mono ?_
      rintro e w2 ⟨rfl, hN2⟩
      have hst2 := (HST1.out.keep hN2).alloc (.cells #[.int .i64 D, .int .i64 M] 38)
      have htt2 := Has.new w2 38 #[.int .i64 D, .int .i64 M]
      clear hc0 hc1
      have hc0 := hst2.cell 0
      have hc1 := hst2.cell 1
      simp at hc0 hc1
      have HST2 := Lib.hid hst2; clear hst2
      have HTT2 := Lib.hid htt2; clear htt2
      have HN2 := Lib.hid hN2; clear hN2
      have hrt := HR.out
      go_wp2_with fail
      with_reducible refine (refRight_any _ _ _).mono ?_
      rintro e w3 ⟨rfl, rfl⟩
      have hst3 := HST2.out.alloc (.cells #[.int .i64 d, .int .i64 m] 38)
      have htt3 := HTT2.out.alloc (.cells #[.int .i64 d, .int .i64 m] 38)
      obtain ⟨bt, hbt⟩ : ∃ bt, bt = w2.heap.size := ⟨_, rfl⟩
      rw [← hbt] at htt3 ⊢
      clear hbt hc0 hc1
      have hc0 := hst3.cell 0
      have hc1 := hst3.cell 1
      have hd0 := htt3.cell 0
      have hd1 := htt3.cell 1
      simp at hc0 hc1 hd0 hd1
      have HST3 := Lib.hid hst3; clear hst3
      have HTT3 := Lib.hid htt3; clear htt3
      go_wp2_with fail
      with_reducible refine (HA2.out _).mono ?_
      rintro e w4 ⟨rfl, hN4⟩
      have hst4 := (HST3.out.keep hN4).alloc (.cells #[.int .i64 d, .int .i64 m] 38)
      have htt4 := (HTT3.out.keep hN4).alloc (.cells #[.int .i64 d, .int .i64 m] 38)
      clear hc0 hc1 hd0 hd1
      have hc0 := hst4.cell 0
      have hc1 := hst4.cell 1
      have hd0 := htt4.cell 0
      have hd1 := htt4.cell 1
      simp at hc0 hc1 hd0 hd1
      have HST4 := Lib.hid hst4; clear hst4
      have HTT4 := Lib.hid htt4; clear htt4
      have HN4 := Lib.hid hN4; clear hN4
      have hrt' := HR'.out
      go_wp2_with fail
      with_reducible refine (refRight_any _ _ _).mono ?_
      rintro e w5 ⟨rfl, rfl⟩
      have hst5 := HST4.out.alloc (.cells #[.int .i64 D, .int .i64 M] 38)
      have htt5 := HTT4.out.alloc (.cells #[.int .i64 D, .int .i64 M] 38)
      clear hc0 hc1 hd0 hd1
      have hc0 := hst5.cell 0
      have hc1 := hst5.cell 1
      have hd0 := htt5.cell 0
      have hd1 := htt5.cell 1
      simp at hc0 hc1 hd0 hd1
      have HST5 := Lib.hid hst5; clear hst5
      have HTT5 := Lib.hid htt5; clear htt5
      go_wp2_with fail
      with_reducible refine (HB1.out _).mono ?_
      rintro e w6 ⟨rfl, hN6⟩
      have hst6 := HST5.out.keep hN6
      have htt6 := HTT5.out.keep hN6
      clear hc0 hc1 hd0 hd1
      have hc0 := hst6.cell 0
      have hc1 := hst6.cell 1
      have hd0 := htt6.cell 0
      have hd1 := htt6.cell 1
      simp at hc0 hc1 hd0 hd1
      have HST6 := Lib.hid hst6; clear hst6
      have HTT6 := Lib.hid htt6; clear htt6
      have HN6 := Lib.hid hN6; clear hN6
      go_wp2_with fail
      with_reducible refine (HB2.out _).mono ?_
      rintro e w7 ⟨rfl, hN7⟩
      have hst7 := HST6.out.keep hN7
      have htt7 := HTT6.out.keep hN7
      clear hc0 hc1 hd0 hd1
      have hc0 := hst7.cell 0
      have hc1 := hst7.cell 1
      have hd0 := htt7.cell 0
      have hd1 := htt7.cell 1
      simp at hc0 hc1 hd0 hd1
      have HN7 := Lib.hid hN7; clear hN7 hst7 htt7
      go_wp2
      go_ret
      refine ⟨rfl, ?_⟩
      have h1 : New w w2 := Chg.new_then ((Chg.refl _ _).alloc _) (HN1.out.then_new HN2.out)
      have h2 : New w w4 := ((h1.alloc _).alloc _).then_new HN4.out
      exact (((h2.alloc _).alloc _).then_new HN6.out).then_new HN7.out
  · have hr : rightB d m = false := by simpa using hr
    have HA := Lib.hid (fun w => Add_no d m n w hr)
    go_enter Try.func6, Try.ntmps6
    go_wp2_with fail
    with_reducible refine (awake_any _).mono ?_
    rintro e w1 ⟨rfl, hN1⟩
    have hst1 := HST.out.keep hN1
    have hc0 := hst1.cell 0
    have hc1 := hst1.cell 1
    simp at hc0 hc1
    have HST1 := Lib.hid hst1; clear hst1
    have HN1 := Lib.hid hN1; clear hN1
    go_wp2_with fail
    with_reducible refine (HA.out _).mono ?_
    rintro e w2 ⟨rfl, hN2⟩
    have hst2 := (HST1.out.keep hN2).alloc (.cells #[.int .i64 0, .int .i64 0] 38)
    clear hc0 hc1
    have hc0 := hst2.cell 0
    have hc1 := hst2.cell 1
    simp at hc0 hc1
    have HN2 := Lib.hid hN2; clear hN2 hst2
    go_wp2_with fail
    with_reducible refine (refRight_any _ _ _).mono ?_
    rintro e w3 ⟨rfl, rfl⟩
    go_wp2
    go_ret
    exact ⟨rfl, ((Chg.new_then ((Chg.refl _ _).alloc _) (HN1.out.then_new HN2.out)).alloc _).alloc _⟩
theorem adds_law {W : World} (d m : Int) (_ : (Lit.int .i64 d).wf = true) (_ : (Lit.int .i64 m).wf = true) (n : Int) (_ : (Lit.int .i64 n).wf = true) :
    Calls Try.prog 6 #[.agg #[.int .i64 d, .int .i64 m], .int .i64 n] W fun e w' => e = .returned (.bool true) ∧ New W w' := adds_walk d m n W
end Go.Proofs.Ytcnnakidpnhecaa
