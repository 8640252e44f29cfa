/-
  What the law StampSteps does: it returns true and turns nothing that was there.
-/
import Derived.Test.YtcnnakidpnhecaaLAdds
namespace Go.Proofs.Ytcnnakidpnhecaa
open Go.RowKit
/-- what Add comes to: day, minute, error -/
def addX (d m n : Int) : Int × Int × Int :=
  if rightB d m = true then (if 0 ≤ d * 1440 + m + n ∧ d * 1440 + m + n ≤ 94371839 then ((d * 1440 + m + n) / 1440, (d * 1440 + m + n) % 1440, 0) else (0, 0, 29)) else (0, 0, 2)
theorem Add_any (d m n : Int) (w : World) :
    Calls Try.prog 23 #[.agg #[.int .i64 d, .int .i64 m], .int .i64 n] w fun e w' => e = .returned (.tuple #[.agg #[.int .i64 (addX d m n).1, .int .i64 (addX d m n).2.1], .int .i64 (addX d m n).2.2]) ∧ New w w' := by
  by_cases hr : rightB d m = true
  · by_cases ho : 0 ≤ d * 1440 + m + n ∧ d * 1440 + m + n ≤ 94371839
    · have : addX d m n = ((d * 1440 + m + n) / 1440, (d * 1440 + m + n) % 1440, 0) := by unfold addX; rw [if_pos hr, if_pos ho]
      rw [this]
      exact Add_ok d m n w hr (by omega) (by omega)
    · have : addX d m n = (0, 0, 29) := by unfold addX; rw [if_pos hr, if_neg ho]
      rw [this]
      exact Add_over d m n w hr (by omega)
  · have : addX d m n = (0, 0, 2) := by unfold addX; rw [if_neg hr]
    rw [this]
    exact Add_no d m n w (by simpa using hr)
theorem addX_err (d m n : Int) (h : (addX d m n).2.2 ≠ 0) : (addX d m n).1 = 0 ∧ (addX d m n).2.1 = 0 := by
  unfold addX at h ⊢
  split
  · split
    · rename_i h1 h2; rw [if_pos h1, if_pos h2] at h; exact absurd rfl h
    · exact ⟨rfl, rfl⟩
  · exact ⟨rfl, rfl⟩
theorem addX_ok (d m n : Int) (h : (addX d m n).2.2 = 0) : rightB d m = true ∧ 0 ≤ d * 1440 + m + n ∧ d * 1440 + m + n ≤ 94371839 ∧ addX d m n = ((d * 1440 + m + n) / 1440, (d * 1440 + m + n) % 1440, 0) := by
  unfold addX at h ⊢
  by_cases h1 : rightB d m = true
  · rw [if_pos h1] at h ⊢
    by_cases h2 : 0 ≤ d * 1440 + m + n ∧ d * 1440 + m + n ≤ 94371839
    · rw [if_pos h2]
      exact ⟨h1, h2.1, h2.2, rfl⟩
    · rw [if_neg h2] at h; exact absurd h (by decide)
  · rw [if_neg h1] at h; exact absurd h (by decide)
theorem addX_twice (d m a b : Int) (h : (addX d m a).2.2 = 0) : addX (addX d m a).1 (addX d m a).2.1 b = addX d m (a + b) := by
  obtain ⟨h1, h2, h3, h4⟩ := addX_ok d m a h
  have h5 := day_min _ h2 h3
  rw [h4]
  have e : (d * 1440 + m + a) / 1440 * 1440 + (d * 1440 + m + a) % 1440 = d * 1440 + m + a := by omega
  unfold addX
  rw [if_pos h1, if_pos h5, e, Int.add_assoc (d * 1440 + m) a b]
set_option maxHeartbeats 2000000 in
theorem steps_far (d m a b : Int) (w : World) (h : a < -1099511627776 ∨ 1099511627776 < a ∨ b < -1099511627776 ∨ 1099511627776 < b) :
    Calls Try.prog 9 #[.agg #[.int .i64 d, .int .i64 m], .int .i64 a, .int .i64 b] w fun e w' => e = .returned (.bool true) ∧ New w w' := by
  have hcase : decide (a < -1099511627776) = true ∨ (decide (a < -1099511627776) = false ∧ decide (1099511627776 < a) = true) ∨ (decide (a < -1099511627776) = false ∧ decide (1099511627776 < a) = false ∧ decide (b < -1099511627776) = true)
      ∨ (decide (a < -1099511627776) = false ∧ decide (1099511627776 < a) = false ∧ decide (b < -1099511627776) = false ∧ decide (1099511627776 < b) = true) := by
    simp only [decide_eq_true_eq, decide_eq_false_iff_not]; omega
  clear h
  rcases hcase with h1 | ⟨h1, h2⟩ | ⟨h1, h2, h3⟩ | ⟨h1, h2, h3, h4⟩
  all_goals
    go_enter Try.func9, Try.ntmps9
    go_wp2_with fail
    with_reducible refine (awake_any _).mono ?_
    rintro e w1 ⟨rfl, hN1⟩
    have HN1 := Lib.hid hN1; clear hN1
    go_wp2_with fail
    with_reducible refine (awake_any _).mono ?_
    rintro e w2 ⟨rfl, hN2⟩
    have HN2 := Lib.hid hN2; clear hN2
    go_wp2
    go_ret
    exact ⟨rfl, Chg.new_then ((Chg.refl _ _).alloc _) (HN1.out.then_new HN2.out)⟩
set_option maxHeartbeats 2000000 in
theorem steps_near (d m a b : Int) (w : World) (h1 : -1099511627776 ≤ a) (h2 : a ≤ 1099511627776) (h3 : -1099511627776 ≤ b) (h4 : b ≤ 1099511627776) :
    Calls Try.prog 9 #[.agg #[.int .i64 d, .int .i64 m], .int .i64 a, .int .i64 b] w fun e w' => e = .returned (.bool true) ∧ New w w' := by
  have hst := Has.new w 38 #[.int .i64 d, .int .i64 m]
  have HST := Lib.hid hst; clear hst
  have g1 : decide (a < -1099511627776) = false := by rw [decide_eq_false_iff_not]; omega
  have g2 : decide (1099511627776 < a) = false := by rw [decide_eq_false_iff_not]; omega
  have g3 : decide (b < -1099511627776) = false := by rw [decide_eq_false_iff_not]; omega
  have g4 : decide (1099511627776 < b) = false := by rw [decide_eq_false_iff_not]; omega
  have hA := fun w => Add_any d m a w
  by_cases he : (addX d m a).2.2 = 0
  · have hA2 := fun w => Add_any (addX d m a).1 (addX d m a).2.1 b w
    rw [addX_twice d m a b he] at hA2
    have hA3 := fun w => Add_any d m (a + b) w
    rw [he] at hA
    obtain ⟨D, hD⟩ : ∃ D, D = (addX d m a).1 := ⟨_, rfl⟩
    obtain ⟨M, hM⟩ : ∃ M, M = (addX d m a).2.1 := ⟨_, rfl⟩
    rw [← hD, ← hM] at hA hA2
    obtain ⟨D', hD'⟩ : ∃ D, D = (addX d m (a + b)).1 := ⟨_, rfl⟩
    obtain ⟨M', hM'⟩ : ∃ M, M = (addX d m (a + b)).2.1 := ⟨_, rfl⟩
    obtain ⟨E', hE'⟩ : ∃ M, M = (addX d m (a + b)).2.2 := ⟨_, rfl⟩
    rw [← hD', ← hM', ← hE'] at hA2 hA3
    clear hD hM hD' hM' hE' he
    have HA := Lib.hid hA; clear hA
    have HA2 := Lib.hid hA2; clear hA2
    have HA3 := Lib.hid hA3; clear hA3
    go_enter Try.func9, Try.ntmps9
    go_wp2_with fail
    with_reducible refine (awake_any _).mono ?_
    rintro e w1 ⟨rfl, hN1⟩
    have hst1 := HST.out.keep hN1
    have hc0 := hst1.cell 0
    have hc1 := hst1.cell 1
    simp at hc0 hc1
    have HST1 := Lib.hid hst1; clear hst1
    have HN1 := Lib.hid hN1; clear hN1
    go_wp2_with fail
    with_reducible refine (HA.out _).mono ?_
    rintro e w2 ⟨rfl, hN2⟩
    have HST2 := Lib.hid ((HST1.out.keep hN2).alloc (.cells #[.int .i64 D, .int .i64 M] 38))
    clear hc0 hc1
    have HN2 := Lib.hid hN2; clear hN2
    go_wp2_with fail
    with_reducible refine (HA2.out _).mono ?_
    rintro e w3 ⟨rfl, hN3⟩
    have hst3 := (HST2.out.keep hN3).alloc (.cells #[.int .i64 D', .int .i64 M'] 38)
    have huu3 := Has.new w3 38 #[.int .i64 D', .int .i64 M']
    have hc0 := hst3.cell 0
    have hc1 := hst3.cell 1
    simp at hc0 hc1
    have HST3 := Lib.hid hst3; clear hst3
    have HUU3 := Lib.hid huu3; clear huu3
    have HN3 := Lib.hid hN3; clear hN3
    go_wp2_with fail
    with_reducible refine (HA3.out _).mono ?_
    rintro e w4 ⟨rfl, hN4⟩
    have huu4 := (HUU3.out.keep hN4).alloc (.cells #[.int .i64 D', .int .i64 M'] 38)
    obtain ⟨bu, hbu⟩ : ∃ bu, bu = w3.heap.size := ⟨_, rfl⟩
    rw [← hbu] at huu4 ⊢
    clear hbu hc0 hc1
    have hc0 := huu4.cell 0
    have hc1 := huu4.cell 1
    simp at hc0 hc1
    have HN4 := Lib.hid hN4; clear hN4 huu4
    go_wp2
    go_ret
    refine ⟨rfl, ?_⟩
    have n1 : New w w2 := Chg.new_then ((Chg.refl _ _).alloc _) (HN1.out.then_new HN2.out)
    have n2 : New w w3 := (n1.alloc _).then_new HN3.out
    exact ((n2.alloc _).then_new HN4.out).alloc _
  · obtain ⟨e1, e2⟩ := addX_err d m a he
    rw [e1, e2] at hA
    obtain ⟨E, hE⟩ : ∃ M, M = (addX d m a).2.2 := ⟨_, rfl⟩
    rw [← hE] at hA he
    have heb : (E == 0) = false := by simpa using he
    have hneb : (E != 0) = true := by simpa using he
    clear hE he e1 e2
    have HA := Lib.hid hA; clear hA
    go_enter Try.func9, Try.ntmps9
    go_wp2_with fail
    with_reducible refine (awake_any _).mono ?_
    rintro e w1 ⟨rfl, hN1⟩
    have hst1 := HST.out.keep hN1
    have hc0 := hst1.cell 0
    have hc1 := hst1.cell 1
    simp at hc0 hc1
    have HN1 := Lib.hid hN1; clear hN1 hst1
    go_wp2_with fail
    with_reducible refine (HA.out _).mono ?_
    rintro e w2 ⟨rfl, hN2⟩
    have HN2 := Lib.hid hN2; clear hN2
    go_wp2
    go_ret
    refine ⟨rfl, ?_⟩
    have n1 : New w w2 := Chg.new_then ((Chg.refl _ _).alloc _) (HN1.out.then_new HN2.out)
    exact n1.alloc _
theorem steps_law {W : World} (d m : Int) (_ : (Lit.int .i64 d).wf = true) (_ : (Lit.int .i64 m).wf = true) (a : Int) (_ : (Lit.int .i64 a).wf = true) (b : Int) (_ : (Lit.int .i64 b).wf = true) :
    Calls Try.prog 9 #[.agg #[.int .i64 d, .int .i64 m], .int .i64 a, .int .i64 b] W fun e w' => e = .returned (.bool true) ∧ New W w' := by
  by_cases h : a < -1099511627776 ∨ 1099511627776 < a ∨ b < -1099511627776 ∨ 1099511627776 < b
  · exact steps_far d m a b W h
  · exact steps_near d m a b W (by omega) (by omega) (by omega) (by omega)
end Go.Proofs.Ytcnnakidpnhecaa
