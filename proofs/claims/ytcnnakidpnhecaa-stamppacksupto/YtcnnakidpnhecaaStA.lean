/-
  What stamp.Right, timeOf, counted, Between and Add do, for every input within the stated bounds; and the document's own Right.
-/
import Derived.Test.YtcnnakidpnhecaaAppends
import Derived.Deep.RegionHeld3
import Derived.Deep.CutBlock
namespace Go.Proofs.Ytcnnakidpnhecaa
open Go.RowKit

def stV (d m : Int) : Value := .agg #[.int .i64 d, .int .i64 m]
def rightB (d m : Int) : Bool := decide (0 ≤ d ∧ d ≤ 65535 ∧ 0 ≤ m ∧ m ≤ 1439)
theorem rightB_true {d m : Int} (h : rightB d m = true) : 0 ≤ d ∧ d ≤ 65535 ∧ 0 ≤ m ∧ m ≤ 1439 := by simpa [rightB] using h
theorem rightB_false {d m : Int} (h : rightB d m = false) : ¬ (0 ≤ d ∧ d ≤ 65535 ∧ 0 ≤ m ∧ m ≤ 1439) := by
  intro hh; simp [rightB, hh] at h

set_option maxHeartbeats 400000 in
theorem Right_any (d m : Int) (w : World) :
    Calls Try.prog 17 #[.agg #[.int .i64 d, .int .i64 m]] w fun e w' => e = .returned (.bool (rightB d m)) ∧ w' = w.alloc (.cells #[.int .i64 d, .int .i64 m] 38) := by
  cases h1 : decide (0 ≤ d) <;> cases h2 : decide (d ≤ 65535) <;> cases h3 : decide (0 ≤ m) <;> cases h4 : decide (m < 1440)
  all_goals
    go_enter Try.func17, Try.ntmps17
    go_wp2
    go_ret
    refine ⟨?_, rfl⟩
    simp only [decide_eq_true_eq, decide_eq_false_iff_not] at h1 h2 h3 h4
    first
      | (have : rightB d m = true := by unfold rightB; rw [decide_eq_true_eq]; omega
         rw [this]; rfl)
      | (have : rightB d m = false := by unfold rightB; rw [decide_eq_false_iff_not]; omega
         rw [this]; rfl)
set_option maxHeartbeats 400000 in
theorem refRight_any (d m : Int) (w : World) :
    Calls Try.prog 16 #[.agg #[.int .i64 d, .int .i64 m]] w fun e w' => e = .returned (.bool (rightB d m)) ∧ w' = w.alloc (.cells #[.int .i64 d, .int .i64 m] 38) := by
  cases h1 : decide (0 ≤ d) <;> cases h2 : decide (d < 65536) <;> cases h3 : decide (0 ≤ m) <;> cases h4 : decide (m < 1440)
  all_goals
    go_enter Try.func16, Try.ntmps16
    go_wp2
    go_ret
    refine ⟨?_, rfl⟩
    simp only [decide_eq_true_eq, decide_eq_false_iff_not] at h1 h2 h3 h4
    first
      | (have : rightB d m = true := by unfold rightB; rw [decide_eq_true_eq]; omega
         rw [this]; rfl)
      | (have : rightB d m = false := by unfold rightB; rw [decide_eq_false_iff_not]; omega
         rw [this]; rfl)
set_option maxHeartbeats 400000 in
theorem timeOf_any (d m : Int) (w : World) (h1 : -1099511627776 ≤ d) (h2 : d ≤ 1099511627776) (h3 : -1099511627776 ≤ m) (h4 : m ≤ 1099511627776) :
    Calls Try.prog 32 #[.agg #[.int .i64 d, .int .i64 m]] w fun e w' => e = .returned (.int .i64 (d * 1440 + m)) ∧ w' = w.alloc (.cells #[.int .i64 d, .int .i64 m] 38) := by
  go_enter Try.func32, Try.ntmps32
  go_wp2
  go_ret
  exact ⟨rfl, rfl⟩
set_option maxHeartbeats 400000 in
theorem counted_any (n : Int) (w : World) (h1 : -1099511627776 ≤ n) (h2 : n ≤ 1099511627776) :
    Calls Try.prog 33 #[.int .i64 n] w fun e w' => e = .returned (.bool true) ∧ w = w' := by
  go_enter Try.func33, Try.ntmps33
  go_wp2
  go_ret
  exact ⟨rfl, rfl⟩
set_option maxHeartbeats 1000000 in
theorem Between_any (d m d' m' : Int) (w : World) (h1 : -1099511627776 ≤ d) (h2 : d ≤ 1099511627776) (h3 : -1099511627776 ≤ m) (h4 : m ≤ 1099511627776)
    (k1 : -1099511627776 ≤ d') (k2 : d' ≤ 1099511627776) (k3 : -1099511627776 ≤ m') (k4 : m' ≤ 1099511627776) :
    Calls Try.prog 24 #[.agg #[.int .i64 d, .int .i64 m], .agg #[.int .i64 d', .int .i64 m']] w fun e w' => e = .returned (.int .i64 (d' * 1440 + m' - (d * 1440 + m))) ∧ New w w' := by
  go_enter Try.func24, Try.ntmps24
  go_wp2_with (go_at_call 33; (with_reducible refine (counted_any _ _ (by omega) (by omega)).mono ?_); rintro e w' ⟨rfl, rfl⟩)
  go_region_held3 (fun w' => w'.cell? ⟨w.heap.size, 0, none⟩ = some (.int .i64 d) ∧ w'.cell? ⟨w.heap.size, 1, none⟩ = some (.int .i64 m) ∧ w'.cell? ⟨w.heap.size + 1, 0, none⟩ = some (.int .i64 d') ∧ w'.cell? ⟨w.heap.size + 1, 1, none⟩ = some (.int .i64 m'))
    (go_keep)
    ((go_at_call 32; (with_reducible refine (timeOf_any _ _ _ (by omega) (by omega) (by omega) (by omega)).mono ?_); rintro e w' ⟨rfl, rfl⟩))
  all_goals
    go_wp2
    go_ret
    refine ⟨?_, by repeat (first | exact Chg.refl _ _ | refine Chg.alloc ?_ _ | refine Chg.drew ?_)⟩
    show Ending.returned (.int .i64 (IntKind.i64.wrap (d' * 1440 + m' - (d * 1440 + m)))) = _
    rw [IntWalk.i64_in _ (by omega)]
set_option maxHeartbeats 1000000 in
theorem Add_no (d m n : Int) (w : World) (hr : rightB d m = false) :
    Calls Try.prog 23 #[.agg #[.int .i64 d, .int .i64 m], .int .i64 n] w fun e w' => e = .returned (.tuple #[.agg #[.int .i64 0, .int .i64 0], .int .i64 2]) ∧ New w w' := by
  go_enter Try.func23, Try.ntmps23
  go_wp2_with (go_at_call 17; (with_reducible refine (Right_any _ _ _).mono ?_); rintro e w' ⟨rfl, rfl⟩)
  exact bodyPost_ret (v := .tuple #[.agg #[.int .i64 0, .int .i64 0], .int .i64 2]) (by simp [results, Try.results23, go_sem]) rfl ⟨rfl, by repeat (first | exact Chg.refl _ _ | refine Chg.alloc ?_ _ | refine Chg.drew ?_)⟩
set_option maxHeartbeats 1000000 in
theorem Add_over (d m n : Int) (w : World) (hr : rightB d m = true) (h : n < -(d * 1440 + m) ∨ 94371839 - (d * 1440 + m) < n) :
    Calls Try.prog 23 #[.agg #[.int .i64 d, .int .i64 m], .int .i64 n] w fun e w' => e = .returned (.tuple #[.agg #[.int .i64 0, .int .i64 0], .int .i64 29]) ∧ New w w' := by
  obtain ⟨r1, r2, r3, r4⟩ := rightB_true hr
  obtain ⟨t, ht⟩ : ∃ t, t = d * 1440 + m := ⟨_, rfl⟩
  rw [← ht] at h
  have ht0 : 0 ≤ t := by omega
  have ht1 : t ≤ 94371839 := by omega
  have Ht := Lib.hid ht; clear ht
  have hT := fun w => timeOf_any d m w (by omega) (by omega) (by omega) (by omega)
  rw [← Ht.out] at hT
  have HT := Lib.hid hT; clear hT
  rcases h with h | h
  · go_enter Try.func23, Try.ntmps23
    go_wp2_with (first | (go_at_call 17; (with_reducible refine (Right_any _ _ _).mono ?_); rintro e w' ⟨rfl, rfl⟩) | (go_at_call 32; (with_reducible refine (HT.out _).mono ?_); rintro e w' ⟨rfl, rfl⟩))
    exact bodyPost_ret (v := .tuple #[.agg #[.int .i64 0, .int .i64 0], .int .i64 29]) (by simp [results, Try.results23, go_sem]) rfl ⟨rfl, by repeat (first | exact Chg.refl _ _ | refine Chg.alloc ?_ _ | refine Chg.drew ?_)⟩
  · have h' : decide (n < -t) = false := by simp; omega
    go_enter Try.func23, Try.ntmps23
    go_wp2_with (first | (go_at_call 17; (with_reducible refine (Right_any _ _ _).mono ?_); rintro e w' ⟨rfl, rfl⟩) | (go_at_call 32; (with_reducible refine (HT.out _).mono ?_); rintro e w' ⟨rfl, rfl⟩))
    exact bodyPost_ret (v := .tuple #[.agg #[.int .i64 0, .int .i64 0], .int .i64 29]) (by simp [results, Try.results23, go_sem]) rfl ⟨rfl, by repeat (first | exact Chg.refl _ _ | refine Chg.alloc ?_ _ | refine Chg.drew ?_)⟩
set_option maxHeartbeats 1000000 in
theorem Add_ok (d m n : Int) (w : World) (hr : rightB d m = true) (h1 : -(d * 1440 + m) ≤ n) (h2 : n ≤ 94371839 - (d * 1440 + m)) :
    Calls Try.prog 23 #[.agg #[.int .i64 d, .int .i64 m], .int .i64 n] w fun e w' => e = .returned (.tuple #[.agg #[.int .i64 ((d * 1440 + m + n) / 1440), .int .i64 ((d * 1440 + m + n) % 1440)], .int .i64 0]) ∧ New w w' := by
  obtain ⟨r1, r2, r3, r4⟩ := rightB_true hr
  obtain ⟨t, ht⟩ : ∃ t, t = d * 1440 + m := ⟨_, rfl⟩
  rw [← ht] at h1 h2 ⊢
  have ht0 : 0 ≤ t := by omega
  have ht1 : t ≤ 94371839 := by omega
  have Ht := Lib.hid ht; clear ht
  have hT := fun w => timeOf_any d m w (by omega) (by omega) (by omega) (by omega)
  rw [← Ht.out] at hT
  have HT := Lib.hid hT; clear hT
  have h1' : decide (n < -t) = false := by simp; omega
  have h2' : decide (94371839 - t < n) = false := by simp; omega
  have h0 : 0 ≤ t + n := by omega
  have h3 : t + n ≤ 94371839 := by omega
  go_enter Try.func23, Try.ntmps23
  go_wp2_with (first | (go_at_call 17; (with_reducible refine (Right_any _ _ _).mono ?_); rintro e w' ⟨rfl, rfl⟩) | (go_at_call 32; (with_reducible refine (HT.out _).mono ?_); rintro e w' ⟨rfl, rfl⟩))
  exact bodyPost_ret (v := .tuple #[.agg #[.int .i64 ((t + n) / 1440), .int .i64 ((t + n) % 1440)], .int .i64 0]) (by simp [results, Try.results23, go_sem]) rfl ⟨rfl, by repeat (first | exact Chg.refl _ _ | refine Chg.alloc ?_ _ | refine Chg.drew ?_)⟩
end Go.Proofs.Ytcnnakidpnhecaa
