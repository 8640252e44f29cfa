/-
  Where the document's own Split refuses, for every input.
-/
import Derived.Test.YtgcikobloimmnaaMonD
namespace Go.Proofs.Ytgcikobloimmnaa
open Go.RowKit
set_option maxRecDepth 100000 in
set_option maxHeartbeats 4000000 in
theorem refSplit_head (a : Int) (A : Option Addr) (n c : Nat) (w : World) (h : decide (a < 0) = true ∨ (decide (a < 0) = false ∧ decide (2147483648 < a) = true) ∨ (decide (a < 0) = false ∧ decide (2147483648 < a) = false ∧ decide ((n : Int) < 1) = true) ∨ (decide (a < 0) = false ∧ decide (2147483648 < a) = false ∧ decide ((n : Int) < 1) = false ∧ decide (16 < (n : Int)) = true)) :
    Calls Try.prog 14 #[.int .i64 a, .slice A n c] w fun e w' => e = .returned (.tuple #[.slice none 0 0, .bool false]) ∧ w' = w := by
  rcases h with h0 | ⟨h0, h1⟩ | ⟨h0, h1, h2⟩ | ⟨h0, h1, h2, h3⟩
  all_goals
    go_enter Try.func14, Try.ntmps14
    go_wp2_with fail
    go_ret2
    exact ⟨rfl, rfl⟩
set_option maxRecDepth 100000 in
set_option maxHeartbeats 4000000 in
theorem refSplit_weights (a : Int) (A : Option Addr) (n c : Nat) (F : Nat → Prop) (x : Nat → Int) (w : World) (hA : Arr w F A n (fun i => iV (x i))) (ha0 : 0 ≤ a) (ha1 : a ≤ 2147483648) (hn0 : 0 < n) (hn1 : n ≤ 16) (hf : ¬ Fine a x n) :
    Calls Try.prog 14 #[.int .i64 a, .slice A n c] w fun e w' => e = .returned (.tuple #[.slice none 0 0, .bool false]) ∧ w' = w := by
  have HA := Lib.hid hA; clear hA
  have Hf : Hid ((∀ i, i < n → 0 ≤ x i ∧ x i ≤ 1000) → tot x n = 0) := fun hx => by
    have h0 := tot_zero_le (f := x) (n := n) (fun i hi => (hx i hi).1)
    rcases Int.lt_or_le 0 (tot x n) with hp | hp
    · exact absurd ⟨ha0, ha1, hn1, hx, hp⟩ hf
    · omega
  have t0 : decide (a < 0) = false := by simp only [decide_eq_false_iff_not]; omega
  have t1 : decide (2147483648 < a) = false := by simp only [decide_eq_false_iff_not]; omega
  have t2 : decide ((n : Int) < 1) = false := by simp only [decide_eq_false_iff_not]; omega
  have t3 : decide (16 < (n : Int)) = false := by simp only [decide_eq_false_iff_not]; omega
  clear hf
  go_enter Try.func14, Try.ntmps14
  go_wp2_with fail
  go_loopg [6, 7] n (fun gk t i wr => ∃ (k : Nat), k ≤ n ∧ gk = n - k ∧ t = .int .i64 (tot x k) ∧ i = .int .i64 k ∧ (∀ j, j < k → 0 ≤ x j ∧ x j ≤ 1000) ∧ 0 ≤ tot x k ∧ tot x k ≤ 1000 * k ∧ w = wr)
  case atStart => exact ⟨0, by omega, by omega, rfl, rfl, fun j hj => by omega, by simp [tot], by simp [tot], rfl⟩
  case round =>
    obtain ⟨k, hk, rfl, rfl, rfl, hx, b0, b1, rfl⟩ := hrel
    have Hx := Lib.hid hx; clear hx
    by_cases hlt : k < n
    · obtain ⟨ad, rfl, hab, hc⟩ := HA.out k hlt
      have hc' : w.cell? (ad.add k) = some (.int .i64 (x k)) := hc
      have HT : Hid (tot x (k + 1) = tot x k + x k) := rfl
      clear hc
      by_cases hok : 0 ≤ x k ∧ x k ≤ 1000
      · have Hx2 : Hid (∀ j, j < k + 1 → 0 ≤ x j ∧ x j ≤ 1000) := fun j hj => by
          by_cases he : j = k
          · subst he; exact hok
          · exact Hx.out j (by omega)
        obtain ⟨y0, y1⟩ := hok
        obtain ⟨T, hT⟩ : ∃ T, T = tot x k := ⟨_, rfl⟩
        obtain ⟨y, hy⟩ : ∃ y, y = x k := ⟨_, rfl⟩
        rw [← hT] at HT b0 b1 ⊢
        rw [← hy] at HT y0 y1 hc'
        have t4 : decide (y < 0) = false := by simp only [decide_eq_false_iff_not]; omega
        have t5 : decide (1000 < y) = false := by simp only [decide_eq_false_iff_not]; omega
        clear hT hy
        go_wp2_with fail
        go_roundg (n - (k + 1))
        case measure => omega
        case rel => exact ⟨k + 1, by omega, rfl, by rw [HT.out], by go_num, Hx2.out, by rw [HT.out]; omega, by rw [HT.out]; omega, rfl⟩
      · clear HT
        obtain ⟨T, hT⟩ : ∃ T, T = tot x k := ⟨_, rfl⟩
        obtain ⟨y, hy⟩ : ∃ y, y = x k := ⟨_, rfl⟩
        rw [← hT]
        rw [← hy] at hok hc'
        clear hT hy b0 b1
        by_cases hy : y < 0
        · have t4 : decide (y < 0) = true := by simp only [decide_eq_true_eq]; omega
          clear hok
          go_wp2_with fail
          go_ret2
          exact ⟨rfl, rfl⟩
        · have t4 : decide (y < 0) = false := by simp only [decide_eq_false_iff_not]; omega
          have t5 : decide (1000 < y) = true := by simp only [decide_eq_true_eq]; omega
          clear hok
          go_wp2_with fail
          go_ret2
          exact ⟨rfl, rfl⟩
    · obtain rfl : k = n := by omega
      rw [Hf.out Hx.out]
      clear b0 b1
      go_wp2_with fail
      go_ret2
      exact ⟨rfl, rfl⟩
theorem refSplit_no (a : Int) (A : Option Addr) (n c : Nat) (F : Nat → Prop) (x : Nat → Int) (w : World) (hA : Arr w F A n (fun i => iV (x i))) (h : ¬ Fine a x n) :
    Calls Try.prog 14 #[.int .i64 a, .slice A n c] w fun e w' => e = .returned (.tuple #[.slice none 0 0, .bool false]) ∧ w' = w := by
  by_cases h0 : (0 ≤ a ∧ a ≤ 2147483648) ∧ 0 < n ∧ n ≤ 16
  · obtain ⟨⟨h1, h2⟩, h3, h4⟩ := h0
    exact refSplit_weights a A n c F x w hA h1 h2 h3 h4 h
  · refine refSplit_head a A n c w ?_
    simp only [decide_eq_true_eq, decide_eq_false_iff_not]
    omega
end Go.Proofs.Ytgcikobloimmnaa
