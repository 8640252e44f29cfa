/-
  What the document's own Sum comes to, and package money's Split, for every input.
-/
import Derived.Test.YtgcikobloimmnaaMonA
namespace Go.Proofs.Ytgcikobloimmnaa
open Go.RowKit
set_option maxRecDepth 100000 in
set_option maxHeartbeats 2000000 in
theorem refSum_any (A : Option Addr) (n c : Nat) (F : Nat → Prop) (x : Nat → Int) (w : World) (hA : Arr w F A n (fun i => iV (x i))) (hn : n ≤ 17592186044416) (hx : ∀ i, i < n → I64 (x i)) :
    Calls Try.prog 11 #[.slice A n c] w fun e w' => e = .returned (rsumV (acc x n)) ∧ w' = w := by
  have HA := Lib.hid hA; clear hA
  have Hx := Lib.hid hx; clear hx
  go_enter Try.func11, Try.ntmps11
  go_wp2_with fail
  go_loopg [4, 5] n (fun gk a i wr => ∃ (k : Nat) (s : Int), k ≤ n ∧ gk = n - k ∧ a = .int .i64 s ∧ i = .int .i64 k ∧ acc x k = some s ∧ w = wr)
  case atStart => exact ⟨0, 0, by omega, by omega, rfl, rfl, rfl, rfl⟩
  case round =>
    obtain ⟨k, s, hk, rfl, rfl, rfl, hacc, rfl⟩ := hrel
    have hs := acc_bound x k s hacc
    have Hacc := Lib.hid hacc; clear hacc
    by_cases hlt : k < n
    · obtain ⟨a, rfl, _, hc⟩ := HA.out k hlt
      have hy := Hx.out k hlt
      change _ = some (Value.int .i64 (x k)) at hc
      by_cases hin : -9223372036854775808 ≤ s + x k ∧ s + x k ≤ 9223372036854775807
      · have Hn := Lib.hid (acc_in Hacc.out hin)
        obtain ⟨y, hye⟩ : ∃ y, y = x k := ⟨_, rfl⟩
        rw [← hye] at hc hy Hn hin
        clear hye
        obtain ⟨hy0, hy1⟩ := hy
        obtain ⟨hs0, hs1⟩ := hs
        obtain ⟨hi0, hi1⟩ := hin
        rcases (show 0 < y ∨ y < 0 ∨ y = 0 by omega) with hp | hp | hp
        · have t0 : decide (9223372036854775807 - y < s) = false := by simp only [decide_eq_false_iff_not]; omega
          have t1 : decide (y < 0) = false := by simp only [decide_eq_false_iff_not]; omega
          have t2 : decide (0 < y) = true := by simp only [decide_eq_true_eq]; omega
          go_wp2_with fail
          go_roundg (n - (k + 1))
          case measure => omega
          case rel => exact ⟨k + 1, s + y, by omega, rfl, rfl, by go_num, Hn.out, rfl⟩
        · have t0 : decide (s < -9223372036854775808 - y) = false := by simp only [decide_eq_false_iff_not]; omega
          have t1 : decide (y < 0) = true := by simp only [decide_eq_true_eq]; omega
          have t2 : decide (0 < y) = false := by simp only [decide_eq_false_iff_not]; omega
          go_wp2_with fail
          go_roundg (n - (k + 1))
          case measure => omega
          case rel => exact ⟨k + 1, s + y, by omega, rfl, rfl, by go_num, Hn.out, rfl⟩
        · subst hp
          have t1 : decide ((0 : Int) < 0) = false := by decide
          go_wp2_with fail
          go_roundg (n - (k + 1))
          case measure => omega
          case rel => exact ⟨k + 1, s + 0, by omega, rfl, by first | rfl | (congr 1; omega), by go_num, Hn.out, rfl⟩
      · have Hn := Lib.hid (acc_none (acc_out Hacc.out hin) n (by omega))
        obtain ⟨y, hye⟩ : ∃ y, y = x k := ⟨_, rfl⟩
        rw [← hye] at hc hy hin
        clear hye
        obtain ⟨hy0, hy1⟩ := hy
        obtain ⟨hs0, hs1⟩ := hs
        rcases (show 0 < y ∨ y < 0 by omega) with hp | hp
        · have t0 : decide (9223372036854775807 - y < s) = true := by simp only [decide_eq_true_eq]; omega
          have t2 : decide (0 < y) = true := by simp only [decide_eq_true_eq]; omega
          clear hin
          go_wp2_with fail
          go_ret2
          exact ⟨by rw [Hn.out]; rfl, rfl⟩
        · have t0 : decide (s < -9223372036854775808 - y) = true := by simp only [decide_eq_true_eq]; omega
          have t1 : decide (y < 0) = true := by simp only [decide_eq_true_eq]; omega
          have t2 : decide (0 < y) = false := by simp only [decide_eq_false_iff_not]; omega
          clear hin
          go_wp2_with fail
          go_ret2
          exact ⟨by rw [Hn.out]; rfl, rfl⟩
    · obtain rfl : k = n := by omega
      go_wp2_with fail
      go_ret2
      exact ⟨by rw [Hacc.out]; rfl, rfl⟩
end Go.Proofs.Ytgcikobloimmnaa
