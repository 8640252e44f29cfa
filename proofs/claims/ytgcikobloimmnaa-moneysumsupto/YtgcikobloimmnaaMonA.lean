/-
  What package money's small functions (over, Sum, total, right, greatest) and the document's own Sum come to, for every input.
-/
import Derived.Test.YtgcikobloimmnaaInts
import Derived.Test.YtgcikobloimmnaaShr
namespace Go.Proofs.Ytgcikobloimmnaa
open Go.RowKit
set_option maxRecDepth 100000 in
set_option maxHeartbeats 1000000 in
theorem over_no (a b : Int) (w : World) (ha : I64 a) (hb : I64 b) (h : -9223372036854775808 ≤ a + b ∧ a + b ≤ 9223372036854775807) :
    Calls Try.prog 15 #[.int .i64 a, .int .i64 b] w fun e w' => e = .returned (.bool false) ∧ w' = w := by
  obtain ⟨ha0, ha1⟩ := ha
  obtain ⟨hb0, hb1⟩ := hb
  obtain ⟨h0, h1⟩ := h
  rcases Int.lt_or_le 0 b with hp | hp
  · have t0 : decide (9223372036854775807 - b < a) = false := by simp only [decide_eq_false_iff_not]; omega
    go_enter Try.func15, Try.ntmps15
    go_wp2_with fail
    go_ret
    exact ⟨by simp, rfl⟩
  · have t0 : decide (a < -9223372036854775808 - b) = false := by simp only [decide_eq_false_iff_not]; omega
    go_enter Try.func15, Try.ntmps15
    go_wp2_with fail
    go_ret
    exact ⟨by simp, rfl⟩
set_option maxRecDepth 100000 in
set_option maxHeartbeats 1000000 in
theorem over_yes (a b : Int) (w : World) (ha : I64 a) (hb : I64 b) (h : ¬ (-9223372036854775808 ≤ a + b ∧ a + b ≤ 9223372036854775807)) :
    Calls Try.prog 15 #[.int .i64 a, .int .i64 b] w fun e w' => e = .returned (.bool true) ∧ w' = w := by
  obtain ⟨ha0, ha1⟩ := ha
  obtain ⟨hb0, hb1⟩ := hb
  rcases Int.lt_or_le 0 b with hp | hp
  · have t0 : decide (9223372036854775807 - b < a) = true := by simp only [decide_eq_true_eq]; omega
    go_enter Try.func15, Try.ntmps15
    go_wp2_with fail
    go_ret
    exact ⟨by simp, rfl⟩
  · have t0 : decide (a < -9223372036854775808 - b) = true := by simp only [decide_eq_true_eq]; omega
    go_enter Try.func15, Try.ntmps15
    go_wp2_with fail
    go_ret
    exact ⟨by simp, rfl⟩
set_option maxRecDepth 100000 in
set_option maxHeartbeats 1000000 in
theorem total_any (A : Option Addr) (n c : Nat) (F : Nat → Prop) (x : Nat → Int) (w : World) (hA : Arr w F A n (fun i => iV (x i))) (hn : n ≤ 16) (hx : ∀ i, i < n → 0 ≤ x i ∧ x i ≤ 1000) :
    Calls Try.prog 17 #[.slice A n c] w fun e w' => e = .returned (.int .i64 (tot x n)) ∧ w' = w := by
  have HA := Lib.hid hA; clear hA
  have Hx := Lib.hid hx; clear hx
  go_enter Try.func17, Try.ntmps17
  go_wp2_with fail
  go_loopg [3, 8] n (fun gk a i wr => ∃ k : Nat, k ≤ n ∧ gk = n - k ∧ a = .int .i64 (tot x k) ∧ i = .int .i64 k ∧ 0 ≤ tot x k ∧ tot x k ≤ 1000 * k ∧ w = wr)
  case atStart => exact ⟨0, by omega, by omega, rfl, rfl, by simp [tot], by simp [tot], rfl⟩
  case round =>
    obtain ⟨k, hk, rfl, rfl, rfl, h0, h1, rfl⟩ := hrel
    by_cases hlt : k < n
    · obtain ⟨a, rfl, _, hc⟩ := HA.out k hlt
      obtain ⟨x0, x1⟩ := Hx.out k hlt
      have HT : Hid (tot x (k + 1) = tot x k + x k) := rfl
      obtain ⟨t, ht⟩ : ∃ t, t = tot x k := ⟨_, rfl⟩
      obtain ⟨y, hy⟩ : ∃ y, y = x k := ⟨_, rfl⟩
      change _ = some (iV (x k)) at hc
      rw [← ht] at h0 h1 HT ⊢
      rw [← hy] at x0 x1 hc HT
      have hc' : w.cell? (a.add k) = some (.int .i64 y) := hc
      clear ht hy hc
      go_wp2_with fail
      go_roundg (n - (k + 1))
      case measure => omega
      case rel => exact ⟨k + 1, by omega, rfl, by rw [HT.out], by go_num, by rw [HT.out]; omega, by rw [HT.out]; omega, rfl⟩
    · obtain rfl : k = n := by omega
      obtain ⟨t, ht⟩ : ∃ t, t = tot x k := ⟨_, rfl⟩
      rw [← ht] at h0 h1 ⊢
      have Ht := Lib.hid ht; clear ht
      go_wp2_with fail
      go_ret
      exact ⟨by rw [← Ht.out]; rfl, rfl⟩

/-- what Sum returns -/
def sumV : Option Int → Value
  | none => .tuple #[.int .i64 0, .int .i64 29]
  | some s => .tuple #[.int .i64 s, .int .i64 0]
/-- what the document's Sum returns -/
def rsumV : Option Int → Value
  | none => .tuple #[.int .i64 0, .bool false]
  | some s => .tuple #[.int .i64 s, .bool true]
set_option maxRecDepth 100000 in
set_option maxHeartbeats 1000000 in
theorem Sum_any (A : Option Addr) (n c : Nat) (F : Nat → Prop) (x : Nat → Int) (w : World) (hA : Arr w F A n (fun i => iV (x i))) (hn : n ≤ 17592186044416) (hx : ∀ i, i < n → I64 (x i)) :
    Calls Try.prog 10 #[.slice A n c] w fun e w' => e = .returned (sumV (acc x n)) ∧ w' = w := by
  have HA := Lib.hid hA; clear hA
  have Hx := Lib.hid hx; clear hx
  go_enter Try.func10, Try.ntmps10
  go_wp2_with fail
  go_loopg [4, 9] n (fun gk a i wr => ∃ (k : Nat) (s : Int), k ≤ n ∧ gk = n - k ∧ a = .int .i64 s ∧ i = .int .i64 k ∧ acc x k = some s ∧ w = wr)
  case atStart => exact ⟨0, 0, by omega, by omega, rfl, rfl, rfl, rfl⟩
  case round =>
    obtain ⟨k, s, hk, rfl, rfl, rfl, hacc, rfl⟩ := hrel
    have hs := acc_bound x k s hacc
    have Hacc := Lib.hid hacc; clear hacc
    by_cases hlt : k < n
    · obtain ⟨a, rfl, _, hc⟩ := HA.out k hlt
      have hy := Hx.out k hlt
      change _ = some (Value.int .i64 (x k)) at hc
      by_cases hin : -9223372036854775808 ≤ s + x k ∧ s + x k ≤ 9223372036854775807
      · have Hn := Lib.hid (acc_in Hacc.out hin)
        have HO := Lib.hid (over_no s (x k) w hs hy hin)
        obtain ⟨y, hye⟩ : ∃ y, y = x k := ⟨_, rfl⟩
        rw [← hye] at hc hy Hn hin HO
        clear hye
        obtain ⟨hy0, hy1⟩ := hy
        obtain ⟨hs0, hs1⟩ := hs
        obtain ⟨hi0, hi1⟩ := hin
        go_wp2_with fail
        with_reducible refine HO.out.mono ?_
        rintro e w' ⟨rfl, rfl⟩
        go_wp2_with fail
        go_roundg (n - (k + 1))
        case measure => omega
        case rel => exact ⟨k + 1, s + y, by omega, rfl, rfl, by go_num, Hn.out, rfl⟩
      · have Hn := Lib.hid (acc_none (acc_out Hacc.out hin) n (by omega))
        have HO := Lib.hid (over_yes s (x k) w hs hy hin)
        obtain ⟨y, hye⟩ : ∃ y, y = x k := ⟨_, rfl⟩
        rw [← hye] at hc hy HO
        clear hye hin hy hs
        go_wp2_with fail
        with_reducible refine HO.out.mono ?_
        rintro e w' ⟨rfl, rfl⟩
        go_wp2_with fail
        go_ret2
        exact ⟨by rw [Hn.out]; rfl, rfl⟩
    · obtain rfl : k = n := by omega
      go_wp2_with fail
      go_ret2
      exact ⟨by rw [Hacc.out]; rfl, rfl⟩
set_option maxRecDepth 100000 in
set_option maxHeartbeats 1000000 in
theorem right_any (A : Option Addr) (n c : Nat) (F : Nat → Prop) (x : Nat → Int) (w : World) (hA : Arr w F A n (fun i => iV (x i))) (hn : n ≤ 16) (hx : ∀ i, i < n → 0 ≤ x i ∧ x i ≤ 1000) :
    Calls Try.prog 16 #[.slice A n c] w fun e w' => e = .returned (.bool (decide (0 < tot x n))) ∧ w' = w := by
  have HT := Lib.hid (total_any A n c F x w hA hn hx)
  have HA := Lib.hid hA; clear hA
  have Hx := Lib.hid hx; clear hx
  go_enter Try.func16, Try.ntmps16
  go_wp2_with fail
  go_loopg [10] n (fun gk i wr => ∃ (k : Nat), k ≤ n ∧ gk = n - k ∧ i = .int .i64 k ∧ w = wr)
  case atStart => exact ⟨0, by omega, by omega, rfl, rfl⟩
  case round =>
    obtain ⟨k, hk, rfl, rfl, rfl⟩ := hrel
    by_cases hlt : k < n
    · obtain ⟨a, rfl, _, hc⟩ := HA.out k hlt
      obtain ⟨x0, x1⟩ := Hx.out k hlt
      change _ = some (Value.int .i64 (x k)) at hc
      obtain ⟨y, hye⟩ : ∃ y, y = x k := ⟨_, rfl⟩
      rw [← hye] at hc x0 x1
      clear hye
      go_wp2_with fail
      go_roundg (n - (k + 1))
      case measure => omega
      case rel => exact ⟨k + 1, by omega, rfl, by go_num, rfl⟩
    · obtain rfl : k = n := by omega
      obtain ⟨t, ht⟩ : ∃ t, t = tot x k := ⟨_, rfl⟩
      rw [← ht] at HT
      have Ht := Lib.hid ht; clear ht
      go_wp2_with fail
      with_reducible refine HT.out.mono ?_
      rintro e w' ⟨rfl, rfl⟩
      go_wp2_with fail
      go_ret
      exact ⟨by rw [← Ht.out]; rfl, rfl⟩
set_option maxRecDepth 100000 in
set_option maxHeartbeats 1000000 in
theorem right_long (A : Option Addr) (n c : Nat) (w : World) (hn : 16 < n) (hn2 : n ≤ 17592186044416) :
    Calls Try.prog 16 #[.slice A n c] w fun e w' => e = .returned (.bool false) ∧ w' = w := by
  have h : decide ((16 : Int) < n) = true := by simp only [decide_eq_true_eq]; omega
  go_enter Try.func16, Try.ntmps16
  go_wp2_with fail
  go_ret
  exact ⟨rfl, rfl⟩
set_option maxRecDepth 100000 in
set_option maxHeartbeats 1000000 in
theorem right_bad (A : Option Addr) (n c : Nat) (F : Nat → Prop) (x : Nat → Int) (w : World) (hA : Arr w F A n (fun i => iV (x i))) (hn : n ≤ 16) (j : Nat) (hj : j < n) (hb : ¬ (0 ≤ x j ∧ x j ≤ 1000)) :
    Calls Try.prog 16 #[.slice A n c] w fun e w' => e = .returned (.bool false) ∧ w' = w := by
  have HA := Lib.hid hA; clear hA
  have Hb := Lib.hid hb; clear hb
  go_enter Try.func16, Try.ntmps16
  go_wp2_with fail
  go_loopg [10] n (fun gk i wr => ∃ (k : Nat), k ≤ j ∧ gk = n - k ∧ i = .int .i64 k ∧ w = wr)
  case atStart => exact ⟨0, by omega, by omega, rfl, rfl⟩
  case round =>
    obtain ⟨k, hk, rfl, rfl, rfl⟩ := hrel
    have hlt : k < n := by omega
    obtain ⟨a, rfl, _, hc⟩ := HA.out k hlt
    change _ = some (Value.int .i64 (x k)) at hc
    by_cases hok : 0 ≤ x k ∧ x k ≤ 1000
    · have hkj : k < j := by
        rcases Nat.lt_or_ge k j with h | h
        · exact h
        · obtain rfl : k = j := by omega
          exact absurd hok Hb.out
      obtain ⟨y, hye⟩ : ∃ y, y = x k := ⟨_, rfl⟩
      rw [← hye] at hc hok
      clear hye
      obtain ⟨x0, x1⟩ := hok
      go_wp2_with fail
      go_roundg (n - (k + 1))
      case measure => omega
      case rel => exact ⟨k + 1, by omega, rfl, by go_num, rfl⟩
    · obtain ⟨y, hye⟩ : ∃ y, y = x k := ⟨_, rfl⟩
      rw [← hye] at hc hok
      clear hye
      rcases Int.lt_or_le y 0 with hy | hy
      · clear hok
        go_wp2_with fail
        go_ret
        exact ⟨rfl, rfl⟩
      · have hy1 : 1000 < y := by omega
        clear hok
        go_wp2_with fail
        go_ret
        exact ⟨rfl, rfl⟩
set_option maxRecDepth 100000 in
set_option maxHeartbeats 1000000 in
theorem greatest_any (A : Option Addr) (n c : Nat) (F : Nat → Prop) (x : Nat → Int) (w : World) (hA : Arr w F A n (fun i => iV (x i))) (hn0 : 0 < n) (hn : n ≤ 16) :
    Calls Try.prog 18 #[.slice A n c] w fun e w' => e = .returned (.int .i64 (best x n : Nat)) ∧ w' = w := by
  have HA := Lib.hid hA; clear hA
  go_enter Try.func18, Try.ntmps18
  go_wp2_with fail
  go_loopg [3, 8] n (fun gk a i wr => ∃ k : Nat, k ≤ n ∧ gk = n - k ∧ a = .int .i64 (best x k : Nat) ∧ i = .int .i64 k ∧ w = wr)
  case atStart => exact ⟨0, by omega, by omega, rfl, rfl, rfl⟩
  case round =>
    obtain ⟨k, hk, rfl, rfl, rfl, rfl⟩ := hrel
    by_cases hlt : k < n
    · obtain ⟨a, ha, _, hc⟩ := HA.out k hlt
      have hbn : best x k < n := by have := best_le x k; omega
      obtain ⟨a2, ha2, _, hc2⟩ := HA.out (best x k) hbn
      subst ha
      simp only [Option.some.injEq] at ha2
      subst ha2
      have HT : Hid (best x (k + 1) = if x (best x k) < x k then k else best x k) := rfl
      obtain ⟨b, hb⟩ : ∃ b, b = best x k := ⟨_, rfl⟩
      rw [← hb] at hbn hc2 HT ⊢
      change _ = some (Value.int .i64 (x k)) at hc
      change _ = some (Value.int .i64 (x b)) at hc2
      clear hb
      obtain ⟨y, hy⟩ : ∃ y, y = x k := ⟨_, rfl⟩
      obtain ⟨z, hz⟩ : ∃ z, z = x b := ⟨_, rfl⟩
      rw [← hy] at hc HT
      rw [← hz] at hc2 HT
      clear hy hz
      by_cases hlz : z < y
      · have HU : Hid (best x (k + 1) = k) := by rw [Hid, HT.out, if_pos hlz]
        clear HT
        go_wp2_with fail
        go_roundg (n - (k + 1))
        case measure => omega
        case rel => exact ⟨k + 1, by omega, rfl, by rw [HU.out], by go_num, rfl⟩
      · have HU : Hid (best x (k + 1) = b) := by rw [Hid, HT.out, if_neg hlz]
        have hle : y ≤ z := by omega
        clear HT hlz
        go_wp2_with fail
        go_roundg (n - (k + 1))
        case measure => omega
        case rel => exact ⟨k + 1, by omega, rfl, by rw [HU.out], by go_num, rfl⟩
    · obtain rfl : k = n := by omega
      obtain ⟨b, hb⟩ : ∃ b, b = best x k := ⟨_, rfl⟩
      rw [← hb]
      have Hb := Lib.hid hb; clear hb
      go_wp2_with fail
      go_ret
      exact ⟨by rw [← Hb.out]; rfl, rfl⟩
end Go.Proofs.Ytgcikobloimmnaa
