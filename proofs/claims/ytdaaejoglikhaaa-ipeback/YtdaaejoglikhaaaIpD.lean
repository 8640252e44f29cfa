/-
  The document's ride and Do: what is done with a product.
-/
import Derived.Test.YtdaaejoglikhaaaIpB
namespace Go.Proofs.Ytdaaejoglikhaaa
open Go.RowKit
def rideE (k l r d : Int) : Int := if d < 0 then 2 else if 65535 < d then 2 else if k = 1 then 28 else if k = 2 then (if l < d then 26 else 0) else if r = 0 then 27 else 0
set_option maxRecDepth 100000 in
set_option maxHeartbeats 4000000 in
theorem ride_any (p : Pd) (d : Int) (w : World) : Calls Try.prog 56 #[p.V, .int .i64 d] w fun e w' => e = .returned (.int .i64 (rideE p.x0 p.x6 p.x7 d)) ∧ New w w' := by
  obtain ⟨R, hR⟩ : ∃ R, rideE p.x0 p.x6 p.x7 d = R := ⟨_, rfl⟩
  rw [hR]
  obtain ⟨x0, x1, x2, x3, x4, x5, x6, x7, x8, x9, x10, x11, x12, x13⟩ := p
  simp only at hR
  unfold rideE at hR
  go_enter Try.func56, Try.ntmps56
  by_cases c1 : d < 0
  · rw [if_pos c1] at hR
    have e1 : decide (d < 0) = true := decide_eq_true c1
    clear c1
    have HR := Lib.hid hR
    clear hR
    go_wp2_with fail
    go_ret
    exact ⟨by rw [← HR.out]; rfl, (Chg.refl _ _).alloc _⟩
  rw [if_neg c1] at hR
  have e1 : decide (d < 0) = false := decide_eq_false c1
  clear c1
  by_cases c2 : 65535 < d
  · rw [if_pos c2] at hR
    have e2 : decide (65535 < d) = true := decide_eq_true c2
    clear c2
    have HR := Lib.hid hR
    clear hR
    go_wp2_with fail
    go_ret
    exact ⟨by rw [← HR.out]; rfl, (Chg.refl _ _).alloc _⟩
  rw [if_neg c2] at hR
  have e2 : decide (65535 < d) = false := decide_eq_false c2
  clear c2
  by_cases c3 : x0 = 1
  · rw [if_pos c3] at hR
    subst c3
    have HR := Lib.hid hR
    clear hR
    go_wp2_with fail
    go_ret
    exact ⟨by rw [← HR.out]; rfl, (Chg.refl _ _).alloc _⟩
  rw [if_neg c3] at hR
  have e3 : (x0 == 1) = false := beq_eq_false_iff_ne.2 c3
  clear c3
  by_cases c4 : x0 = 2
  · rw [if_pos c4] at hR
    subst c4
    by_cases c5 : x6 < d
    · rw [if_pos c5] at hR
      have e5 : decide (x6 < d) = true := decide_eq_true c5
      clear c5
      have HR := Lib.hid hR
      clear hR
      go_wp2_with fail
      go_ret
      exact ⟨by rw [← HR.out]; rfl, (Chg.refl _ _).alloc _⟩
    · rw [if_neg c5] at hR
      have e5 : decide (x6 < d) = false := decide_eq_false c5
      clear c5
      have HR := Lib.hid hR
      clear hR
      go_wp2_with fail
      go_ret
      exact ⟨by rw [← HR.out]; rfl, (Chg.refl _ _).alloc _⟩
  rw [if_neg c4] at hR
  have e4 : (x0 == 2) = false := beq_eq_false_iff_ne.2 c4
  have e4' : (x0 != 2) = true := bne_iff_ne.2 c4
  clear c4
  by_cases c6 : x7 = 0
  · rw [if_pos c6] at hR
    subst c6
    have HR := Lib.hid hR
    clear hR
    go_wp2_with fail
    go_ret
    exact ⟨by rw [← HR.out]; rfl, (Chg.refl _ _).alloc _⟩
  · rw [if_neg c6] at hR
    have e6 : (x7 == 0) = false := beq_eq_false_iff_ne.2 c6
    clear c6
    have HR := Lib.hid hR
    clear hR
    go_wp2_with fail
    go_ret
    exact ⟨by rw [← HR.out]; rfl, (Chg.refl _ _).alloc _⟩
end Go.Proofs.Ytdaaejoglikhaaa
