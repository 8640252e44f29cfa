/-
  Package ipe's right: all of a product's numbers lie within their limits.
-/
import Derived.Test.YtkcokcanakljnaaIqA
namespace Go.Proofs.Ytkcokcanakljnaa
open Go.RowKit

theorem right_within (p : Pd) : rightN p.ns = (withB 1 4 [p.x0] && withB 1 4 [p.x1] && withB 1 65535 [p.x2, p.x3] && withB 1 255 [p.x4] && withB 0 2147483648 [p.x5] && withB 0 65535 [p.x6, p.x10, p.x11, p.x12] && withB 0 255 [p.x7, p.x9]) := by
  obtain ⟨x0, x1, x2, x3, x4, x5, x6, x7, x8, x9, x10, x11, x12, x13⟩ := p
  have h8 : 0 ≤ bi x8 ∧ bi x8 ≤ 1 := by cases x8 <;> exact ⟨by decide, by decide⟩
  have h13 : 0 ≤ bi x13 ∧ bi x13 ≤ 1 := by cases x13 <;> exact ⟨by decide, by decide⟩
  rw [Bool.eq_iff_iff]
  have e1 : (rightN (Pd.ns ⟨x0, x1, x2, x3, x4, x5, x6, x7, x8, x9, x10, x11, x12, x13⟩) = true) ↔ RightN (Pd.ns ⟨x0, x1, x2, x3, x4, x5, x6, x7, x8, x9, x10, x11, x12, x13⟩) := ⟨rightN_of, rightN_yes⟩
  rw [e1]
  simp only [withB, List.all_cons, List.all_nil, Bool.and_true, Bool.and_eq_true, decide_eq_true_eq]
  constructor
  · intro h
    have k0 := h.2 0 (by omega)
    have k1 := h.2 1 (by omega)
    have k2 := h.2 2 (by omega)
    have k3 := h.2 3 (by omega)
    have k4 := h.2 4 (by omega)
    have k5 := h.2 5 (by omega)
    have k6 := h.2 6 (by omega)
    have k7 := h.2 7 (by omega)
    have k9 := h.2 9 (by omega)
    have k10 := h.2 10 (by omega)
    have k11 := h.2 11 (by omega)
    have k12 := h.2 12 (by omega)
    simp [Pd.ns, mosts] at k0 k1 k2 k3 k4 k5 k6 k7 k9 k10 k11 k12
    clear h e1 h8 h13
    omega
  · intro h
    refine ⟨rfl, fun j hj => ?_⟩
    rcases (show j = 0 ∨ j = 1 ∨ j = 2 ∨ j = 3 ∨ j = 4 ∨ j = 5 ∨ j = 6 ∨ j = 7 ∨ j = 8 ∨ j = 9 ∨ j = 10 ∨ j = 11 ∨ j = 12 ∨ j = 13 by omega) with rfl | rfl | rfl | rfl | rfl | rfl | rfl | rfl | rfl | rfl | rfl | rfl | rfl | rfl <;> (simp [Pd.ns, mosts]; omega)
set_option maxRecDepth 100000 in
set_option maxHeartbeats 4000000 in
theorem iright_any (p : Pd) (w : World) : Calls Try.prog 33 #[p.V] w fun e w' => e = .returned (.bool (rightN p.ns)) ∧ New w w' := by
  rw [right_within]
  obtain ⟨x0, x1, x2, x3, x4, x5, x6, x7, x8, x9, x10, x11, x12, x13⟩ := p
  simp only
  have HW1 : Hid (∀ (g : Nat) (w : World), Has w g 3 #[.int .i64 x0] → Calls Try.prog 68 #[.int .i64 1, .int .i64 4, .slice (some ⟨g, 0, none⟩) 1 1] w fun e w' => e = .returned (.bool (withB 1 4 [x0])) ∧ New w w') := fun g w h => within_any _ _ _ 1 1 g rfl (by omega) w h
  generalize withB 1 4 [x0] = b1 at HW1 ⊢
  have HW2 : Hid (∀ (g : Nat) (w : World), Has w g 3 #[.int .i64 x1] → Calls Try.prog 68 #[.int .i64 1, .int .i64 4, .slice (some ⟨g, 0, none⟩) 1 1] w fun e w' => e = .returned (.bool (withB 1 4 [x1])) ∧ New w w') := fun g w h => within_any _ _ _ 1 1 g rfl (by omega) w h
  generalize withB 1 4 [x1] = b2 at HW2 ⊢
  have HW3 : Hid (∀ (g : Nat) (w : World), Has w g 3 #[.int .i64 x2, .int .i64 x3] → Calls Try.prog 68 #[.int .i64 1, .int .i64 65535, .slice (some ⟨g, 0, none⟩) 2 2] w fun e w' => e = .returned (.bool (withB 1 65535 [x2, x3])) ∧ New w w') := fun g w h => within_any _ _ _ 2 2 g rfl (by omega) w h
  generalize withB 1 65535 [x2, x3] = b3 at HW3 ⊢
  have HW4 : Hid (∀ (g : Nat) (w : World), Has w g 3 #[.int .i64 x4] → Calls Try.prog 68 #[.int .i64 1, .int .i64 255, .slice (some ⟨g, 0, none⟩) 1 1] w fun e w' => e = .returned (.bool (withB 1 255 [x4])) ∧ New w w') := fun g w h => within_any _ _ _ 1 1 g rfl (by omega) w h
  generalize withB 1 255 [x4] = b4 at HW4 ⊢
  have HW5 : Hid (∀ (g : Nat) (w : World), Has w g 3 #[.int .i64 x5] → Calls Try.prog 68 #[.int .i64 0, .int .i64 2147483648, .slice (some ⟨g, 0, none⟩) 1 1] w fun e w' => e = .returned (.bool (withB 0 2147483648 [x5])) ∧ New w w') := fun g w h => within_any _ _ _ 1 1 g rfl (by omega) w h
  generalize withB 0 2147483648 [x5] = b5 at HW5 ⊢
  have HW6 : Hid (∀ (g : Nat) (w : World), Has w g 3 #[.int .i64 x6, .int .i64 x10, .int .i64 x11, .int .i64 x12] → Calls Try.prog 68 #[.int .i64 0, .int .i64 65535, .slice (some ⟨g, 0, none⟩) 4 4] w fun e w' => e = .returned (.bool (withB 0 65535 [x6, x10, x11, x12])) ∧ New w w') := fun g w h => within_any _ _ _ 4 4 g rfl (by omega) w h
  generalize withB 0 65535 [x6, x10, x11, x12] = b6 at HW6 ⊢
  have HW7 : Hid (∀ (g : Nat) (w : World), Has w g 3 #[.int .i64 x7, .int .i64 x9] → Calls Try.prog 68 #[.int .i64 0, .int .i64 255, .slice (some ⟨g, 0, none⟩) 2 2] w fun e w' => e = .returned (.bool (withB 0 255 [x7, x9])) ∧ New w w') := fun g w h => within_any _ _ _ 2 2 g rfl (by omega) w h
  generalize withB 0 255 [x7, x9] = b7 at HW7 ⊢
  go_enter Try.func33, Try.ntmps33
  go_upto_region 1 with (fail)
  obtain ⟨w1, hw1⟩ : ∃ w1, w1 = w.alloc (.cells #[.int .i64 x0, .int .i64 x1, .int .i64 x2, .int .i64 x3, .int .i64 x4, .int .i64 x5, .int .i64 x6, .int .i64 x7, .bool x8, .int .i64 x9, .int .i64 x10, .int .i64 x11, .int .i64 x12, .bool x13] 24) := ⟨_, rfl⟩
  obtain ⟨g, hg⟩ : ∃ g, g = w.heap.size := ⟨_, rfl⟩
  have HB : Hid (Has w1 g 24 #[.int .i64 x0, .int .i64 x1, .int .i64 x2, .int .i64 x3, .int .i64 x4, .int .i64 x5, .int .i64 x6, .int .i64 x7, .bool x8, .int .i64 x9, .int .i64 x10, .int .i64 x11, .int .i64 x12, .bool x13]) := by rw [hw1, hg]; exact Has.new _ _ _
  have HN : Hid (New w w1) := by rw [hw1]; exact (Chg.refl _ _).alloc _
  rw [← hw1, ← hg]
  clear hw1 hg
  have HK : Hid (∀ wx, New w1 wx → (wx.cell? ⟨g, 0, none⟩ = some (.int .i64 x0) ∧ wx.cell? ⟨g, 1, none⟩ = some (.int .i64 x1) ∧ wx.cell? ⟨g, 2, none⟩ = some (.int .i64 x2) ∧ wx.cell? ⟨g, 3, none⟩ = some (.int .i64 x3) ∧ wx.cell? ⟨g, 4, none⟩ = some (.int .i64 x4) ∧ wx.cell? ⟨g, 5, none⟩ = some (.int .i64 x5) ∧ wx.cell? ⟨g, 6, none⟩ = some (.int .i64 x6) ∧ wx.cell? ⟨g, 10, none⟩ = some (.int .i64 x10) ∧ wx.cell? ⟨g, 11, none⟩ = some (.int .i64 x11) ∧ wx.cell? ⟨g, 12, none⟩ = some (.int .i64 x12) ∧ wx.cell? ⟨g, 7, none⟩ = some (.int .i64 x7) ∧ wx.cell? ⟨g, 9, none⟩ = some (.int .i64 x9))) := fun wx h => ⟨((HB.out.keep h).cell 0).trans rfl, ((HB.out.keep h).cell 1).trans rfl, ((HB.out.keep h).cell 2).trans rfl, ((HB.out.keep h).cell 3).trans rfl, ((HB.out.keep h).cell 4).trans rfl, ((HB.out.keep h).cell 5).trans rfl, ((HB.out.keep h).cell 6).trans rfl, ((HB.out.keep h).cell 10).trans rfl, ((HB.out.keep h).cell 11).trans rfl, ((HB.out.keep h).cell 12).trans rfl, ((HB.out.keep h).cell 7).trans rfl, ((HB.out.keep h).cell 9).trans rfl⟩
  have Hlt : Hid (g < w1.heap.size) := HB.out.lt
  have HN0 : Hid (New w1 w1) := Chg.refl _ _
  have K0 := HK.out _ HN0.out
  go_wp2_with fail
  with_reducible refine (HW1.out _ _ (Has.new _ _ _)).mono ?_
  rintro e v1 ⟨rfl, hN⟩
  have HN1 : Hid (New w1 v1) := Chg.then_new (HN0.out.alloc _) hN
  have K1 := HK.out _ HN1.out
  have hl1 : g < v1.heap.size := Nat.lt_of_lt_of_le Hlt.out HN1.out.size
  clear hN
  cases b1 with
  | false => (go_wp2_with fail; go_ret; exact ⟨rfl, HN.out.then_new HN1.out⟩)
  | true =>
    go_wp2_with fail
    with_reducible refine (HW2.out _ _ (Has.new _ _ _)).mono ?_
    rintro e v2 ⟨rfl, hN⟩
    have HN2 : Hid (New w1 v2) := Chg.then_new (HN1.out.alloc _) hN
    have K2 := HK.out _ HN2.out
    have hl2 : g < v2.heap.size := Nat.lt_of_lt_of_le Hlt.out HN2.out.size
    clear hN
    cases b2 with
    | false => (go_wp2_with fail; go_ret; exact ⟨rfl, HN.out.then_new HN2.out⟩)
    | true =>
      go_wp2_with fail
      with_reducible refine (HW3.out _ _ (Has.new _ _ _)).mono ?_
      rintro e v3 ⟨rfl, hN⟩
      have HN3 : Hid (New w1 v3) := Chg.then_new (HN2.out.alloc _) hN
      have K3 := HK.out _ HN3.out
      have hl3 : g < v3.heap.size := Nat.lt_of_lt_of_le Hlt.out HN3.out.size
      clear hN
      cases b3 with
      | false => (go_wp2_with fail; go_ret; exact ⟨rfl, HN.out.then_new HN3.out⟩)
      | true =>
        go_wp2_with fail
        with_reducible refine (HW4.out _ _ (Has.new _ _ _)).mono ?_
        rintro e v4 ⟨rfl, hN⟩
        have HN4 : Hid (New w1 v4) := Chg.then_new (HN3.out.alloc _) hN
        have K4 := HK.out _ HN4.out
        have hl4 : g < v4.heap.size := Nat.lt_of_lt_of_le Hlt.out HN4.out.size
        clear hN
        cases b4 with
        | false => (go_wp2_with fail; go_ret; exact ⟨rfl, HN.out.then_new HN4.out⟩)
        | true =>
          go_wp2_with fail
          with_reducible refine (HW5.out _ _ (Has.new _ _ _)).mono ?_
          rintro e v5 ⟨rfl, hN⟩
          have HN5 : Hid (New w1 v5) := Chg.then_new (HN4.out.alloc _) hN
          have K5 := HK.out _ HN5.out
          have hl5 : g < v5.heap.size := Nat.lt_of_lt_of_le Hlt.out HN5.out.size
          clear hN
          cases b5 with
          | false => (go_wp2_with fail; go_ret; exact ⟨rfl, HN.out.then_new HN5.out⟩)
          | true =>
            go_wp2_with fail
            with_reducible refine (HW6.out _ _ (Has.new _ _ _)).mono ?_
            rintro e v6 ⟨rfl, hN⟩
            have HN6 : Hid (New w1 v6) := Chg.then_new (HN5.out.alloc _) hN
            have K6 := HK.out _ HN6.out
            have hl6 : g < v6.heap.size := Nat.lt_of_lt_of_le Hlt.out HN6.out.size
            clear hN
            cases b6 with
            | false => (go_wp2_with fail; go_ret; exact ⟨rfl, HN.out.then_new HN6.out⟩)
            | true =>
              go_wp2_with fail
              with_reducible refine (HW7.out _ _ (Has.new _ _ _)).mono ?_
              rintro e v7 ⟨rfl, hN⟩
              have HN7 : Hid (New w1 v7) := Chg.then_new (HN6.out.alloc _) hN
              have K7 := HK.out _ HN7.out
              have hl7 : g < v7.heap.size := Nat.lt_of_lt_of_le Hlt.out HN7.out.size
              clear hN
              cases b7 with
              | false => (go_wp2_with fail; go_ret; exact ⟨rfl, HN.out.then_new HN7.out⟩)
              | true =>
                go_wp2_with fail
                go_ret
                exact ⟨rfl, HN.out.then_new HN7.out⟩
end Go.Proofs.Ytkcokcanakljnaa
