/-
  The law IpeApart, walked.
-/
import Derived.Test.YtdaaejoglikhaaaOpenI
import Derived.Deep.QuietTactic
namespace Go.Proofs.Ytdaaejoglikhaaa
open Go.RowKit
theorem form_inj {m n : List Int} (hm : RightN m) (hn : RightN n) (h : formN m = formN n) : m = n := by
  have h1 := parse_form hm
  rw [h, parse_form hn] at h1
  cases h1; rfl
theorem form_pre {m n : List Int} {k : Nat} (hm : RightN m) (hn : RightN n) (hk : k = min (formN m).length (formN n).length) (h : (formN m).take k = (formN n).take k) : m = n := by
  have e1 : (formN m).length = (innerB 1 m).length + 2 := by simp [formN]
  have e2 : (formN n).length = (innerB 1 n).length + 2 := by simp [formN]
  have hs := congrArg (fun l => l[1]?) h
  simp only [List.getElem?_take] at hs
  rw [if_pos (by omega), if_pos (by omega)] at hs
  have hl : (innerB 1 m).length = (innerB 1 n).length := by simpa [formN] using hs
  rw [List.take_of_length_le (by omega), List.take_of_length_le (by omega)] at h
  exact form_inj hm hn h
theorem pd_if {x0 x1 x2 x3 x4 x5 x6 x7 x9 x10 x11 x12 y0 y1 y2 y3 y4 y5 y6 y7 y9 y10 y11 y12 : Int} {x8 x13 y8 y13 : Bool} (h : ¬ (⟨x0, x1, x2, x3, x4, x5, x6, x7, x8, x9, x10, x11, x12, x13⟩ : Pd) = ⟨y0, y1, y2, y3, y4, y5, y6, y7, y8, y9, y10, y11, y12, y13⟩) (wz : World) : (if x0 = y0 then (if x1 = y1 then (if x2 = y2 then (if x3 = y3 then (if x4 = y4 then (if x5 = y5 then (if x6 = y6 then (if x7 = y7 then (if x8 = y8 then (if x9 = y9 then (if x10 = y10 then (if x11 = y11 then (if x12 = y12 then (if x13 = y13 then (Result.ok (Value.bool true) wz : Result Value) else Result.ok (Value.bool false) wz) else Result.ok (Value.bool false) wz) else Result.ok (Value.bool false) wz) else Result.ok (Value.bool false) wz) else Result.ok (Value.bool false) wz) else Result.ok (Value.bool false) wz) else Result.ok (Value.bool false) wz) else Result.ok (Value.bool false) wz) else Result.ok (Value.bool false) wz) else Result.ok (Value.bool false) wz) else Result.ok (Value.bool false) wz) else Result.ok (Value.bool false) wz) else Result.ok (Value.bool false) wz) else Result.ok (Value.bool false) wz) = Result.ok (Value.bool false) wz := by
  by_cases c0 : x0 = y0
  case neg => rw [if_neg c0]
  rw [if_pos c0]
  by_cases c1 : x1 = y1
  case neg => rw [if_neg c1]
  rw [if_pos c1]
  by_cases c2 : x2 = y2
  case neg => rw [if_neg c2]
  rw [if_pos c2]
  by_cases c3 : x3 = y3
  case neg => rw [if_neg c3]
  rw [if_pos c3]
  by_cases c4 : x4 = y4
  case neg => rw [if_neg c4]
  rw [if_pos c4]
  by_cases c5 : x5 = y5
  case neg => rw [if_neg c5]
  rw [if_pos c5]
  by_cases c6 : x6 = y6
  case neg => rw [if_neg c6]
  rw [if_pos c6]
  by_cases c7 : x7 = y7
  case neg => rw [if_neg c7]
  rw [if_pos c7]
  by_cases c8 : x8 = y8
  case neg => rw [if_neg c8]
  rw [if_pos c8]
  by_cases c9 : x9 = y9
  case neg => rw [if_neg c9]
  rw [if_pos c9]
  by_cases c10 : x10 = y10
  case neg => rw [if_neg c10]
  rw [if_pos c10]
  by_cases c11 : x11 = y11
  case neg => rw [if_neg c11]
  rw [if_pos c11]
  by_cases c12 : x12 = y12
  case neg => rw [if_neg c12]
  rw [if_pos c12]
  by_cases c13 : x13 = y13
  case neg => rw [if_neg c13]
  rw [if_pos c13]
  exact absurd (by rw [c0, c1, c2, c3, c4, c5, c6, c7, c8, c9, c10, c11, c12, c13]) h
set_option maxRecDepth 100000 in
set_option maxHeartbeats 4000000 in
theorem apart_walk (p q : Pd) (w : World) : Calls Try.prog 8 #[p.V, q.V] w fun e w' => e = .returned (.bool true) ∧ New w w' := by
  have HRa := Lib.hid (fun w => rRight10_any p w)
  have HRb := Lib.hid (fun w => rRight10_any q w)
  have HAw := Lib.hid (fun w => awake_any w)
  have HFa := Lib.hid (fun (h : RightN p.ns) w => iForm_yes p h w)
  have HFb := Lib.hid (fun (h : RightN q.ns) w => iForm_yes q h w)
  have Hpq : Hid (p.ns = q.ns → p = q) := fun h => Pd.ns_inj h
  have Hqp : Hid (p = q → p.ns = q.ns) := fun h => by rw [h]
  obtain ⟨m, hm⟩ : ∃ m, m = p.ns := ⟨_, rfl⟩
  obtain ⟨n, hn⟩ : ∃ n, n = q.ns := ⟨_, rfl⟩
  rw [← hm] at HRa HFa Hpq Hqp
  rw [← hn] at HRb HFb Hpq Hqp
  clear hm hn
  obtain ⟨x0, x1, x2, x3, x4, x5, x6, x7, x8, x9, x10, x11, x12, x13⟩ := p
  obtain ⟨y0, y1, y2, y3, y4, y5, y6, y7, y8, y9, y10, y11, y12, y13⟩ := q
  have HRa : Hid (∀ w, Calls Try.prog 13 #[.agg #[.int .i64 x0, .int .i64 x1, .int .i64 x2, .int .i64 x3, .int .i64 x4, .int .i64 x5, .int .i64 x6, .int .i64 x7, .bool x8, .int .i64 x9, .int .i64 x10, .int .i64 x11, .int .i64 x12, .bool x13]] w fun e w' => e = .returned (.bool (rightN m)) ∧ New w w') := HRa.out
  have HRb : Hid (∀ w, Calls Try.prog 13 #[.agg #[.int .i64 y0, .int .i64 y1, .int .i64 y2, .int .i64 y3, .int .i64 y4, .int .i64 y5, .int .i64 y6, .int .i64 y7, .bool y8, .int .i64 y9, .int .i64 y10, .int .i64 y11, .int .i64 y12, .bool y13]] w fun e w' => e = .returned (.bool (rightN n)) ∧ New w w') := HRb.out
  have HFa : Hid (RightN m → ∀ w, Calls Try.prog 11 #[.agg #[.int .i64 x0, .int .i64 x1, .int .i64 x2, .int .i64 x3, .int .i64 x4, .int .i64 x5, .int .i64 x6, .int .i64 x7, .bool x8, .int .i64 x9, .int .i64 x10, .int .i64 x11, .int .i64 x12, .bool x13]] w fun e w' => ∃ A c, e = .returned (.tuple #[.slice A (formN m).length c, .int .i64 0]) ∧ w'.ownsRow w.heap.size 5 1 (.slice A (formN m).length c) (formN m).length ((formN m).map bV) ∧ New w w') := HFa.out
  have HFb : Hid (RightN n → ∀ w, Calls Try.prog 11 #[.agg #[.int .i64 y0, .int .i64 y1, .int .i64 y2, .int .i64 y3, .int .i64 y4, .int .i64 y5, .int .i64 y6, .int .i64 y7, .bool y8, .int .i64 y9, .int .i64 y10, .int .i64 y11, .int .i64 y12, .bool y13]] w fun e w' => ∃ A c, e = .returned (.tuple #[.slice A (formN n).length c, .int .i64 0]) ∧ w'.ownsRow w.heap.size 5 1 (.slice A (formN n).length c) (formN n).length ((formN n).map bV) ∧ New w w') := HFb.out
  go_enter Try.func8, Try.ntmps8
  go_upto_region 1 with (fail)
  obtain ⟨w0, hw0⟩ : ∃ w0, w0 = (w.alloc (.cells #[.int .i64 x0, .int .i64 x1, .int .i64 x2, .int .i64 x3, .int .i64 x4, .int .i64 x5, .int .i64 x6, .int .i64 x7, .bool x8, .int .i64 x9, .int .i64 x10, .int .i64 x11, .int .i64 x12, .bool x13] 24)).alloc (.cells #[.int .i64 y0, .int .i64 y1, .int .i64 y2, .int .i64 y3, .int .i64 y4, .int .i64 y5, .int .i64 y6, .int .i64 y7, .bool y8, .int .i64 y9, .int .i64 y10, .int .i64 y11, .int .i64 y12, .bool y13] 24) := ⟨_, rfl⟩
  obtain ⟨bb, hbb⟩ : ∃ bb, bb = w.heap.size + 1 := ⟨_, rfl⟩
  obtain ⟨ba, hba⟩ : ∃ ba, ba = w.heap.size := ⟨_, rfl⟩
  have HA : Hid (Has w0 ba 24 #[.int .i64 x0, .int .i64 x1, .int .i64 x2, .int .i64 x3, .int .i64 x4, .int .i64 x5, .int .i64 x6, .int .i64 x7, .bool x8, .int .i64 x9, .int .i64 x10, .int .i64 x11, .int .i64 x12, .bool x13]) := by rw [hw0, hba]; exact (Has.new _ _ _).alloc _
  have HB : Hid (Has w0 bb 24 #[.int .i64 y0, .int .i64 y1, .int .i64 y2, .int .i64 y3, .int .i64 y4, .int .i64 y5, .int .i64 y6, .int .i64 y7, .bool y8, .int .i64 y9, .int .i64 y10, .int .i64 y11, .int .i64 y12, .bool y13]) := by rw [hw0, hbb]; exact Has.new_at _ _ _ _ (by simp)
  have HN0 : Hid (New w w0) := by rw [hw0]; exact ((Chg.refl _ _).alloc _).alloc _
  rw [← hw0, ← hbb, ← hba]
  clear hw0 hbb hba
  have k0 : w0.cell? ⟨ba, 0, none⟩ = some (.int .i64 x0) := (HA.out.cell 0).trans rfl
  have k1 : w0.cell? ⟨ba, 1, none⟩ = some (.int .i64 x1) := (HA.out.cell 1).trans rfl
  have k2 : w0.cell? ⟨ba, 2, none⟩ = some (.int .i64 x2) := (HA.out.cell 2).trans rfl
  have k3 : w0.cell? ⟨ba, 3, none⟩ = some (.int .i64 x3) := (HA.out.cell 3).trans rfl
  have k4 : w0.cell? ⟨ba, 4, none⟩ = some (.int .i64 x4) := (HA.out.cell 4).trans rfl
  have k5 : w0.cell? ⟨ba, 5, none⟩ = some (.int .i64 x5) := (HA.out.cell 5).trans rfl
  have k6 : w0.cell? ⟨ba, 6, none⟩ = some (.int .i64 x6) := (HA.out.cell 6).trans rfl
  have k7 : w0.cell? ⟨ba, 7, none⟩ = some (.int .i64 x7) := (HA.out.cell 7).trans rfl
  have k8 : w0.cell? ⟨ba, 8, none⟩ = some (.bool x8) := (HA.out.cell 8).trans rfl
  have k9 : w0.cell? ⟨ba, 9, none⟩ = some (.int .i64 x9) := (HA.out.cell 9).trans rfl
  have k10 : w0.cell? ⟨ba, 10, none⟩ = some (.int .i64 x10) := (HA.out.cell 10).trans rfl
  have k11 : w0.cell? ⟨ba, 11, none⟩ = some (.int .i64 x11) := (HA.out.cell 11).trans rfl
  have k12 : w0.cell? ⟨ba, 12, none⟩ = some (.int .i64 x12) := (HA.out.cell 12).trans rfl
  have k13 : w0.cell? ⟨ba, 13, none⟩ = some (.bool x13) := (HA.out.cell 13).trans rfl
  have l0 : w0.cell? ⟨bb, 0, none⟩ = some (.int .i64 y0) := (HB.out.cell 0).trans rfl
  have l1 : w0.cell? ⟨bb, 1, none⟩ = some (.int .i64 y1) := (HB.out.cell 1).trans rfl
  have l2 : w0.cell? ⟨bb, 2, none⟩ = some (.int .i64 y2) := (HB.out.cell 2).trans rfl
  have l3 : w0.cell? ⟨bb, 3, none⟩ = some (.int .i64 y3) := (HB.out.cell 3).trans rfl
  have l4 : w0.cell? ⟨bb, 4, none⟩ = some (.int .i64 y4) := (HB.out.cell 4).trans rfl
  have l5 : w0.cell? ⟨bb, 5, none⟩ = some (.int .i64 y5) := (HB.out.cell 5).trans rfl
  have l6 : w0.cell? ⟨bb, 6, none⟩ = some (.int .i64 y6) := (HB.out.cell 6).trans rfl
  have l7 : w0.cell? ⟨bb, 7, none⟩ = some (.int .i64 y7) := (HB.out.cell 7).trans rfl
  have l8 : w0.cell? ⟨bb, 8, none⟩ = some (.bool y8) := (HB.out.cell 8).trans rfl
  have l9 : w0.cell? ⟨bb, 9, none⟩ = some (.int .i64 y9) := (HB.out.cell 9).trans rfl
  have l10 : w0.cell? ⟨bb, 10, none⟩ = some (.int .i64 y10) := (HB.out.cell 10).trans rfl
  have l11 : w0.cell? ⟨bb, 11, none⟩ = some (.int .i64 y11) := (HB.out.cell 11).trans rfl
  have l12 : w0.cell? ⟨bb, 12, none⟩ = some (.int .i64 y12) := (HB.out.cell 12).trans rfl
  have l13 : w0.cell? ⟨bb, 13, none⟩ = some (.bool y13) := (HB.out.cell 13).trans rfl
  go_wp2_with fail
  with_reducible refine (HAw.out _).mono ?_
  rintro e w1 ⟨rfl, hN⟩
  have HN1 := Lib.hid (HN0.out.then_new hN)
  have HA := Lib.hid (HA.out.keep hN)
  have HB := Lib.hid (HB.out.keep hN)
  clear hN k0 k1 k2 k3 k4 k5 k6 k7 k8 k9 k10 k11 k12 k13 l0 l1 l2 l3 l4 l5 l6 l7 l8 l9 l10 l11 l12 l13
  have k0 : w1.cell? ⟨ba, 0, none⟩ = some (.int .i64 x0) := (HA.out.cell 0).trans rfl
  have k1 : w1.cell? ⟨ba, 1, none⟩ = some (.int .i64 x1) := (HA.out.cell 1).trans rfl
  have k2 : w1.cell? ⟨ba, 2, none⟩ = some (.int .i64 x2) := (HA.out.cell 2).trans rfl
  have k3 : w1.cell? ⟨ba, 3, none⟩ = some (.int .i64 x3) := (HA.out.cell 3).trans rfl
  have k4 : w1.cell? ⟨ba, 4, none⟩ = some (.int .i64 x4) := (HA.out.cell 4).trans rfl
  have k5 : w1.cell? ⟨ba, 5, none⟩ = some (.int .i64 x5) := (HA.out.cell 5).trans rfl
  have k6 : w1.cell? ⟨ba, 6, none⟩ = some (.int .i64 x6) := (HA.out.cell 6).trans rfl
  have k7 : w1.cell? ⟨ba, 7, none⟩ = some (.int .i64 x7) := (HA.out.cell 7).trans rfl
  have k8 : w1.cell? ⟨ba, 8, none⟩ = some (.bool x8) := (HA.out.cell 8).trans rfl
  have k9 : w1.cell? ⟨ba, 9, none⟩ = some (.int .i64 x9) := (HA.out.cell 9).trans rfl
  have k10 : w1.cell? ⟨ba, 10, none⟩ = some (.int .i64 x10) := (HA.out.cell 10).trans rfl
  have k11 : w1.cell? ⟨ba, 11, none⟩ = some (.int .i64 x11) := (HA.out.cell 11).trans rfl
  have k12 : w1.cell? ⟨ba, 12, none⟩ = some (.int .i64 x12) := (HA.out.cell 12).trans rfl
  have k13 : w1.cell? ⟨ba, 13, none⟩ = some (.bool x13) := (HA.out.cell 13).trans rfl
  have l0 : w1.cell? ⟨bb, 0, none⟩ = some (.int .i64 y0) := (HB.out.cell 0).trans rfl
  have l1 : w1.cell? ⟨bb, 1, none⟩ = some (.int .i64 y1) := (HB.out.cell 1).trans rfl
  have l2 : w1.cell? ⟨bb, 2, none⟩ = some (.int .i64 y2) := (HB.out.cell 2).trans rfl
  have l3 : w1.cell? ⟨bb, 3, none⟩ = some (.int .i64 y3) := (HB.out.cell 3).trans rfl
  have l4 : w1.cell? ⟨bb, 4, none⟩ = some (.int .i64 y4) := (HB.out.cell 4).trans rfl
  have l5 : w1.cell? ⟨bb, 5, none⟩ = some (.int .i64 y5) := (HB.out.cell 5).trans rfl
  have l6 : w1.cell? ⟨bb, 6, none⟩ = some (.int .i64 y6) := (HB.out.cell 6).trans rfl
  have l7 : w1.cell? ⟨bb, 7, none⟩ = some (.int .i64 y7) := (HB.out.cell 7).trans rfl
  have l8 : w1.cell? ⟨bb, 8, none⟩ = some (.bool y8) := (HB.out.cell 8).trans rfl
  have l9 : w1.cell? ⟨bb, 9, none⟩ = some (.int .i64 y9) := (HB.out.cell 9).trans rfl
  have l10 : w1.cell? ⟨bb, 10, none⟩ = some (.int .i64 y10) := (HB.out.cell 10).trans rfl
  have l11 : w1.cell? ⟨bb, 11, none⟩ = some (.int .i64 y11) := (HB.out.cell 11).trans rfl
  have l12 : w1.cell? ⟨bb, 12, none⟩ = some (.int .i64 y12) := (HB.out.cell 12).trans rfl
  have l13 : w1.cell? ⟨bb, 13, none⟩ = some (.bool y13) := (HB.out.cell 13).trans rfl
  go_wp2_with fail
  with_reducible refine (HRa.out _).mono ?_
  rintro e w2 ⟨rfl, hN⟩
  have HN2 := Lib.hid (HN1.out.then_new hN)
  have HA := Lib.hid (HA.out.keep hN)
  have HB := Lib.hid (HB.out.keep hN)
  clear hN k0 k1 k2 k3 k4 k5 k6 k7 k8 k9 k10 k11 k12 k13 l0 l1 l2 l3 l4 l5 l6 l7 l8 l9 l10 l11 l12 l13
  have k0 : w2.cell? ⟨ba, 0, none⟩ = some (.int .i64 x0) := (HA.out.cell 0).trans rfl
  have k1 : w2.cell? ⟨ba, 1, none⟩ = some (.int .i64 x1) := (HA.out.cell 1).trans rfl
  have k2 : w2.cell? ⟨ba, 2, none⟩ = some (.int .i64 x2) := (HA.out.cell 2).trans rfl
  have k3 : w2.cell? ⟨ba, 3, none⟩ = some (.int .i64 x3) := (HA.out.cell 3).trans rfl
  have k4 : w2.cell? ⟨ba, 4, none⟩ = some (.int .i64 x4) := (HA.out.cell 4).trans rfl
  have k5 : w2.cell? ⟨ba, 5, none⟩ = some (.int .i64 x5) := (HA.out.cell 5).trans rfl
  have k6 : w2.cell? ⟨ba, 6, none⟩ = some (.int .i64 x6) := (HA.out.cell 6).trans rfl
  have k7 : w2.cell? ⟨ba, 7, none⟩ = some (.int .i64 x7) := (HA.out.cell 7).trans rfl
  have k8 : w2.cell? ⟨ba, 8, none⟩ = some (.bool x8) := (HA.out.cell 8).trans rfl
  have k9 : w2.cell? ⟨ba, 9, none⟩ = some (.int .i64 x9) := (HA.out.cell 9).trans rfl
  have k10 : w2.cell? ⟨ba, 10, none⟩ = some (.int .i64 x10) := (HA.out.cell 10).trans rfl
  have k11 : w2.cell? ⟨ba, 11, none⟩ = some (.int .i64 x11) := (HA.out.cell 11).trans rfl
  have k12 : w2.cell? ⟨ba, 12, none⟩ = some (.int .i64 x12) := (HA.out.cell 12).trans rfl
  have k13 : w2.cell? ⟨ba, 13, none⟩ = some (.bool x13) := (HA.out.cell 13).trans rfl
  have l0 : w2.cell? ⟨bb, 0, none⟩ = some (.int .i64 y0) := (HB.out.cell 0).trans rfl
  have l1 : w2.cell? ⟨bb, 1, none⟩ = some (.int .i64 y1) := (HB.out.cell 1).trans rfl
  have l2 : w2.cell? ⟨bb, 2, none⟩ = some (.int .i64 y2) := (HB.out.cell 2).trans rfl
  have l3 : w2.cell? ⟨bb, 3, none⟩ = some (.int .i64 y3) := (HB.out.cell 3).trans rfl
  have l4 : w2.cell? ⟨bb, 4, none⟩ = some (.int .i64 y4) := (HB.out.cell 4).trans rfl
  have l5 : w2.cell? ⟨bb, 5, none⟩ = some (.int .i64 y5) := (HB.out.cell 5).trans rfl
  have l6 : w2.cell? ⟨bb, 6, none⟩ = some (.int .i64 y6) := (HB.out.cell 6).trans rfl
  have l7 : w2.cell? ⟨bb, 7, none⟩ = some (.int .i64 y7) := (HB.out.cell 7).trans rfl
  have l8 : w2.cell? ⟨bb, 8, none⟩ = some (.bool y8) := (HB.out.cell 8).trans rfl
  have l9 : w2.cell? ⟨bb, 9, none⟩ = some (.int .i64 y9) := (HB.out.cell 9).trans rfl
  have l10 : w2.cell? ⟨bb, 10, none⟩ = some (.int .i64 y10) := (HB.out.cell 10).trans rfl
  have l11 : w2.cell? ⟨bb, 11, none⟩ = some (.int .i64 y11) := (HB.out.cell 11).trans rfl
  have l12 : w2.cell? ⟨bb, 12, none⟩ = some (.int .i64 y12) := (HB.out.cell 12).trans rfl
  have l13 : w2.cell? ⟨bb, 13, none⟩ = some (.bool y13) := (HB.out.cell 13).trans rfl
  cases hra : rightN m with
  | false =>
    go_wp2_with fail
    with_reducible refine (HAw.out _).mono ?_
    rintro e w3 ⟨rfl, hN⟩
    have HN3 := Lib.hid (HN2.out.then_new hN)
    clear hN
    go_wp2_with fail
    go_ret
    exact ⟨rfl, HN3.out⟩
  | true =>
    have Hm := Lib.hid (rightN_of hra)
    clear hra
    go_wp2_with fail
    with_reducible refine (HRb.out _).mono ?_
    rintro e w3 ⟨rfl, hN⟩
    have HN3 := Lib.hid (HN2.out.then_new hN)
    have HA := Lib.hid (HA.out.keep hN)
    have HB := Lib.hid (HB.out.keep hN)
    clear hN k0 k1 k2 k3 k4 k5 k6 k7 k8 k9 k10 k11 k12 k13 l0 l1 l2 l3 l4 l5 l6 l7 l8 l9 l10 l11 l12 l13
    have k0 : w3.cell? ⟨ba, 0, none⟩ = some (.int .i64 x0) := (HA.out.cell 0).trans rfl
    have k1 : w3.cell? ⟨ba, 1, none⟩ = some (.int .i64 x1) := (HA.out.cell 1).trans rfl
    have k2 : w3.cell? ⟨ba, 2, none⟩ = some (.int .i64 x2) := (HA.out.cell 2).trans rfl
    have k3 : w3.cell? ⟨ba, 3, none⟩ = some (.int .i64 x3) := (HA.out.cell 3).trans rfl
    have k4 : w3.cell? ⟨ba, 4, none⟩ = some (.int .i64 x4) := (HA.out.cell 4).trans rfl
    have k5 : w3.cell? ⟨ba, 5, none⟩ = some (.int .i64 x5) := (HA.out.cell 5).trans rfl
    have k6 : w3.cell? ⟨ba, 6, none⟩ = some (.int .i64 x6) := (HA.out.cell 6).trans rfl
    have k7 : w3.cell? ⟨ba, 7, none⟩ = some (.int .i64 x7) := (HA.out.cell 7).trans rfl
    have k8 : w3.cell? ⟨ba, 8, none⟩ = some (.bool x8) := (HA.out.cell 8).trans rfl
    have k9 : w3.cell? ⟨ba, 9, none⟩ = some (.int .i64 x9) := (HA.out.cell 9).trans rfl
    have k10 : w3.cell? ⟨ba, 10, none⟩ = some (.int .i64 x10) := (HA.out.cell 10).trans rfl
    have k11 : w3.cell? ⟨ba, 11, none⟩ = some (.int .i64 x11) := (HA.out.cell 11).trans rfl
    have k12 : w3.cell? ⟨ba, 12, none⟩ = some (.int .i64 x12) := (HA.out.cell 12).trans rfl
    have k13 : w3.cell? ⟨ba, 13, none⟩ = some (.bool x13) := (HA.out.cell 13).trans rfl
    have l0 : w3.cell? ⟨bb, 0, none⟩ = some (.int .i64 y0) := (HB.out.cell 0).trans rfl
    have l1 : w3.cell? ⟨bb, 1, none⟩ = some (.int .i64 y1) := (HB.out.cell 1).trans rfl
    have l2 : w3.cell? ⟨bb, 2, none⟩ = some (.int .i64 y2) := (HB.out.cell 2).trans rfl
    have l3 : w3.cell? ⟨bb, 3, none⟩ = some (.int .i64 y3) := (HB.out.cell 3).trans rfl
    have l4 : w3.cell? ⟨bb, 4, none⟩ = some (.int .i64 y4) := (HB.out.cell 4).trans rfl
    have l5 : w3.cell? ⟨bb, 5, none⟩ = some (.int .i64 y5) := (HB.out.cell 5).trans rfl
    have l6 : w3.cell? ⟨bb, 6, none⟩ = some (.int .i64 y6) := (HB.out.cell 6).trans rfl
    have l7 : w3.cell? ⟨bb, 7, none⟩ = some (.int .i64 y7) := (HB.out.cell 7).trans rfl
    have l8 : w3.cell? ⟨bb, 8, none⟩ = some (.bool y8) := (HB.out.cell 8).trans rfl
    have l9 : w3.cell? ⟨bb, 9, none⟩ = some (.int .i64 y9) := (HB.out.cell 9).trans rfl
    have l10 : w3.cell? ⟨bb, 10, none⟩ = some (.int .i64 y10) := (HB.out.cell 10).trans rfl
    have l11 : w3.cell? ⟨bb, 11, none⟩ = some (.int .i64 y11) := (HB.out.cell 11).trans rfl
    have l12 : w3.cell? ⟨bb, 12, none⟩ = some (.int .i64 y12) := (HB.out.cell 12).trans rfl
    have l13 : w3.cell? ⟨bb, 13, none⟩ = some (.bool y13) := (HB.out.cell 13).trans rfl
    cases hrb : rightN n with
    | false =>
      go_wp2_with fail
      with_reducible refine (HAw.out _).mono ?_
      rintro e w4 ⟨rfl, hN⟩
      have HN4 := Lib.hid (HN3.out.then_new hN)
      clear hN
      go_wp2_with fail
      go_ret
      exact ⟨rfl, HN4.out⟩
    | true =>
      have Hn := Lib.hid (rightN_of hrb)
      clear hrb
      have HFa := Lib.hid (HFa.out Hm.out)
      have HFb := Lib.hid (HFb.out Hn.out)
      have Hfm : Hid ((formN m).length ≤ 53 ∧ 2 ≤ (formN m).length ∧ ∀ x ∈ formN m, x < 256) := ⟨form_len Hm.out, by simp [formN], form_small Hm.out⟩
      have Hfn : Hid ((formN n).length ≤ 53 ∧ 2 ≤ (formN n).length ∧ ∀ x ∈ formN n, x < 256) := ⟨form_len Hn.out, by simp [formN], form_small Hn.out⟩
      have Hpre : Hid (∀ k, k = min (formN m).length (formN n).length → (formN m).take k = (formN n).take k → m = n) := fun k hk h => form_pre Hm.out Hn.out hk h
      have Hinj : Hid (formN m = formN n → m = n) := fun h => form_inj Hm.out Hn.out h
      have Heq : Hid (m = n → formN m = formN n) := fun h => by rw [h]
      obtain ⟨f, hf⟩ : ∃ f, f = formN m := ⟨_, rfl⟩
      obtain ⟨g, hg⟩ : ∃ g, g = formN n := ⟨_, rfl⟩
      rw [← hf] at HFa Hfm Hpre Hinj Heq
      rw [← hg] at HFb Hfn Hpre Hinj Heq
      clear hf hg Hm Hn
      obtain ⟨lf, hlf⟩ : ∃ l, l = f.length := ⟨_, rfl⟩
      obtain ⟨lg, hlg⟩ : ∃ l, l = g.length := ⟨_, rfl⟩
      rw [← hlf] at HFa Hfm Hpre
      rw [← hlg] at HFb Hfn Hpre
      have Hlf := Lib.hid hlf
      have Hlg := Lib.hid hlg
      clear hlf hlg
      go_wp2_with fail
      with_reducible refine (HFa.out _).mono ?_
      rintro e w4 ⟨A1, c1, rfl, hO1, hN⟩
      have HY1 := Lib.hid (Byts.own_any hO1 (Chg.refl _ _) Hfm.out.2.2 (by have := Hfm.out.1; omega))
      have Hc1 := Lib.hid (own_cap hO1)
      clear hO1
      have HN4 := Lib.hid (HN3.out.then_new hN)
      have HA := Lib.hid (HA.out.keep hN)
      have HB := Lib.hid (HB.out.keep hN)
      clear hN k0 k1 k2 k3 k4 k5 k6 k7 k8 k9 k10 k11 k12 k13 l0 l1 l2 l3 l4 l5 l6 l7 l8 l9 l10 l11 l12 l13
      have k0 : w4.cell? ⟨ba, 0, none⟩ = some (.int .i64 x0) := (HA.out.cell 0).trans rfl
      have k1 : w4.cell? ⟨ba, 1, none⟩ = some (.int .i64 x1) := (HA.out.cell 1).trans rfl
      have k2 : w4.cell? ⟨ba, 2, none⟩ = some (.int .i64 x2) := (HA.out.cell 2).trans rfl
      have k3 : w4.cell? ⟨ba, 3, none⟩ = some (.int .i64 x3) := (HA.out.cell 3).trans rfl
      have k4 : w4.cell? ⟨ba, 4, none⟩ = some (.int .i64 x4) := (HA.out.cell 4).trans rfl
      have k5 : w4.cell? ⟨ba, 5, none⟩ = some (.int .i64 x5) := (HA.out.cell 5).trans rfl
      have k6 : w4.cell? ⟨ba, 6, none⟩ = some (.int .i64 x6) := (HA.out.cell 6).trans rfl
      have k7 : w4.cell? ⟨ba, 7, none⟩ = some (.int .i64 x7) := (HA.out.cell 7).trans rfl
      have k8 : w4.cell? ⟨ba, 8, none⟩ = some (.bool x8) := (HA.out.cell 8).trans rfl
      have k9 : w4.cell? ⟨ba, 9, none⟩ = some (.int .i64 x9) := (HA.out.cell 9).trans rfl
      have k10 : w4.cell? ⟨ba, 10, none⟩ = some (.int .i64 x10) := (HA.out.cell 10).trans rfl
      have k11 : w4.cell? ⟨ba, 11, none⟩ = some (.int .i64 x11) := (HA.out.cell 11).trans rfl
      have k12 : w4.cell? ⟨ba, 12, none⟩ = some (.int .i64 x12) := (HA.out.cell 12).trans rfl
      have k13 : w4.cell? ⟨ba, 13, none⟩ = some (.bool x13) := (HA.out.cell 13).trans rfl
      have l0 : w4.cell? ⟨bb, 0, none⟩ = some (.int .i64 y0) := (HB.out.cell 0).trans rfl
      have l1 : w4.cell? ⟨bb, 1, none⟩ = some (.int .i64 y1) := (HB.out.cell 1).trans rfl
      have l2 : w4.cell? ⟨bb, 2, none⟩ = some (.int .i64 y2) := (HB.out.cell 2).trans rfl
      have l3 : w4.cell? ⟨bb, 3, none⟩ = some (.int .i64 y3) := (HB.out.cell 3).trans rfl
      have l4 : w4.cell? ⟨bb, 4, none⟩ = some (.int .i64 y4) := (HB.out.cell 4).trans rfl
      have l5 : w4.cell? ⟨bb, 5, none⟩ = some (.int .i64 y5) := (HB.out.cell 5).trans rfl
      have l6 : w4.cell? ⟨bb, 6, none⟩ = some (.int .i64 y6) := (HB.out.cell 6).trans rfl
      have l7 : w4.cell? ⟨bb, 7, none⟩ = some (.int .i64 y7) := (HB.out.cell 7).trans rfl
      have l8 : w4.cell? ⟨bb, 8, none⟩ = some (.bool y8) := (HB.out.cell 8).trans rfl
      have l9 : w4.cell? ⟨bb, 9, none⟩ = some (.int .i64 y9) := (HB.out.cell 9).trans rfl
      have l10 : w4.cell? ⟨bb, 10, none⟩ = some (.int .i64 y10) := (HB.out.cell 10).trans rfl
      have l11 : w4.cell? ⟨bb, 11, none⟩ = some (.int .i64 y11) := (HB.out.cell 11).trans rfl
      have l12 : w4.cell? ⟨bb, 12, none⟩ = some (.int .i64 y12) := (HB.out.cell 12).trans rfl
      have l13 : w4.cell? ⟨bb, 13, none⟩ = some (.bool y13) := (HB.out.cell 13).trans rfl
      go_wp2_with fail
      with_reducible refine (HFb.out _).mono ?_
      rintro e w5 ⟨A2, c2, rfl, hO2, hN⟩
      have HY2 := Lib.hid (Byts.own_any hO2 (Chg.refl _ _) Hfn.out.2.2 (by have := Hfn.out.1; omega))
      have HY1 := Lib.hid ((HY1.out.new hN (fun _ h => h)).mono (F' := (· < w5.heap.size)) (fun j hj => Nat.lt_of_lt_of_le hj hN.size))
      have Hc2 := Lib.hid (own_cap hO2)
      clear hO2
      have HN5 := Lib.hid (HN4.out.then_new hN)
      have HA := Lib.hid (HA.out.keep hN)
      have HB := Lib.hid (HB.out.keep hN)
      clear hN k0 k1 k2 k3 k4 k5 k6 k7 k8 k9 k10 k11 k12 k13 l0 l1 l2 l3 l4 l5 l6 l7 l8 l9 l10 l11 l12 l13
      have k0 : w5.cell? ⟨ba, 0, none⟩ = some (.int .i64 x0) := (HA.out.cell 0).trans rfl
      have k1 : w5.cell? ⟨ba, 1, none⟩ = some (.int .i64 x1) := (HA.out.cell 1).trans rfl
      have k2 : w5.cell? ⟨ba, 2, none⟩ = some (.int .i64 x2) := (HA.out.cell 2).trans rfl
      have k3 : w5.cell? ⟨ba, 3, none⟩ = some (.int .i64 x3) := (HA.out.cell 3).trans rfl
      have k4 : w5.cell? ⟨ba, 4, none⟩ = some (.int .i64 x4) := (HA.out.cell 4).trans rfl
      have k5 : w5.cell? ⟨ba, 5, none⟩ = some (.int .i64 x5) := (HA.out.cell 5).trans rfl
      have k6 : w5.cell? ⟨ba, 6, none⟩ = some (.int .i64 x6) := (HA.out.cell 6).trans rfl
      have k7 : w5.cell? ⟨ba, 7, none⟩ = some (.int .i64 x7) := (HA.out.cell 7).trans rfl
      have k8 : w5.cell? ⟨ba, 8, none⟩ = some (.bool x8) := (HA.out.cell 8).trans rfl
      have k9 : w5.cell? ⟨ba, 9, none⟩ = some (.int .i64 x9) := (HA.out.cell 9).trans rfl
      have k10 : w5.cell? ⟨ba, 10, none⟩ = some (.int .i64 x10) := (HA.out.cell 10).trans rfl
      have k11 : w5.cell? ⟨ba, 11, none⟩ = some (.int .i64 x11) := (HA.out.cell 11).trans rfl
      have k12 : w5.cell? ⟨ba, 12, none⟩ = some (.int .i64 x12) := (HA.out.cell 12).trans rfl
      have k13 : w5.cell? ⟨ba, 13, none⟩ = some (.bool x13) := (HA.out.cell 13).trans rfl
      have l0 : w5.cell? ⟨bb, 0, none⟩ = some (.int .i64 y0) := (HB.out.cell 0).trans rfl
      have l1 : w5.cell? ⟨bb, 1, none⟩ = some (.int .i64 y1) := (HB.out.cell 1).trans rfl
      have l2 : w5.cell? ⟨bb, 2, none⟩ = some (.int .i64 y2) := (HB.out.cell 2).trans rfl
      have l3 : w5.cell? ⟨bb, 3, none⟩ = some (.int .i64 y3) := (HB.out.cell 3).trans rfl
      have l4 : w5.cell? ⟨bb, 4, none⟩ = some (.int .i64 y4) := (HB.out.cell 4).trans rfl
      have l5 : w5.cell? ⟨bb, 5, none⟩ = some (.int .i64 y5) := (HB.out.cell 5).trans rfl
      have l6 : w5.cell? ⟨bb, 6, none⟩ = some (.int .i64 y6) := (HB.out.cell 6).trans rfl
      have l7 : w5.cell? ⟨bb, 7, none⟩ = some (.int .i64 y7) := (HB.out.cell 7).trans rfl
      have l8 : w5.cell? ⟨bb, 8, none⟩ = some (.bool y8) := (HB.out.cell 8).trans rfl
      have l9 : w5.cell? ⟨bb, 9, none⟩ = some (.int .i64 y9) := (HB.out.cell 9).trans rfl
      have l10 : w5.cell? ⟨bb, 10, none⟩ = some (.int .i64 y10) := (HB.out.cell 10).trans rfl
      have l11 : w5.cell? ⟨bb, 11, none⟩ = some (.int .i64 y11) := (HB.out.cell 11).trans rfl
      have l12 : w5.cell? ⟨bb, 12, none⟩ = some (.int .i64 y12) := (HB.out.cell 12).trans rfl
      have l13 : w5.cell? ⟨bb, 13, none⟩ = some (.bool y13) := (HB.out.cell 13).trans rfl
      have hfst : ∀ (F : Nat → Prop) (A : Option Addr) (l c : Nat) (u : List Nat), Byts w5 F (.slice A l c) u → 2 ≤ l → ∃ a, A = some a := fun F A l c u h hl => by
        obtain ⟨hx, _, _⟩ := h.len
        obtain ⟨x, hx0⟩ : ∃ x, u[0]? = some x := ⟨_, List.getElem?_eq_getElem (by omega)⟩
        obtain ⟨a, ha, _⟩ := h.at hx0
        exact ⟨a, ha⟩
      obtain ⟨a1, rfl⟩ := hfst _ _ _ _ _ HY1.out Hfm.out.2.1
      obtain ⟨a2, rfl⟩ := hfst _ _ _ _ _ HY2.out Hfn.out.2.1
      clear hfst
      have s1 : ∀ r : Nat, (convert 27 9 (.slice (some a1) lf c1)).run Try.prog (w5.drewN r) = .ok (.string (bstr f)) (w5.drewN r) := fun r => (HY1.out.new ((Chg.refl _ _).drewN r) (fun _ h => h)).str
      have s2 : ∀ r : Nat, (convert 27 9 (.slice (some a2) lg c2)).run Try.prog (w5.drewN r) = .ok (.string (bstr g)) (w5.drewN r) := fun r => (HY2.out.new ((Chg.refl _ _).drewN r) (fun _ h => h)).str
      obtain ⟨k, hk⟩ : ∃ k, k = min lf lg := ⟨_, rfl⟩
      have hkf : k ≤ lf := by omega
      have hkg : k ≤ lg := by omega
      have t1 : ∀ r : Nat, (convert 27 9 (.slice (some a1) k c1)).run Try.prog (w5.drewN r) = .ok (.string (bstr (f.take k))) (w5.drewN r) := fun r => by
        have := ((HY1.out.new ((Chg.refl _ _).drewN r) (fun _ h => h)).cut 0 k c1 (by omega)).str
        rw [show a1.add 0 = a1 by unfold Addr.add; simp, List.drop_zero] at this
        exact this
      have t2 : ∀ r : Nat, (convert 27 9 (.slice (some a2) k c2)).run Try.prog (w5.drewN r) = .ok (.string (bstr (g.take k))) (w5.drewN r) := fun r => by
        have := ((HY2.out.new ((Chg.refl _ _).drewN r) (fun _ h => h)).cut 0 k c2 (by omega)).str
        rw [show a2.add 0 = a2 by unfold Addr.add; simp, List.drop_zero] at this
        exact this
      have hmin : (if lg < lf then (lg : Int) else (lf : Int)) = (k : Int) := by split <;> omega
      have kc1 : (k : Int) ≤ (c1 : Int) := by have := Hc1.out; omega
      have kc2 : (k : Int) ≤ (c2 : Int) := by have := Hc2.out; omega
      have hle : decide ((lf : Int) ≤ 59) = true := decide_eq_true (by have := Hfm.out.1; omega)
      have Hk := Lib.hid hk
      clear hk hkf hkg
      go_upto_region 6 with (fail)

      clear hmin
      by_cases hpq : (⟨x0, x1, x2, x3, x4, x5, x6, x7, x8, x9, x10, x11, x12, x13⟩ : Pd) = ⟨y0, y1, y2, y3, y4, y5, y6, y7, y8, y9, y10, y11, y12, y13⟩
      · simp only [Pd.mk.injEq] at hpq
        obtain ⟨rfl, rfl, rfl, rfl, rfl, rfl, rfl, rfl, rfl, rfl, rfl, rfl, rfl, rfl⟩ := hpq
        have hmn : m = n := Hqp.out rfl
        have hfg : f = g := Heq.out hmn
        subst hfg
        go_quiet (fail)
        go_wp2_with fail
        go_ret
        exact ⟨rfl, HN5.out.drewN _⟩
      · have hne : m ≠ n := fun h => hpq (Hpq.out h)
        have q1 : ((bstr f).toList == (bstr g).toList) = false := bstr_ne Hfm.out.2.2 Hfn.out.2.2 (fun h => hne (Hinj.out h))
        have q2 : ((bstr (f.take k)).toList == (bstr (g.take k)).toList) = false := bstr_ne (fun x hx => Hfm.out.2.2 x (List.mem_of_mem_take hx)) (fun x hx => Hfn.out.2.2 x (List.mem_of_mem_take hx)) (fun h => hne (Hpre.out k Hk.out h))
        have hE : ∀ wz : World, (if x0 = y0 then (if x1 = y1 then (if x2 = y2 then (if x3 = y3 then (if x4 = y4 then (if x5 = y5 then (if x6 = y6 then (if x7 = y7 then (if x8 = y8 then (if x9 = y9 then (if x10 = y10 then (if x11 = y11 then (if x12 = y12 then (if x13 = y13 then (Result.ok (Value.bool true) wz : Result Value) else Result.ok (Value.bool false) wz) else Result.ok (Value.bool false) wz) else Result.ok (Value.bool false) wz) else Result.ok (Value.bool false) wz) else Result.ok (Value.bool false) wz) else Result.ok (Value.bool false) wz) else Result.ok (Value.bool false) wz) else Result.ok (Value.bool false) wz) else Result.ok (Value.bool false) wz) else Result.ok (Value.bool false) wz) else Result.ok (Value.bool false) wz) else Result.ok (Value.bool false) wz) else Result.ok (Value.bool false) wz) else Result.ok (Value.bool false) wz) = Result.ok (Value.bool false) wz := fun wz => by
          exact pd_if hpq wz
        clear hne hpq
        go_quiet (fail)
        go_wp2_with fail
        go_ret
        exact ⟨rfl, HN5.out.drewN _⟩

end Go.Proofs.Ytdaaejoglikhaaa
