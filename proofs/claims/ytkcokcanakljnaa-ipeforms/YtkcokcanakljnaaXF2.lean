/-
  The law IpeForms: whatever product and token are given, Form, Body and Right are the document's.
-/
import Derived.Test.YtkcokcanakljnaaIqM
import Derived.Test.YtkcokcanakljnaaXF3
import Derived.Test.YtkcokcanakljnaaIpB
import Derived.Test.YtkcokcanakljnaaXF1
namespace Go.Proofs.Ytkcokcanakljnaa
open Go.ChangeShapes Go.WideShapes Go.ChangeAt Go.RowKit
set_option maxRecDepth 100000 in
set_option maxHeartbeats 4000000 in
theorem forms_good (x0 x1 x2 x3 x4 x5 x6 x7 : Int) (x8 : Bool) (x9 x10 x11 x12 : Int) (x13 : Bool) (t : Nat) (w : World) (hr : rightN (⟨x0, x1, x2, x3, x4, x5, x6, x7, x8, x9, x10, x11, x12, x13⟩ : Pd).ns = true) (ht1 : 1 ≤ t) (ht2 : t ≤ 2147483647) :
    Calls Try.prog 3 #[.agg #[.int .i64 x0, .int .i64 x1, .int .i64 x2, .int .i64 x3, .int .i64 x4, .int .i64 x5, .int .i64 x6, .int .i64 x7, .bool x8, .int .i64 x9, .int .i64 x10, .int .i64 x11, .int .i64 x12, .bool x13], .int .i64 (t : Int)] w fun e w' => e = .returned (.bool true) ∧ New w w' := by
  have hp : RightN (⟨x0, x1, x2, x3, x4, x5, x6, x7, x8, x9, x10, x11, x12, x13⟩ : Pd).ns := rightN_of hr
  obtain ⟨f, hf⟩ : ∃ f, f = formN (⟨x0, x1, x2, x3, x4, x5, x6, x7, x8, x9, x10, x11, x12, x13⟩ : Pd).ns := ⟨_, rfl⟩
  obtain ⟨l, hl⟩ : ∃ l, l = f.length := ⟨_, rfl⟩
  obtain ⟨fb, hfb⟩ : ∃ fb, fb = bodyN (⟨x0, x1, x2, x3, x4, x5, x6, x7, x8, x9, x10, x11, x12, x13⟩ : Pd).ns t := ⟨_, rfl⟩
  have HFo : Hid (∀ w, Calls Try.prog 9 #[.agg #[.int .i64 x0, .int .i64 x1, .int .i64 x2, .int .i64 x3, .int .i64 x4, .int .i64 x5, .int .i64 x6, .int .i64 x7, .bool x8, .int .i64 x9, .int .i64 x10, .int .i64 x11, .int .i64 x12, .bool x13]] w fun e w' => ∃ A c, e = .returned (.tuple #[.slice A l c, .int .i64 0]) ∧ w'.ownsRow w.heap.size 5 1 (.slice A l c) l (f.map bV) ∧ New w w') := fun w => by rw [hl, hf]; exact iForm_yes ⟨x0, x1, x2, x3, x4, x5, x6, x7, x8, x9, x10, x11, x12, x13⟩ hp w
  have HFr : Hid (∀ w, Calls Try.prog 14 #[.agg #[.int .i64 x0, .int .i64 x1, .int .i64 x2, .int .i64 x3, .int .i64 x4, .int .i64 x5, .int .i64 x6, .int .i64 x7, .bool x8, .int .i64 x9, .int .i64 x10, .int .i64 x11, .int .i64 x12, .bool x13]] w fun e w' => ∃ A c, e = .returned (.slice A l c) ∧ w'.ownsRow w.heap.size 5 1 (.slice A l c) l (f.map bV) ∧ New w w') := fun w => by rw [hl, hf]; exact rForm10_any ⟨x0, x1, x2, x3, x4, x5, x6, x7, x8, x9, x10, x11, x12, x13⟩ hp w
  have HBo : Hid (∀ w, Calls Try.prog 10 #[.agg #[.int .i64 x0, .int .i64 x1, .int .i64 x2, .int .i64 x3, .int .i64 x4, .int .i64 x5, .int .i64 x6, .int .i64 x7, .bool x8, .int .i64 x9, .int .i64 x10, .int .i64 x11, .int .i64 x12, .bool x13], .int .i64 (t : Int)] w fun e w' => ∃ A c, e = .returned (.tuple #[.slice A 64 c, .int .i64 0]) ∧ w'.ownsRow w.heap.size 5 1 (.slice A 64 c) 64 (fb.map bV) ∧ New w w') := fun w => by rw [hfb]; exact iBody_yes ⟨x0, x1, x2, x3, x4, x5, x6, x7, x8, x9, x10, x11, x12, x13⟩ hp t ht1 ht2 w
  have HBr : Hid (∀ w, Calls Try.prog 15 #[.agg #[.int .i64 x0, .int .i64 x1, .int .i64 x2, .int .i64 x3, .int .i64 x4, .int .i64 x5, .int .i64 x6, .int .i64 x7, .bool x8, .int .i64 x9, .int .i64 x10, .int .i64 x11, .int .i64 x12, .bool x13], .int .i64 (t : Int)] w fun e w' => ∃ A c, e = .returned (.slice A 64 c) ∧ w'.ownsRow w.heap.size 5 1 (.slice A 64 c) 64 (fb.map bV) ∧ New w w') := fun w => by rw [hfb]; exact rBody10_any ⟨x0, x1, x2, x3, x4, x5, x6, x7, x8, x9, x10, x11, x12, x13⟩ hp t ht2 w
  have HRi : Hid (∀ (w : World) (s : Nat), Has w s 24 #[.int .i64 x0, .int .i64 x1, .int .i64 x2, .int .i64 x3, .int .i64 x4, .int .i64 x5, .int .i64 x6, .int .i64 x7, .bool x8, .int .i64 x9, .int .i64 x10, .int .i64 x11, .int .i64 x12, .bool x13] → Calls Try.prog 12 #[.slice (some ⟨s, 0, none⟩) 1 1] w fun e w' => e = .returned (.bool true) ∧ New w w') := fun w s hs => by
    have := Right10_any (some ⟨s, 0, none⟩) 1 1 (fun _ => ⟨x0, x1, x2, x3, x4, x5, x6, x7, x8, x9, x10, x11, x12, x13⟩) (· = s) w (Pds.one hs) (fun k hk => by rw [hk]; exact hs.lt) (by omega)
    rw [allR_one, hr] at this
    exact this
  have HRt : Hid (∀ (w : World) (s : Nat), Has w s 24 #[.int .i64 1, .int .i64 2, .int .i64 9, .int .i64 7, .int .i64 1, .int .i64 500, .int .i64 0, .int .i64 0, .bool false, .int .i64 0, .int .i64 0, .int .i64 0, .int .i64 0, .bool false, .int .i64 x0, .int .i64 x1, .int .i64 x2, .int .i64 x3, .int .i64 x4, .int .i64 x5, .int .i64 x6, .int .i64 x7, .bool x8, .int .i64 x9, .int .i64 x10, .int .i64 x11, .int .i64 x12, .bool x13] → Calls Try.prog 12 #[.slice (some ⟨s, 0, none⟩) 2 2] w fun e w' => e = .returned (.bool true) ∧ New w w') := fun w s hs => by
    have := Right10_any (some ⟨s, 0, none⟩) 2 2 _ (· = s) w (Pds.two (p := ppu) (q := ⟨x0, x1, x2, x3, x4, x5, x6, x7, x8, x9, x10, x11, x12, x13⟩) hs) (fun k hk => by rw [hk]; exact hs.lt) (by omega)
    rw [allR_two _ (rightN_yes right_ppu)] at this
    exact hr ▸ this
  have HRz : Hid (∀ (w : World), Calls Try.prog 12 #[.slice none 0 0] w fun e w' => e = .returned (.bool true) ∧ New w w') := fun w => by
    have := Right10_any none 0 0 (fun _ => pz) (fun _ => False) w (Pds.nil w _) (fun k hk => hk.elim) (by omega)
    rw [allR_zero] at this
    exact this
  have HPu := Lib.hid purse_any
  have HRr : Hid (∀ w, Calls Try.prog 11 #[.agg #[.int .i64 x0, .int .i64 x1, .int .i64 x2, .int .i64 x3, .int .i64 x4, .int .i64 x5, .int .i64 x6, .int .i64 x7, .bool x8, .int .i64 x9, .int .i64 x10, .int .i64 x11, .int .i64 x12, .bool x13]] w fun e w' => e = .returned (.bool true) ∧ New w w') := fun w => by rw [← hr]; exact rRight10_any ⟨x0, x1, x2, x3, x4, x5, x6, x7, x8, x9, x10, x11, x12, x13⟩ w
  clear hr hp hf hl hfb
  have q1 : decide ((t : Int) < 1) = false := decide_eq_false (by omega)
  have q2 : decide ((2147483647 : Int) < (t : Int)) = false := decide_eq_false (by omega)
  have q1' : decide (t < 1) = false := decide_eq_false (by omega)
  have q2' : decide (2147483647 < t) = false := decide_eq_false (by omega)
  have q3 : decide (t = 0) = false := decide_eq_false (by omega)
  clear ht1 ht2
  go_enter Try.func3, Try.ntmps3
  go_upto_region 1 with (fail)
  obtain ⟨w0, hw0⟩ : ∃ w0, w0 = w.alloc (.cells #[.int .i64 x0, .int .i64 x1, .int .i64 x2, .int .i64 x3, .int .i64 x4, .int .i64 x5, .int .i64 x6, .int .i64 x7, .bool x8, .int .i64 x9, .int .i64 x10, .int .i64 x11, .int .i64 x12, .bool x13] 24) := ⟨_, rfl⟩
  obtain ⟨ba, hba⟩ : ∃ ba, ba = w.heap.size := ⟨_, rfl⟩
  have HB0 : Hid (Has w0 ba 24 #[.int .i64 x0, .int .i64 x1, .int .i64 x2, .int .i64 x3, .int .i64 x4, .int .i64 x5, .int .i64 x6, .int .i64 x7, .bool x8, .int .i64 x9, .int .i64 x10, .int .i64 x11, .int .i64 x12, .bool x13]) := by rw [hw0, hba]; exact Has.new _ _ _
  have HN0 : Hid (New w w0) := by rw [hw0]; exact (Chg.refl _ _).alloc _
  rw [← hw0, ← hba]
  clear hw0 hba
  go_wp2_with fail
  with_reducible refine (awake_any w0).mono ?_
  rintro e w1 ⟨rfl, hN⟩
  have HB1 := Lib.hid (HB0.out.keep hN)
  have HN1 := Lib.hid (HN0.out.then_new hN)
  clear hN HB0 HN0
  have c0 : w1.cell? ⟨ba, 0, none⟩ = some (.int .i64 x0) := (HB1.out.cell 0).trans rfl
  have c1 : w1.cell? ⟨ba, 1, none⟩ = some (.int .i64 x1) := (HB1.out.cell 1).trans rfl
  have c2 : w1.cell? ⟨ba, 2, none⟩ = some (.int .i64 x2) := (HB1.out.cell 2).trans rfl
  have c3 : w1.cell? ⟨ba, 3, none⟩ = some (.int .i64 x3) := (HB1.out.cell 3).trans rfl
  have c4 : w1.cell? ⟨ba, 4, none⟩ = some (.int .i64 x4) := (HB1.out.cell 4).trans rfl
  have c5 : w1.cell? ⟨ba, 5, none⟩ = some (.int .i64 x5) := (HB1.out.cell 5).trans rfl
  have c6 : w1.cell? ⟨ba, 6, none⟩ = some (.int .i64 x6) := (HB1.out.cell 6).trans rfl
  have c7 : w1.cell? ⟨ba, 7, none⟩ = some (.int .i64 x7) := (HB1.out.cell 7).trans rfl
  have c8 : w1.cell? ⟨ba, 8, none⟩ = some (.bool x8) := (HB1.out.cell 8).trans rfl
  have c9 : w1.cell? ⟨ba, 9, none⟩ = some (.int .i64 x9) := (HB1.out.cell 9).trans rfl
  have c10 : w1.cell? ⟨ba, 10, none⟩ = some (.int .i64 x10) := (HB1.out.cell 10).trans rfl
  have c11 : w1.cell? ⟨ba, 11, none⟩ = some (.int .i64 x11) := (HB1.out.cell 11).trans rfl
  have c12 : w1.cell? ⟨ba, 12, none⟩ = some (.int .i64 x12) := (HB1.out.cell 12).trans rfl
  have c13 : w1.cell? ⟨ba, 13, none⟩ = some (.bool x13) := (HB1.out.cell 13).trans rfl
  go_wp2_with fail
  with_reducible refine (HFo.out _).mono ?_
  rintro e w2 ⟨A2, kk2, rfl, hO2, hN⟩
  have HO2 := Lib.hid (own_new hO2 (Chg.refl _ _))
  clear hO2
  have HB2 := Lib.hid (HB1.out.keep hN)
  have HN2 := Lib.hid (HN1.out.then_new hN)
  clear hN HB1 HN1
  clear c0 c1 c2 c3 c4 c5 c6 c7 c8 c9 c10 c11 c12 c13
  have c0 : w2.cell? ⟨ba, 0, none⟩ = some (.int .i64 x0) := (HB2.out.cell 0).trans rfl
  have c1 : w2.cell? ⟨ba, 1, none⟩ = some (.int .i64 x1) := (HB2.out.cell 1).trans rfl
  have c2 : w2.cell? ⟨ba, 2, none⟩ = some (.int .i64 x2) := (HB2.out.cell 2).trans rfl
  have c3 : w2.cell? ⟨ba, 3, none⟩ = some (.int .i64 x3) := (HB2.out.cell 3).trans rfl
  have c4 : w2.cell? ⟨ba, 4, none⟩ = some (.int .i64 x4) := (HB2.out.cell 4).trans rfl
  have c5 : w2.cell? ⟨ba, 5, none⟩ = some (.int .i64 x5) := (HB2.out.cell 5).trans rfl
  have c6 : w2.cell? ⟨ba, 6, none⟩ = some (.int .i64 x6) := (HB2.out.cell 6).trans rfl
  have c7 : w2.cell? ⟨ba, 7, none⟩ = some (.int .i64 x7) := (HB2.out.cell 7).trans rfl
  have c8 : w2.cell? ⟨ba, 8, none⟩ = some (.bool x8) := (HB2.out.cell 8).trans rfl
  have c9 : w2.cell? ⟨ba, 9, none⟩ = some (.int .i64 x9) := (HB2.out.cell 9).trans rfl
  have c10 : w2.cell? ⟨ba, 10, none⟩ = some (.int .i64 x10) := (HB2.out.cell 10).trans rfl
  have c11 : w2.cell? ⟨ba, 11, none⟩ = some (.int .i64 x11) := (HB2.out.cell 11).trans rfl
  have c12 : w2.cell? ⟨ba, 12, none⟩ = some (.int .i64 x12) := (HB2.out.cell 12).trans rfl
  have c13 : w2.cell? ⟨ba, 13, none⟩ = some (.bool x13) := (HB2.out.cell 13).trans rfl
  go_wp2_with fail
  with_reducible refine (HBo.out _).mono ?_
  rintro e w3 ⟨A3, kk3, rfl, hO3, hN⟩
  have HO3 := Lib.hid hO3
  clear hO3
  have HB3 := Lib.hid (HB2.out.keep hN)
  have HN3 := Lib.hid (HN2.out.then_new hN)
  have HM3 := Lib.hid hN
  clear hN HB2 HN2
  clear c0 c1 c2 c3 c4 c5 c6 c7 c8 c9 c10 c11 c12 c13
  have c0 : w3.cell? ⟨ba, 0, none⟩ = some (.int .i64 x0) := (HB3.out.cell 0).trans rfl
  have c1 : w3.cell? ⟨ba, 1, none⟩ = some (.int .i64 x1) := (HB3.out.cell 1).trans rfl
  have c2 : w3.cell? ⟨ba, 2, none⟩ = some (.int .i64 x2) := (HB3.out.cell 2).trans rfl
  have c3 : w3.cell? ⟨ba, 3, none⟩ = some (.int .i64 x3) := (HB3.out.cell 3).trans rfl
  have c4 : w3.cell? ⟨ba, 4, none⟩ = some (.int .i64 x4) := (HB3.out.cell 4).trans rfl
  have c5 : w3.cell? ⟨ba, 5, none⟩ = some (.int .i64 x5) := (HB3.out.cell 5).trans rfl
  have c6 : w3.cell? ⟨ba, 6, none⟩ = some (.int .i64 x6) := (HB3.out.cell 6).trans rfl
  have c7 : w3.cell? ⟨ba, 7, none⟩ = some (.int .i64 x7) := (HB3.out.cell 7).trans rfl
  have c8 : w3.cell? ⟨ba, 8, none⟩ = some (.bool x8) := (HB3.out.cell 8).trans rfl
  have c9 : w3.cell? ⟨ba, 9, none⟩ = some (.int .i64 x9) := (HB3.out.cell 9).trans rfl
  have c10 : w3.cell? ⟨ba, 10, none⟩ = some (.int .i64 x10) := (HB3.out.cell 10).trans rfl
  have c11 : w3.cell? ⟨ba, 11, none⟩ = some (.int .i64 x11) := (HB3.out.cell 11).trans rfl
  have c12 : w3.cell? ⟨ba, 12, none⟩ = some (.int .i64 x12) := (HB3.out.cell 12).trans rfl
  have c13 : w3.cell? ⟨ba, 13, none⟩ = some (.bool x13) := (HB3.out.cell 13).trans rfl
  go_wp2_with fail
  with_reducible refine (HRr.out _).mono ?_
  rintro e w5 ⟨rfl, hN⟩
  have HB5 := Lib.hid (HB3.out.keep hN)
  have HN5 := Lib.hid (HN3.out.then_new hN)
  have HM5 := Lib.hid (HM3.out.then_new hN)
  have HM4 := Lib.hid hN
  clear hN HB3 HN3 HM3
  clear c0 c1 c2 c3 c4 c5 c6 c7 c8 c9 c10 c11 c12 c13
  have c0 : w5.cell? ⟨ba, 0, none⟩ = some (.int .i64 x0) := (HB5.out.cell 0).trans rfl
  have c1 : w5.cell? ⟨ba, 1, none⟩ = some (.int .i64 x1) := (HB5.out.cell 1).trans rfl
  have c2 : w5.cell? ⟨ba, 2, none⟩ = some (.int .i64 x2) := (HB5.out.cell 2).trans rfl
  have c3 : w5.cell? ⟨ba, 3, none⟩ = some (.int .i64 x3) := (HB5.out.cell 3).trans rfl
  have c4 : w5.cell? ⟨ba, 4, none⟩ = some (.int .i64 x4) := (HB5.out.cell 4).trans rfl
  have c5 : w5.cell? ⟨ba, 5, none⟩ = some (.int .i64 x5) := (HB5.out.cell 5).trans rfl
  have c6 : w5.cell? ⟨ba, 6, none⟩ = some (.int .i64 x6) := (HB5.out.cell 6).trans rfl
  have c7 : w5.cell? ⟨ba, 7, none⟩ = some (.int .i64 x7) := (HB5.out.cell 7).trans rfl
  have c8 : w5.cell? ⟨ba, 8, none⟩ = some (.bool x8) := (HB5.out.cell 8).trans rfl
  have c9 : w5.cell? ⟨ba, 9, none⟩ = some (.int .i64 x9) := (HB5.out.cell 9).trans rfl
  have c10 : w5.cell? ⟨ba, 10, none⟩ = some (.int .i64 x10) := (HB5.out.cell 10).trans rfl
  have c11 : w5.cell? ⟨ba, 11, none⟩ = some (.int .i64 x11) := (HB5.out.cell 11).trans rfl
  have c12 : w5.cell? ⟨ba, 12, none⟩ = some (.int .i64 x12) := (HB5.out.cell 12).trans rfl
  have c13 : w5.cell? ⟨ba, 13, none⟩ = some (.bool x13) := (HB5.out.cell 13).trans rfl
  go_upto_region 6 with (fail)
  go_cut [41] (fun s41 wx => s41 = .bool false ∧ New w5 wx)
  case first =>
    go_region_held_law (fun wx => wx.cell? ⟨ba, 0, none⟩ = some (.int .i64 x0) ∧ wx.cell? ⟨ba, 1, none⟩ = some (.int .i64 x1) ∧ wx.cell? ⟨ba, 2, none⟩ = some (.int .i64 x2) ∧ wx.cell? ⟨ba, 3, none⟩ = some (.int .i64 x3) ∧ wx.cell? ⟨ba, 4, none⟩ = some (.int .i64 x4) ∧ wx.cell? ⟨ba, 5, none⟩ = some (.int .i64 x5) ∧ wx.cell? ⟨ba, 6, none⟩ = some (.int .i64 x6) ∧ wx.cell? ⟨ba, 7, none⟩ = some (.int .i64 x7) ∧ wx.cell? ⟨ba, 8, none⟩ = some (.bool x8) ∧ wx.cell? ⟨ba, 9, none⟩ = some (.int .i64 x9) ∧ wx.cell? ⟨ba, 10, none⟩ = some (.int .i64 x10) ∧ wx.cell? ⟨ba, 11, none⟩ = some (.int .i64 x11) ∧ wx.cell? ⟨ba, 12, none⟩ = some (.int .i64 x12) ∧ wx.cell? ⟨ba, 13, none⟩ = some (.bool x13))
      (first | exact box14 HXwD.out | exact box14 (Has.alloc HXwD.out _) | exact box14 HXwD.out.drew | exact box14 (Has.alloc HXwD.out _).drew | exact box14 (Has.alloc HXwD.out.drew _) | exact box14 HXwC.out | exact box14 (Has.alloc HXwC.out _) | exact box14 HXwC.out.drew | exact box14 (Has.alloc HXwC.out _).drew | exact box14 (Has.alloc HXwC.out.drew _) | exact box14 HXwB.out | exact box14 (Has.alloc HXwB.out _) | exact box14 HXwB.out.drew | exact box14 (Has.alloc HXwB.out _).drew | exact box14 (Has.alloc HXwB.out.drew _) | exact box14 HXwA.out | exact box14 (Has.alloc HXwA.out _) | exact box14 HXwA.out.drew | exact box14 (Has.alloc HXwA.out _).drew | exact box14 (Has.alloc HXwA.out.drew _) | exact box14 HB5.out | exact box14 (Has.alloc HB5.out _) | exact box14 HB5.out.drew | exact box14 (Has.alloc HB5.out _).drew | exact box14 (Has.alloc HB5.out.drew _))
      (first
      | (go_at_call 12;
         (with_reducible refine (HRi.out _ _ (by with_reducible first | exact Has.new _ _ _ | exact (Has.new _ _ _).drew | exact Has.drewN (Has.new _ _ _) _)).mono ?_)
         rintro e wA ⟨rfl, hN⟩
         have HMwA : Hid (New w5 wA) := Chg.new_then (by with_reducible repeat (first | exact Chg.refl _ _ | refine Chg.drew ?_ | refine Chg.drewN ?_ _ | refine Chg.alloc ?_ _)) hN
         have HXwA := Lib.hid (HB5.out.keep HMwA.out)
         clear hN)
      | (go_at_call 13;
         (with_reducible refine (HPu.out _).mono ?_)
         rintro e wB ⟨rfl, hN⟩
         have HMwB : Hid (New w5 wB) := HMwA.out.then_new (Chg.new_then (by with_reducible repeat (first | exact Chg.refl _ _ | refine Chg.drew ?_ | refine Chg.drewN ?_ _ | refine Chg.alloc ?_ _)) hN)
         have HXwB := Lib.hid (HB5.out.keep HMwB.out)
         clear hN)
      | (go_at_call 12;
         (with_reducible refine (HRt.out _ _ (by with_reducible first | exact Has.new _ _ _ | exact (Has.new _ _ _).drew | exact Has.drewN (Has.new _ _ _) _)).mono ?_)
         rintro e wC ⟨rfl, hN⟩
         have HMwC : Hid (New w5 wC) := HMwB.out.then_new (Chg.new_then (by with_reducible repeat (first | exact Chg.refl _ _ | refine Chg.drew ?_ | refine Chg.drewN ?_ _ | refine Chg.alloc ?_ _)) hN)
         have HXwC := Lib.hid (HB5.out.keep HMwC.out)
         clear hN)
      | (go_at_call 12;
         (with_reducible refine (HRz.out _).mono ?_)
         rintro e wD ⟨rfl, hN⟩
         have HMwD : Hid (New w5 wD) := HMwC.out.then_new (Chg.new_then (by with_reducible repeat (first | exact Chg.refl _ _ | refine Chg.drew ?_ | refine Chg.drewN ?_ _ | refine Chg.alloc ?_ _)) hN)
         have HXwD := Lib.hid (HB5.out.keep HMwD.out)
         clear hN))
    all_goals
      go_wp2_with fail
      go_meet
      case rel => exact ⟨rfl, HMwD.out⟩
  case rest =>
  obtain ⟨rfl, hN⟩ := hcut
  obtain ⟨w6, hw6⟩ : ∃ w6, w6 = wc := ⟨_, rfl⟩
  rw [← hw6] at hN ⊢
  clear hw6
  have HB6 := Lib.hid (HB5.out.keep hN)
  have HN6 := Lib.hid (HN5.out.then_new hN)
  have HM6 := Lib.hid (HM5.out.then_new hN)
  have HM46 := Lib.hid (HM4.out.then_new hN)
  clear hN HB5 HN5 HM5 HM4 HRi HRt HRz HPu HRr
  clear c0 c1 c2 c3 c4 c5 c6 c7 c8 c9 c10 c11 c12 c13
  have c0 : w6.cell? ⟨ba, 0, none⟩ = some (.int .i64 x0) := (HB6.out.cell 0).trans rfl
  have c1 : w6.cell? ⟨ba, 1, none⟩ = some (.int .i64 x1) := (HB6.out.cell 1).trans rfl
  have c2 : w6.cell? ⟨ba, 2, none⟩ = some (.int .i64 x2) := (HB6.out.cell 2).trans rfl
  have c3 : w6.cell? ⟨ba, 3, none⟩ = some (.int .i64 x3) := (HB6.out.cell 3).trans rfl
  have c4 : w6.cell? ⟨ba, 4, none⟩ = some (.int .i64 x4) := (HB6.out.cell 4).trans rfl
  have c5 : w6.cell? ⟨ba, 5, none⟩ = some (.int .i64 x5) := (HB6.out.cell 5).trans rfl
  have c6 : w6.cell? ⟨ba, 6, none⟩ = some (.int .i64 x6) := (HB6.out.cell 6).trans rfl
  have c7 : w6.cell? ⟨ba, 7, none⟩ = some (.int .i64 x7) := (HB6.out.cell 7).trans rfl
  have c8 : w6.cell? ⟨ba, 8, none⟩ = some (.bool x8) := (HB6.out.cell 8).trans rfl
  have c9 : w6.cell? ⟨ba, 9, none⟩ = some (.int .i64 x9) := (HB6.out.cell 9).trans rfl
  have c10 : w6.cell? ⟨ba, 10, none⟩ = some (.int .i64 x10) := (HB6.out.cell 10).trans rfl
  have c11 : w6.cell? ⟨ba, 11, none⟩ = some (.int .i64 x11) := (HB6.out.cell 11).trans rfl
  have c12 : w6.cell? ⟨ba, 12, none⟩ = some (.int .i64 x12) := (HB6.out.cell 12).trans rfl
  have c13 : w6.cell? ⟨ba, 13, none⟩ = some (.bool x13) := (HB6.out.cell 13).trans rfl
  have sA : ∀ r, (convert 27 9 (.slice A2 l kk2)).run Try.prog (w6.drewN r) = .ok (.string (bstr f)) (w6.drewN r) := fun r => own_str (own_new HO2.out (HM6.out.drewN r))
  have sA0 : (convert 27 9 (.slice A2 l kk2)).run Try.prog w6 = .ok (.string (bstr f)) w6 := own_str (own_new HO2.out HM6.out)
  have sA1 : (convert 27 9 (.slice A2 l kk2)).run Try.prog w6.drew = .ok (.string (bstr f)) w6.drew := own_str (own_new HO2.out HM6.out.drew)
  go_upto_region 10 with (fail)
  go_cut [69] (fun s69 wx => s69 = .bool false ∧ New w6 wx)
  case first =>
    go_region_law
      (go_simp; go_at_call 14;
       (with_reducible refine (HFr.out _).mono ?_)
       rintro e w7 ⟨A7, kk7, rfl, hO7, hN7⟩
       have HM7 : Hid (New w6 w7) := Chg.new_then (by with_reducible repeat (first | exact Chg.refl _ _ | refine Chg.drew ?_ | refine Chg.drewN ?_ _ | refine Chg.alloc ?_ _)) hN7
       have s7 : ∀ r, (convert 27 9 (.slice A7 l kk7)).run Try.prog (w7.drewN r) = .ok (.string (bstr f)) (w7.drewN r) := fun r => own_str (own_new hO7 ((Chg.refl _ _).drewN r))
       have s70 : (convert 27 9 (.slice A7 l kk7)).run Try.prog w7 = .ok (.string (bstr f)) w7 := own_str hO7
       have s71 : (convert 27 9 (.slice A7 l kk7)).run Try.prog w7.drew = .ok (.string (bstr f)) w7.drew := own_str (own_new hO7 ((Chg.refl _ _).drew))
       have t7 : ∀ r, (convert 27 9 (.slice A2 l kk2)).run Try.prog (w7.drewN r) = .ok (.string (bstr f)) (w7.drewN r) := fun r => own_str (own_new HO2.out ((HM6.out.then_new HM7.out).drewN r))
       have t70 : (convert 27 9 (.slice A2 l kk2)).run Try.prog w7 = .ok (.string (bstr f)) w7 := own_str (own_new HO2.out (HM6.out.then_new HM7.out))
       have t71 : (convert 27 9 (.slice A2 l kk2)).run Try.prog w7.drew = .ok (.string (bstr f)) w7.drew := own_str (own_new HO2.out (HM6.out.then_new HM7.out).drew)
       clear hO7 hN7)
    all_goals
      go_wp2_with fail
      go_meet
      case rel => exact ⟨rfl, by first | exact HM7.out | exact HM7.out.drew⟩
  case rest =>
  obtain ⟨rfl, hN⟩ := hcut
  obtain ⟨w8, hw8⟩ : ∃ w8, w8 = wc := ⟨_, rfl⟩
  rw [← hw8] at hN ⊢
  clear hw8
  have HB8 := Lib.hid (HB6.out.keep hN)
  have HN8 := Lib.hid (HN6.out.then_new hN)
  have HM8 := Lib.hid (HM6.out.then_new hN)
  have HM48 := Lib.hid (HM46.out.then_new hN)
  clear hN HB6 HN6 HM6 HM46 HFr sA sA0 sA1
  clear c0 c1 c2 c3 c4 c5 c6 c7 c8 c9 c10 c11 c12 c13
  have c0 : w8.cell? ⟨ba, 0, none⟩ = some (.int .i64 x0) := (HB8.out.cell 0).trans rfl
  have c1 : w8.cell? ⟨ba, 1, none⟩ = some (.int .i64 x1) := (HB8.out.cell 1).trans rfl
  have c2 : w8.cell? ⟨ba, 2, none⟩ = some (.int .i64 x2) := (HB8.out.cell 2).trans rfl
  have c3 : w8.cell? ⟨ba, 3, none⟩ = some (.int .i64 x3) := (HB8.out.cell 3).trans rfl
  have c4 : w8.cell? ⟨ba, 4, none⟩ = some (.int .i64 x4) := (HB8.out.cell 4).trans rfl
  have c5 : w8.cell? ⟨ba, 5, none⟩ = some (.int .i64 x5) := (HB8.out.cell 5).trans rfl
  have c6 : w8.cell? ⟨ba, 6, none⟩ = some (.int .i64 x6) := (HB8.out.cell 6).trans rfl
  have c7 : w8.cell? ⟨ba, 7, none⟩ = some (.int .i64 x7) := (HB8.out.cell 7).trans rfl
  have c8 : w8.cell? ⟨ba, 8, none⟩ = some (.bool x8) := (HB8.out.cell 8).trans rfl
  have c9 : w8.cell? ⟨ba, 9, none⟩ = some (.int .i64 x9) := (HB8.out.cell 9).trans rfl
  have c10 : w8.cell? ⟨ba, 10, none⟩ = some (.int .i64 x10) := (HB8.out.cell 10).trans rfl
  have c11 : w8.cell? ⟨ba, 11, none⟩ = some (.int .i64 x11) := (HB8.out.cell 11).trans rfl
  have c12 : w8.cell? ⟨ba, 12, none⟩ = some (.int .i64 x12) := (HB8.out.cell 12).trans rfl
  have c13 : w8.cell? ⟨ba, 13, none⟩ = some (.bool x13) := (HB8.out.cell 13).trans rfl
  have HM38 := HM48
  clear HM48
  have u0 : ∀ r, (convert 27 9 (.slice A3 64 kk3)).run Try.prog (w8.drewN r) = .ok (.string (bstr fb)) (w8.drewN r) := fun r => own_str (own_new HO3.out (HM38.out.drewN r))
  have u1 : (convert 27 9 (.slice A3 64 kk3)).run Try.prog w8 = .ok (.string (bstr fb)) w8 := own_str (own_new HO3.out HM38.out)
  have u2 : (convert 27 9 (.slice A3 64 kk3)).run Try.prog w8.drew = .ok (.string (bstr fb)) w8.drew := own_str (own_new HO3.out HM38.out.drew)
  go_upto_region 14 with (fail)
  go_cut [4] (fun s4 wx => s4 = .bool true ∧ New w8 wx)
  case first =>
    go_region_law
      (go_simp; go_at_call 15;
       (with_reducible refine (HBr.out _).mono ?_)
       rintro e w9 ⟨A9, kk9, rfl, hO9, hN9⟩
       have HM9 : Hid (New w8 w9) := Chg.new_then (by with_reducible repeat (first | exact Chg.refl _ _ | refine Chg.drew ?_ | refine Chg.drewN ?_ _ | refine Chg.alloc ?_ _)) hN9
       have s9 : ∀ r, (convert 27 9 (.slice A9 64 kk9)).run Try.prog (w9.drewN r) = .ok (.string (bstr fb)) (w9.drewN r) := fun r => own_str (own_new hO9 ((Chg.refl _ _).drewN r))
       have s90 : (convert 27 9 (.slice A9 64 kk9)).run Try.prog w9 = .ok (.string (bstr fb)) w9 := own_str hO9
       have s91 : (convert 27 9 (.slice A9 64 kk9)).run Try.prog w9.drew = .ok (.string (bstr fb)) w9.drew := own_str (own_new hO9 ((Chg.refl _ _).drew))
       have t9 : ∀ r, (convert 27 9 (.slice A3 64 kk3)).run Try.prog (w9.drewN r) = .ok (.string (bstr fb)) (w9.drewN r) := fun r => own_str (own_new HO3.out ((HM38.out.then_new HM9.out).drewN r))
       have t90 : (convert 27 9 (.slice A3 64 kk3)).run Try.prog w9 = .ok (.string (bstr fb)) w9 := own_str (own_new HO3.out (HM38.out.then_new HM9.out))
       have t91 : (convert 27 9 (.slice A3 64 kk3)).run Try.prog w9.drew = .ok (.string (bstr fb)) w9.drew := own_str (own_new HO3.out (HM38.out.then_new HM9.out).drew)
       clear hO9 hN9)
    all_goals
      go_wp2_with fail
      go_meet
      case rel => exact ⟨rfl, by first | exact HM9.out | exact HM9.out.drew⟩
  case rest =>
  obtain ⟨rfl, hN⟩ := hcut
  obtain ⟨wz, hwz⟩ : ∃ wz, wz = wc := ⟨_, rfl⟩
  rw [← hwz] at hN ⊢
  clear hwz
  have HNz := Lib.hid (HN8.out.then_new hN)
  clear hN
  go_wp2_with fail
  go_ret
  exact ⟨rfl, HNz.out⟩
end Go.Proofs.Ytkcokcanakljnaa
/-
  The law IpeForms: whatever product and token are given, Form, Body and Right are the document's.
-/
namespace Go.Proofs.Ytkcokcanakljnaa
open Go.ChangeShapes Go.WideShapes Go.ChangeAt Go.RowKit
theorem forms10_walk {W : World} (p : Pd) (t : Int) (_ht : (Lit.int .i64 t).wf = true) : Calls Try.prog 3 #[p.V, .int .i64 t] W fun e w' => e = .returned (.bool true) ∧ New W w' := by
  obtain ⟨x0, x1, x2, x3, x4, x5, x6, x7, x8, x9, x10, x11, x12, x13⟩ := p
  cases hr : rightN (⟨x0, x1, x2, x3, x4, x5, x6, x7, x8, x9, x10, x11, x12, x13⟩ : Pd).ns with
  | false => exact forms_no x0 x1 x2 x3 x4 x5 x6 x7 x8 x9 x10 x11 x12 x13 t W hr
  | true =>
    cases ht : okT t with
    | false => exact forms_bad x0 x1 x2 x3 x4 x5 x6 x7 x8 x9 x10 x11 x12 x13 t W hr ht
    | true =>
      unfold okT at ht
      simp only [Bool.and_eq_true, decide_eq_true_eq] at ht
      obtain ⟨n, rfl⟩ : ∃ n : Nat, t = (n : Int) := ⟨t.toNat, by omega⟩
      exact forms_good x0 x1 x2 x3 x4 x5 x6 x7 x8 x9 x10 x11 x12 x13 n W hr (by omega) (by omega)
end Go.Proofs.Ytkcokcanakljnaa
/-
  For every input the law IpeForms of layer 10 returns true, and its arguments read afterwards as before. No condition.
-/
namespace Go.Proofs.Ytkcokcanakljnaa
open Go.ChangeShapes Go.WideShapes Go.ChangeAt Go.RowKit
set_option linter.unusedVariables false

set_option maxRecDepth 100000 in
theorem ipeForms_lifted (os : Os) (started : os.Started) (H : Type) (enc : TypeId × Value → H) :
    ReturnsInHanded {} Try.checked os 3 .any (Rows.ipeFormsSpec.pre6 enc Try.prog Try.f3 Rows.ipeFormsRow.domain false) (Rows.ipeFormsSpec.post enc Try.prog Try.f3 false true false false) := by
  refine returnsInHanded_of_change (C := Try.checked) Try.own started (by kernel_rfl) Try.func3
    (ChangeSpec.witness6 (enc := enc) (C := Try.checked) false ⟨#[], #[.agg #[.int .i64 0, .int .i64 0, .int .i64 0, .int .i64 0, .int .i64 0, .int .i64 0, .int .i64 0, .int .i64 0, .bool false, .int .i64 0, .int .i64 0, .int .i64 0, .int .i64 0, .bool false], .int .i64 0], []⟩ 8 (by kernel_rfl) (by kernel_rfl) (by kernel_rfl) (by kernel_rfl)) ?_
  intro W base args ds gs before hval0 hW hcnd _
  have hval : ∀ (j : Nat) t v, Try.f3.params[j]? = some t → args[j]? = some v → Value.okWide Try.prog W .any base t v := hval0
  have hW' := hW
  obtain ⟨p, q, hA0, hV, rfl, hfz, hnd⟩ := hW
  have hA : DataW.TrodAll enc Try.prog W 0 (fun _ => true) true Try.f3.params.toList args.toList ds p := hA0
  rw [Try.params3] at hA hval
  obtain ⟨v0, vs0, d0, ds0, p0, q0, hargs, rfl, rfl, h0, r0⟩ := trodAll_cons hA
  obtain ⟨v1, vs1, d1, ds1, p1, q1, rfl, rfl, rfl, h1, r1⟩ := trodAll_cons r0
  obtain ⟨rfl, rfl, rfl⟩ := trodAll_nil r1
  obtain rfl : args = #[v0, v1] := by cases args; simp_all
  obtain ⟨rfl, rfl⟩ := trodVars_none hV
  obtain ⟨y0, rfl⟩ := open_product (hval 0 24 v0 rfl rfl) h0
  have k0 := h0
  have lt0 : ∀ x ∈ p0, x.block < W.heap.size := by obtain ⟨m, hm⟩ := k0; exact DataW.trod_lt m _ _ _ hm
  obtain ⟨a1, rfl, rfl, rfl, w1⟩ := open_int Try.underlying25 (hval 1 25 v1 rfl rfl) h1
  clear hA0 hval0
  refine (forms10_walk y0 a1 w1).mono fun e W' ⟨he, bel0⟩ => ?_
  have bel := New.below bel0
  subst he
  exact ⟨_, rfl, _, _, _, [], _, [], hW', trodAll_mk1 (shut_bool Try.underlying4 _), (trodAll_cons_mk (Below.trod Try.laidOut (by kernel_rfl) (of_decide_eq_true (by kernel_rfl)) k0 bel lt0) (trodAll_cons_mk (shut_int Try.underlying25 w1) trodAll_mk0)), rfl, bel.frame _, fun h => by cases h⟩

theorem ipeForms_holds : Rows.IpeFormsSaid :=
  OpenClaim.holds_of_wide 3 Try.f3 rfl rfl rfl rfl rfl rfl rfl ⟨rfl, rfl, rfl, rfl, rfl⟩ rfl rfl rfl rfl rfl (by kernel_rfl) Try.func3 (by kernel_rfl)
    (of_decide_eq_true (by kernel_rfl)) (by unfold Func.isWrapper; first | (rw [if_pos (by decide +kernel)]; kernel_rfl) | (rw [if_neg (by decide +kernel)]; exact ⟨rfl, rfl⟩))
    (fun os started H enc _ => ipeForms_lifted os started H enc)
end Go.Proofs.Ytkcokcanakljnaa
