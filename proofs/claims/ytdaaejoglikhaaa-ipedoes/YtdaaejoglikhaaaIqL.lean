/-
  The document's Do of a ride.
-/
import Derived.Test.YtdaaejoglikhaaaIqJ
namespace Go.Proofs.Ytdaaejoglikhaaa
open Go.RowKit
theorem small_wraps {x : Int} (h : -9000000000000000000 ≤ x ∧ x ≤ 9000000000000000000) : IntKind.i64.wrap x = x ∧ wrap64 x = x := ⟨IntWalk.i64_in _ (by omega), by unfold wrap64; omega⟩
def doE0 (p : Pd) (a : Int) : Int := aftE p (rideE p.x0 p.x6 p.x7 a)
def doP0 (p : Pd) (a : Int) : Pd := aftP p (rideQ p) (rideE p.x0 p.x6 p.x7 a)
set_option maxRecDepth 100000 in
set_option maxHeartbeats 4000000 in
theorem Do0_any (p : Pd) (hp : RightN p.ns) (a b : Int) (w : World) : Calls Try.prog 27 #[p.V, .int .i64 0, .int .i64 a, .int .i64 b] w fun e w' => e = .returned (.tuple #[(doP0 p a).V, .int .i64 (doE0 p a)]) ∧ New w w' := by
  have HRd := Lib.hid (fun w => ride_any p a w)
  have hk := kinds hp
  clear hp
  obtain ⟨re, hre⟩ : ∃ re, re = rideE p.x0 p.x6 p.x7 a := ⟨_, rfl⟩
  unfold doE0 doP0
  rw [← hre] at HRd ⊢
  clear hre
  obtain ⟨e, he⟩ : ∃ e, aftE p re = e := ⟨_, rfl⟩
  obtain ⟨P, hP⟩ : ∃ P, aftP p (rideQ p) re = P := ⟨_, rfl⟩
  rw [he, hP]
  unfold aftP at hP
  rw [he] at hP
  unfold aftE at he
  unfold rideQ rideC at hP
  obtain ⟨x0, x1, x2, x3, x4, x5, x6, x7, x8, x9, x10, x11, x12, x13⟩ := p
  dsimp only at hk he hP
  have HRd : Hid (∀ w, Calls Try.prog 56 #[.agg #[.int .i64 x0, .int .i64 x1, .int .i64 x2, .int .i64 x3, .int .i64 x4, .int .i64 x5, .int .i64 x6, .int .i64 x7, .bool x8, .int .i64 x9, .int .i64 x10, .int .i64 x11, .int .i64 x12, .bool x13], .int .i64 a] w fun e w' => e = .returned (.int .i64 re) ∧ New w w') := HRd.out
  have Hk := Lib.hid hk; clear hk
  go_enter Try.func27, Try.ntmps27
  go_upto_region 1 with (fail)
  obtain ⟨tb, htb⟩ : ∃ tb, tb = w.heap.size := ⟨_, rfl⟩
  obtain ⟨rb, hrb⟩ : ∃ rb, rb = w.heap.size + 1 := ⟨_, rfl⟩
  obtain ⟨w0, hw0⟩ : ∃ w0, w0 = (w.alloc (.cells #[.int .i64 x0, .int .i64 x1, .int .i64 x2, .int .i64 x3, .int .i64 x4, .int .i64 x5, .int .i64 x6, .int .i64 x7, .bool x8, .int .i64 x9, .int .i64 x10, .int .i64 x11, .int .i64 x12, .bool x13] 24)).alloc (.cells #[.int .i64 0, .int .i64 0, .int .i64 0, .int .i64 0, .int .i64 0, .int .i64 0, .int .i64 0, .int .i64 0, .bool false, .int .i64 0, .int .i64 0, .int .i64 0, .int .i64 0, .bool false] 24) := ⟨_, rfl⟩
  have HT : Hid (Has w0 tb 24 #[.int .i64 x0, .int .i64 x1, .int .i64 x2, .int .i64 x3, .int .i64 x4, .int .i64 x5, .int .i64 x6, .int .i64 x7, .bool x8, .int .i64 x9, .int .i64 x10, .int .i64 x11, .int .i64 x12, .bool x13]) := by rw [hw0, htb]; exact (Has.new _ _ _).alloc _
  have HB : Hid (Has w0 rb 24 #[.int .i64 0, .int .i64 0, .int .i64 0, .int .i64 0, .int .i64 0, .int .i64 0, .int .i64 0, .int .i64 0, .bool false, .int .i64 0, .int .i64 0, .int .i64 0, .int .i64 0, .bool false]) := by rw [hw0, hrb]; exact Has.new_at _ _ _ _ (by simp)
  have HN : Hid (New w w0) := by rw [hw0]; exact ((Chg.refl _ _).alloc _).alloc _
  have Hrb : Hid (rb = w.heap.size + 1 ∧ tb = w.heap.size) := ⟨hrb, htb⟩
  rw [← hw0, ← hrb, ← htb]
  clear hw0 hrb htb
  have k0 : w0.cell? ⟨tb, 0, none⟩ = some (.int .i64 x0) := (HT.out.cell 0).trans rfl
  have k1 : w0.cell? ⟨tb, 1, none⟩ = some (.int .i64 x1) := (HT.out.cell 1).trans rfl
  have k2 : w0.cell? ⟨tb, 2, none⟩ = some (.int .i64 x2) := (HT.out.cell 2).trans rfl
  have k3 : w0.cell? ⟨tb, 3, none⟩ = some (.int .i64 x3) := (HT.out.cell 3).trans rfl
  have k4 : w0.cell? ⟨tb, 4, none⟩ = some (.int .i64 x4) := (HT.out.cell 4).trans rfl
  have k5 : w0.cell? ⟨tb, 5, none⟩ = some (.int .i64 x5) := (HT.out.cell 5).trans rfl
  have k6 : w0.cell? ⟨tb, 6, none⟩ = some (.int .i64 x6) := (HT.out.cell 6).trans rfl
  have k7 : w0.cell? ⟨tb, 7, none⟩ = some (.int .i64 x7) := (HT.out.cell 7).trans rfl
  have k8 : w0.cell? ⟨tb, 8, none⟩ = some (.bool x8) := (HT.out.cell 8).trans rfl
  have k9 : w0.cell? ⟨tb, 9, none⟩ = some (.int .i64 x9) := (HT.out.cell 9).trans rfl
  have k10 : w0.cell? ⟨tb, 10, none⟩ = some (.int .i64 x10) := (HT.out.cell 10).trans rfl
  have k11 : w0.cell? ⟨tb, 11, none⟩ = some (.int .i64 x11) := (HT.out.cell 11).trans rfl
  have k12 : w0.cell? ⟨tb, 12, none⟩ = some (.int .i64 x12) := (HT.out.cell 12).trans rfl
  have k13 : w0.cell? ⟨tb, 13, none⟩ = some (.bool x13) := (HT.out.cell 13).trans rfl
  by_cases c0 : x13 = true
  · subst c0
    rw [if_pos rfl] at he
    obtain rfl : e = 25 := he.symm
    rw [if_neg (by decide)] at hP
    have HP := Lib.hid hP
    clear he hP
    go_wp2_with (first
      | (refine wpList_store_pd rfl (.tmp 8) (.tmp 108) rfl rb pz _ rfl rfl HB.out rfl ?_
         intro wX hX hCX
         have HX := Lib.hid hX
         have HNX := Lib.hid (HN.out.trans hCX (fun i hi h => by have := Hrb.out; omega))
         clear hX hCX)
      | fail)
    have g0 : wX.cell? ⟨rb, 0, none⟩ = some (.int .i64 pz.x0) := (HX.out.cell 0).trans rfl
    have g1 : wX.cell? ⟨rb, 1, none⟩ = some (.int .i64 pz.x1) := (HX.out.cell 1).trans rfl
    have g2 : wX.cell? ⟨rb, 2, none⟩ = some (.int .i64 pz.x2) := (HX.out.cell 2).trans rfl
    have g3 : wX.cell? ⟨rb, 3, none⟩ = some (.int .i64 pz.x3) := (HX.out.cell 3).trans rfl
    have g4 : wX.cell? ⟨rb, 4, none⟩ = some (.int .i64 pz.x4) := (HX.out.cell 4).trans rfl
    have g5 : wX.cell? ⟨rb, 5, none⟩ = some (.int .i64 pz.x5) := (HX.out.cell 5).trans rfl
    have g6 : wX.cell? ⟨rb, 6, none⟩ = some (.int .i64 pz.x6) := (HX.out.cell 6).trans rfl
    have g7 : wX.cell? ⟨rb, 7, none⟩ = some (.int .i64 pz.x7) := (HX.out.cell 7).trans rfl
    have g8 : wX.cell? ⟨rb, 8, none⟩ = some (.bool pz.x8) := (HX.out.cell 8).trans rfl
    have g9 : wX.cell? ⟨rb, 9, none⟩ = some (.int .i64 pz.x9) := (HX.out.cell 9).trans rfl
    have g10 : wX.cell? ⟨rb, 10, none⟩ = some (.int .i64 pz.x10) := (HX.out.cell 10).trans rfl
    have g11 : wX.cell? ⟨rb, 11, none⟩ = some (.int .i64 pz.x11) := (HX.out.cell 11).trans rfl
    have g12 : wX.cell? ⟨rb, 12, none⟩ = some (.int .i64 pz.x12) := (HX.out.cell 12).trans rfl
    have g13 : wX.cell? ⟨rb, 13, none⟩ = some (.bool pz.x13) := (HX.out.cell 13).trans rfl
    refine bodyPost_ret (v := .tuple #[.agg #[.int .i64 pz.x0, .int .i64 pz.x1, .int .i64 pz.x2, .int .i64 pz.x3, .int .i64 pz.x4, .int .i64 pz.x5, .int .i64 pz.x6, .int .i64 pz.x7, .bool pz.x8, .int .i64 pz.x9, .int .i64 pz.x10, .int .i64 pz.x11, .int .i64 pz.x12, .bool pz.x13], .int .i64 25]) (by simp [results, Try.results27, go_sem, g0, g1, g2, g3, g4, g5, g6, g7, g8, g9, g10, g11, g12, g13]) rfl ?_
    exact ⟨by first | (rw [← HP.out]; done) | (rw [← HP.out]; rfl), HNX.out⟩
  have c0n : x13 = false := by simpa using c0
  subst c0n
  rw [if_neg (by decide)] at he
  clear c0
  go_wp2_with fail
  with_reducible refine (HRd.out _).mono ?_
  rintro _ w1 ⟨rfl, hN⟩
  have HT1 := Lib.hid (HT.out.keep hN)
  have HB1 := Lib.hid (HB.out.keep hN)
  have HN1 := Lib.hid (HN.out.then_new hN)
  clear hN HT HB HN HRd k0 k1 k2 k3 k4 k5 k6 k7 k8 k9 k10 k11 k12 k13
  have k0 : w1.cell? ⟨tb, 0, none⟩ = some (.int .i64 x0) := (HT1.out.cell 0).trans rfl
  have k1 : w1.cell? ⟨tb, 1, none⟩ = some (.int .i64 x1) := (HT1.out.cell 1).trans rfl
  have k2 : w1.cell? ⟨tb, 2, none⟩ = some (.int .i64 x2) := (HT1.out.cell 2).trans rfl
  have k3 : w1.cell? ⟨tb, 3, none⟩ = some (.int .i64 x3) := (HT1.out.cell 3).trans rfl
  have k4 : w1.cell? ⟨tb, 4, none⟩ = some (.int .i64 x4) := (HT1.out.cell 4).trans rfl
  have k5 : w1.cell? ⟨tb, 5, none⟩ = some (.int .i64 x5) := (HT1.out.cell 5).trans rfl
  have k6 : w1.cell? ⟨tb, 6, none⟩ = some (.int .i64 x6) := (HT1.out.cell 6).trans rfl
  have k7 : w1.cell? ⟨tb, 7, none⟩ = some (.int .i64 x7) := (HT1.out.cell 7).trans rfl
  have k8 : w1.cell? ⟨tb, 8, none⟩ = some (.bool x8) := (HT1.out.cell 8).trans rfl
  have k9 : w1.cell? ⟨tb, 9, none⟩ = some (.int .i64 x9) := (HT1.out.cell 9).trans rfl
  have k10 : w1.cell? ⟨tb, 10, none⟩ = some (.int .i64 x10) := (HT1.out.cell 10).trans rfl
  have k11 : w1.cell? ⟨tb, 11, none⟩ = some (.int .i64 x11) := (HT1.out.cell 11).trans rfl
  have k12 : w1.cell? ⟨tb, 12, none⟩ = some (.int .i64 x12) := (HT1.out.cell 12).trans rfl
  have k13 : w1.cell? ⟨tb, 13, none⟩ = some (.bool false) := (HT1.out.cell 13).trans rfl
  have kf7 := HT1.out.free 7
  have kf11 := HT1.out.free 11
  have kl := HT1.out.lt
  by_cases c1 : re = 0
  · subst c1
    rw [if_neg (by simp)] at he
    by_cases c2 : x11 = 65535
    · subst c2
      rw [if_pos rfl] at he
      obtain rfl : e = 29 := he.symm
      rw [if_neg (by decide)] at hP
      have HP := Lib.hid hP
      clear he hP kf7 kf11 kl
      go_wp2_with (first
        | (refine wpList_store_pd rfl (.tmp 8) (.tmp 108) rfl rb pz _ rfl rfl HB1.out rfl ?_
           intro wX hX hCX
           have HX := Lib.hid hX
           have HNX := Lib.hid (HN1.out.trans hCX (fun i hi h => by have := Hrb.out; omega))
           clear hX hCX)
        | fail)
      have g0 : wX.cell? ⟨rb, 0, none⟩ = some (.int .i64 pz.x0) := (HX.out.cell 0).trans rfl
      have g1 : wX.cell? ⟨rb, 1, none⟩ = some (.int .i64 pz.x1) := (HX.out.cell 1).trans rfl
      have g2 : wX.cell? ⟨rb, 2, none⟩ = some (.int .i64 pz.x2) := (HX.out.cell 2).trans rfl
      have g3 : wX.cell? ⟨rb, 3, none⟩ = some (.int .i64 pz.x3) := (HX.out.cell 3).trans rfl
      have g4 : wX.cell? ⟨rb, 4, none⟩ = some (.int .i64 pz.x4) := (HX.out.cell 4).trans rfl
      have g5 : wX.cell? ⟨rb, 5, none⟩ = some (.int .i64 pz.x5) := (HX.out.cell 5).trans rfl
      have g6 : wX.cell? ⟨rb, 6, none⟩ = some (.int .i64 pz.x6) := (HX.out.cell 6).trans rfl
      have g7 : wX.cell? ⟨rb, 7, none⟩ = some (.int .i64 pz.x7) := (HX.out.cell 7).trans rfl
      have g8 : wX.cell? ⟨rb, 8, none⟩ = some (.bool pz.x8) := (HX.out.cell 8).trans rfl
      have g9 : wX.cell? ⟨rb, 9, none⟩ = some (.int .i64 pz.x9) := (HX.out.cell 9).trans rfl
      have g10 : wX.cell? ⟨rb, 10, none⟩ = some (.int .i64 pz.x10) := (HX.out.cell 10).trans rfl
      have g11 : wX.cell? ⟨rb, 11, none⟩ = some (.int .i64 pz.x11) := (HX.out.cell 11).trans rfl
      have g12 : wX.cell? ⟨rb, 12, none⟩ = some (.int .i64 pz.x12) := (HX.out.cell 12).trans rfl
      have g13 : wX.cell? ⟨rb, 13, none⟩ = some (.bool pz.x13) := (HX.out.cell 13).trans rfl
      refine bodyPost_ret (v := .tuple #[.agg #[.int .i64 pz.x0, .int .i64 pz.x1, .int .i64 pz.x2, .int .i64 pz.x3, .int .i64 pz.x4, .int .i64 pz.x5, .int .i64 pz.x6, .int .i64 pz.x7, .bool pz.x8, .int .i64 pz.x9, .int .i64 pz.x10, .int .i64 pz.x11, .int .i64 pz.x12, .bool pz.x13], .int .i64 29]) (by simp [results, Try.results27, go_sem, g0, g1, g2, g3, g4, g5, g6, g7, g8, g9, g10, g11, g12, g13]) rfl ?_
      exact ⟨by first | (rw [← HP.out]; done) | (rw [← HP.out]; rfl), HNX.out⟩
    · rw [if_neg c2] at he
      obtain rfl : e = 0 := he.symm
      rw [if_pos rfl] at hP
      have e2 : (x11 == 65535) = false := beq_eq_false_iff_ne.2 c2
      obtain ⟨w7, w7'⟩ := small_wraps (x := x7 - 1) (by have := Hk.out.2.2.1; omega)
      obtain ⟨w11, w11'⟩ := small_wraps (x := x11 + 1) (by have := Hk.out.2.2.2; omega)
      clear c2 he
      by_cases c3 : x0 = 3
      · subst c3
        rw [if_pos (show ((3 : Int) == 3 || (3 : Int) == 4) = true by decide)] at hP
        have HP := Lib.hid hP
        clear hP
        have HT2 : Hid (Has ((w1.setCell ⟨tb, 11, none⟩ (.int .i64 (x11 + 1))).setCell ⟨tb, 7, none⟩ (.int .i64 (x7 - 1))) tb 24 #[.int .i64 3, .int .i64 x1, .int .i64 x2, .int .i64 x3, .int .i64 x4, .int .i64 x5, .int .i64 x6, .int .i64 (x7 - 1), .bool x8, .int .i64 x9, .int .i64 x10, .int .i64 (x11 + 1), .int .i64 x12, .bool false]) := (HT1.out.set 11 (.int .i64 (x11 + 1))).set 7 (.int .i64 (x7 - 1))
        have HC2 : Hid (Chg (· = tb) w1 ((w1.setCell ⟨tb, 11, none⟩ (.int .i64 (x11 + 1))).setCell ⟨tb, 7, none⟩ (.int .i64 (x7 - 1)))) := Chg.setCell (S := (· = tb)) (Chg.setCell (S := (· = tb)) (Chg.refl _ _) (fun _ => rfl) _) (fun _ => rfl) _
        go_upto_region 40 with (fail)
        obtain ⟨w2, hw2⟩ : ∃ w2, w2 = ((w1.setCell ⟨tb, 11, none⟩ (.int .i64 (x11 + 1))).setCell ⟨tb, 7, none⟩ (.int .i64 (x7 - 1))) := ⟨_, rfl⟩
        rw [← hw2] at HT2 HC2 ⊢
        clear hw2
        have HB2 := Lib.hid (HB1.out.chg HC2.out (by have := Hrb.out; omega))
        have HN2 := Lib.hid (HN1.out.trans HC2.out (fun i hi h => by have := Hrb.out; omega))
        clear HC2 HT1 HB1 HN1 k0 k1 k2 k3 k4 k5 k6 k7 k8 k9 k10 k11 k12 k13 kf7 kf11 kl
        have k0 : w2.cell? ⟨tb, 0, none⟩ = some (.int .i64 3) := (HT2.out.cell 0).trans rfl
        have k1 : w2.cell? ⟨tb, 1, none⟩ = some (.int .i64 x1) := (HT2.out.cell 1).trans rfl
        have k2 : w2.cell? ⟨tb, 2, none⟩ = some (.int .i64 x2) := (HT2.out.cell 2).trans rfl
        have k3 : w2.cell? ⟨tb, 3, none⟩ = some (.int .i64 x3) := (HT2.out.cell 3).trans rfl
        have k4 : w2.cell? ⟨tb, 4, none⟩ = some (.int .i64 x4) := (HT2.out.cell 4).trans rfl
        have k5 : w2.cell? ⟨tb, 5, none⟩ = some (.int .i64 x5) := (HT2.out.cell 5).trans rfl
        have k6 : w2.cell? ⟨tb, 6, none⟩ = some (.int .i64 x6) := (HT2.out.cell 6).trans rfl
        have k7 : w2.cell? ⟨tb, 7, none⟩ = some (.int .i64 (x7 - 1)) := (HT2.out.cell 7).trans rfl
        have k8 : w2.cell? ⟨tb, 8, none⟩ = some (.bool x8) := (HT2.out.cell 8).trans rfl
        have k9 : w2.cell? ⟨tb, 9, none⟩ = some (.int .i64 x9) := (HT2.out.cell 9).trans rfl
        have k10 : w2.cell? ⟨tb, 10, none⟩ = some (.int .i64 x10) := (HT2.out.cell 10).trans rfl
        have k11 : w2.cell? ⟨tb, 11, none⟩ = some (.int .i64 (x11 + 1)) := (HT2.out.cell 11).trans rfl
        have k12 : w2.cell? ⟨tb, 12, none⟩ = some (.int .i64 x12) := (HT2.out.cell 12).trans rfl
        have k13 : w2.cell? ⟨tb, 13, none⟩ = some (.bool false) := (HT2.out.cell 13).trans rfl
        go_wp2_with (first
          | (refine wpList_store_pd rfl (.tmp 8) (.tmp 151) rfl rb ⟨3, x1, x2, x3, x4, x5, x6, x7 - 1, x8, x9, x10, x11 + 1, x12, false⟩ _ rfl rfl HB2.out rfl ?_
             intro wX hX hCX
             have HX := Lib.hid hX
             have HNX := Lib.hid (HN2.out.trans hCX (fun i hi h => by have := Hrb.out; omega))
             clear hX hCX)
          | fail)
        have g0 : wX.cell? ⟨rb, 0, none⟩ = some (.int .i64 3) := (HX.out.cell 0).trans rfl
        have g1 : wX.cell? ⟨rb, 1, none⟩ = some (.int .i64 x1) := (HX.out.cell 1).trans rfl
        have g2 : wX.cell? ⟨rb, 2, none⟩ = some (.int .i64 x2) := (HX.out.cell 2).trans rfl
        have g3 : wX.cell? ⟨rb, 3, none⟩ = some (.int .i64 x3) := (HX.out.cell 3).trans rfl
        have g4 : wX.cell? ⟨rb, 4, none⟩ = some (.int .i64 x4) := (HX.out.cell 4).trans rfl
        have g5 : wX.cell? ⟨rb, 5, none⟩ = some (.int .i64 x5) := (HX.out.cell 5).trans rfl
        have g6 : wX.cell? ⟨rb, 6, none⟩ = some (.int .i64 x6) := (HX.out.cell 6).trans rfl
        have g7 : wX.cell? ⟨rb, 7, none⟩ = some (.int .i64 (x7 - 1)) := (HX.out.cell 7).trans rfl
        have g8 : wX.cell? ⟨rb, 8, none⟩ = some (.bool x8) := (HX.out.cell 8).trans rfl
        have g9 : wX.cell? ⟨rb, 9, none⟩ = some (.int .i64 x9) := (HX.out.cell 9).trans rfl
        have g10 : wX.cell? ⟨rb, 10, none⟩ = some (.int .i64 x10) := (HX.out.cell 10).trans rfl
        have g11 : wX.cell? ⟨rb, 11, none⟩ = some (.int .i64 (x11 + 1)) := (HX.out.cell 11).trans rfl
        have g12 : wX.cell? ⟨rb, 12, none⟩ = some (.int .i64 x12) := (HX.out.cell 12).trans rfl
        have g13 : wX.cell? ⟨rb, 13, none⟩ = some (.bool false) := (HX.out.cell 13).trans rfl
        refine bodyPost_ret (v := .tuple #[.agg #[.int .i64 3, .int .i64 x1, .int .i64 x2, .int .i64 x3, .int .i64 x4, .int .i64 x5, .int .i64 x6, .int .i64 (x7 - 1), .bool x8, .int .i64 x9, .int .i64 x10, .int .i64 (x11 + 1), .int .i64 x12, .bool false], .int .i64 0]) (by simp [results, Try.results27, go_sem, g0, g1, g2, g3, g4, g5, g6, g7, g8, g9, g10, g11, g12, g13]) rfl ?_
        exact ⟨by first | (rw [← HP.out]; done) | (rw [← HP.out]; rfl), HNX.out⟩
      · have e3 : (x0 == 3) = false := beq_eq_false_iff_ne.2 c3
        by_cases c4 : x0 = 4
        · subst c4
          rw [if_pos (show ((4 : Int) == 3 || (4 : Int) == 4) = true by decide)] at hP
          have HP := Lib.hid hP
          clear hP c3
          have HT2 : Hid (Has ((w1.setCell ⟨tb, 11, none⟩ (.int .i64 (x11 + 1))).setCell ⟨tb, 7, none⟩ (.int .i64 (x7 - 1))) tb 24 #[.int .i64 4, .int .i64 x1, .int .i64 x2, .int .i64 x3, .int .i64 x4, .int .i64 x5, .int .i64 x6, .int .i64 (x7 - 1), .bool x8, .int .i64 x9, .int .i64 x10, .int .i64 (x11 + 1), .int .i64 x12, .bool false]) := (HT1.out.set 11 (.int .i64 (x11 + 1))).set 7 (.int .i64 (x7 - 1))
          have HC2 : Hid (Chg (· = tb) w1 ((w1.setCell ⟨tb, 11, none⟩ (.int .i64 (x11 + 1))).setCell ⟨tb, 7, none⟩ (.int .i64 (x7 - 1)))) := Chg.setCell (S := (· = tb)) (Chg.setCell (S := (· = tb)) (Chg.refl _ _) (fun _ => rfl) _) (fun _ => rfl) _
          go_upto_region 40 with (fail)
          obtain ⟨w2, hw2⟩ : ∃ w2, w2 = ((w1.setCell ⟨tb, 11, none⟩ (.int .i64 (x11 + 1))).setCell ⟨tb, 7, none⟩ (.int .i64 (x7 - 1))) := ⟨_, rfl⟩
          rw [← hw2] at HT2 HC2 ⊢
          clear hw2
          have HB2 := Lib.hid (HB1.out.chg HC2.out (by have := Hrb.out; omega))
          have HN2 := Lib.hid (HN1.out.trans HC2.out (fun i hi h => by have := Hrb.out; omega))
          clear HC2 HT1 HB1 HN1 k0 k1 k2 k3 k4 k5 k6 k7 k8 k9 k10 k11 k12 k13 kf7 kf11 kl
          have k0 : w2.cell? ⟨tb, 0, none⟩ = some (.int .i64 4) := (HT2.out.cell 0).trans rfl
          have k1 : w2.cell? ⟨tb, 1, none⟩ = some (.int .i64 x1) := (HT2.out.cell 1).trans rfl
          have k2 : w2.cell? ⟨tb, 2, none⟩ = some (.int .i64 x2) := (HT2.out.cell 2).trans rfl
          have k3 : w2.cell? ⟨tb, 3, none⟩ = some (.int .i64 x3) := (HT2.out.cell 3).trans rfl
          have k4 : w2.cell? ⟨tb, 4, none⟩ = some (.int .i64 x4) := (HT2.out.cell 4).trans rfl
          have k5 : w2.cell? ⟨tb, 5, none⟩ = some (.int .i64 x5) := (HT2.out.cell 5).trans rfl
          have k6 : w2.cell? ⟨tb, 6, none⟩ = some (.int .i64 x6) := (HT2.out.cell 6).trans rfl
          have k7 : w2.cell? ⟨tb, 7, none⟩ = some (.int .i64 (x7 - 1)) := (HT2.out.cell 7).trans rfl
          have k8 : w2.cell? ⟨tb, 8, none⟩ = some (.bool x8) := (HT2.out.cell 8).trans rfl
          have k9 : w2.cell? ⟨tb, 9, none⟩ = some (.int .i64 x9) := (HT2.out.cell 9).trans rfl
          have k10 : w2.cell? ⟨tb, 10, none⟩ = some (.int .i64 x10) := (HT2.out.cell 10).trans rfl
          have k11 : w2.cell? ⟨tb, 11, none⟩ = some (.int .i64 (x11 + 1)) := (HT2.out.cell 11).trans rfl
          have k12 : w2.cell? ⟨tb, 12, none⟩ = some (.int .i64 x12) := (HT2.out.cell 12).trans rfl
          have k13 : w2.cell? ⟨tb, 13, none⟩ = some (.bool false) := (HT2.out.cell 13).trans rfl
          go_wp2_with (first
            | (refine wpList_store_pd rfl (.tmp 8) (.tmp 151) rfl rb ⟨4, x1, x2, x3, x4, x5, x6, x7 - 1, x8, x9, x10, x11 + 1, x12, false⟩ _ rfl rfl HB2.out rfl ?_
               intro wX hX hCX
               have HX := Lib.hid hX
               have HNX := Lib.hid (HN2.out.trans hCX (fun i hi h => by have := Hrb.out; omega))
               clear hX hCX)
            | fail)
          have g0 : wX.cell? ⟨rb, 0, none⟩ = some (.int .i64 4) := (HX.out.cell 0).trans rfl
          have g1 : wX.cell? ⟨rb, 1, none⟩ = some (.int .i64 x1) := (HX.out.cell 1).trans rfl
          have g2 : wX.cell? ⟨rb, 2, none⟩ = some (.int .i64 x2) := (HX.out.cell 2).trans rfl
          have g3 : wX.cell? ⟨rb, 3, none⟩ = some (.int .i64 x3) := (HX.out.cell 3).trans rfl
          have g4 : wX.cell? ⟨rb, 4, none⟩ = some (.int .i64 x4) := (HX.out.cell 4).trans rfl
          have g5 : wX.cell? ⟨rb, 5, none⟩ = some (.int .i64 x5) := (HX.out.cell 5).trans rfl
          have g6 : wX.cell? ⟨rb, 6, none⟩ = some (.int .i64 x6) := (HX.out.cell 6).trans rfl
          have g7 : wX.cell? ⟨rb, 7, none⟩ = some (.int .i64 (x7 - 1)) := (HX.out.cell 7).trans rfl
          have g8 : wX.cell? ⟨rb, 8, none⟩ = some (.bool x8) := (HX.out.cell 8).trans rfl
          have g9 : wX.cell? ⟨rb, 9, none⟩ = some (.int .i64 x9) := (HX.out.cell 9).trans rfl
          have g10 : wX.cell? ⟨rb, 10, none⟩ = some (.int .i64 x10) := (HX.out.cell 10).trans rfl
          have g11 : wX.cell? ⟨rb, 11, none⟩ = some (.int .i64 (x11 + 1)) := (HX.out.cell 11).trans rfl
          have g12 : wX.cell? ⟨rb, 12, none⟩ = some (.int .i64 x12) := (HX.out.cell 12).trans rfl
          have g13 : wX.cell? ⟨rb, 13, none⟩ = some (.bool false) := (HX.out.cell 13).trans rfl
          refine bodyPost_ret (v := .tuple #[.agg #[.int .i64 4, .int .i64 x1, .int .i64 x2, .int .i64 x3, .int .i64 x4, .int .i64 x5, .int .i64 x6, .int .i64 (x7 - 1), .bool x8, .int .i64 x9, .int .i64 x10, .int .i64 (x11 + 1), .int .i64 x12, .bool false], .int .i64 0]) (by simp [results, Try.results27, go_sem, g0, g1, g2, g3, g4, g5, g6, g7, g8, g9, g10, g11, g12, g13]) rfl ?_
          exact ⟨by first | (rw [← HP.out]; done) | (rw [← HP.out]; rfl), HNX.out⟩
        · have e4 : (x0 == 4) = false := beq_eq_false_iff_ne.2 c4
          rw [if_neg (show ¬ (x0 == 3 || x0 == 4) = true by rw [e3, e4]; decide)] at hP
          have HP := Lib.hid hP
          clear hP c3 c4
          have HT2 : Hid (Has (w1.setCell ⟨tb, 11, none⟩ (.int .i64 (x11 + 1))) tb 24 #[.int .i64 x0, .int .i64 x1, .int .i64 x2, .int .i64 x3, .int .i64 x4, .int .i64 x5, .int .i64 x6, .int .i64 x7, .bool x8, .int .i64 x9, .int .i64 x10, .int .i64 (x11 + 1), .int .i64 x12, .bool false]) := HT1.out.set 11 (.int .i64 (x11 + 1))
          have HC2 : Hid (Chg (· = tb) w1 (w1.setCell ⟨tb, 11, none⟩ (.int .i64 (x11 + 1)))) := Chg.setCell (S := (· = tb)) (Chg.refl _ _) (fun _ => rfl) _
          go_upto_region 40 with (fail)
          obtain ⟨w2, hw2⟩ : ∃ w2, w2 = (w1.setCell ⟨tb, 11, none⟩ (.int .i64 (x11 + 1))) := ⟨_, rfl⟩
          rw [← hw2] at HT2 HC2 ⊢
          clear hw2
          have HB2 := Lib.hid (HB1.out.chg HC2.out (by have := Hrb.out; omega))
          have HN2 := Lib.hid (HN1.out.trans HC2.out (fun i hi h => by have := Hrb.out; omega))
          clear HC2 HT1 HB1 HN1 k0 k1 k2 k3 k4 k5 k6 k7 k8 k9 k10 k11 k12 k13 kf7 kf11 kl
          have k0 : w2.cell? ⟨tb, 0, none⟩ = some (.int .i64 x0) := (HT2.out.cell 0).trans rfl
          have k1 : w2.cell? ⟨tb, 1, none⟩ = some (.int .i64 x1) := (HT2.out.cell 1).trans rfl
          have k2 : w2.cell? ⟨tb, 2, none⟩ = some (.int .i64 x2) := (HT2.out.cell 2).trans rfl
          have k3 : w2.cell? ⟨tb, 3, none⟩ = some (.int .i64 x3) := (HT2.out.cell 3).trans rfl
          have k4 : w2.cell? ⟨tb, 4, none⟩ = some (.int .i64 x4) := (HT2.out.cell 4).trans rfl
          have k5 : w2.cell? ⟨tb, 5, none⟩ = some (.int .i64 x5) := (HT2.out.cell 5).trans rfl
          have k6 : w2.cell? ⟨tb, 6, none⟩ = some (.int .i64 x6) := (HT2.out.cell 6).trans rfl
          have k7 : w2.cell? ⟨tb, 7, none⟩ = some (.int .i64 x7) := (HT2.out.cell 7).trans rfl
          have k8 : w2.cell? ⟨tb, 8, none⟩ = some (.bool x8) := (HT2.out.cell 8).trans rfl
          have k9 : w2.cell? ⟨tb, 9, none⟩ = some (.int .i64 x9) := (HT2.out.cell 9).trans rfl
          have k10 : w2.cell? ⟨tb, 10, none⟩ = some (.int .i64 x10) := (HT2.out.cell 10).trans rfl
          have k11 : w2.cell? ⟨tb, 11, none⟩ = some (.int .i64 (x11 + 1)) := (HT2.out.cell 11).trans rfl
          have k12 : w2.cell? ⟨tb, 12, none⟩ = some (.int .i64 x12) := (HT2.out.cell 12).trans rfl
          have k13 : w2.cell? ⟨tb, 13, none⟩ = some (.bool false) := (HT2.out.cell 13).trans rfl
          go_wp2_with (first
            | (refine wpList_store_pd rfl (.tmp 8) (.tmp 151) rfl rb ⟨x0, x1, x2, x3, x4, x5, x6, x7, x8, x9, x10, x11 + 1, x12, false⟩ _ rfl rfl HB2.out rfl ?_
               intro wX hX hCX
               have HX := Lib.hid hX
               have HNX := Lib.hid (HN2.out.trans hCX (fun i hi h => by have := Hrb.out; omega))
               clear hX hCX)
            | fail)
          have g0 : wX.cell? ⟨rb, 0, none⟩ = some (.int .i64 x0) := (HX.out.cell 0).trans rfl
          have g1 : wX.cell? ⟨rb, 1, none⟩ = some (.int .i64 x1) := (HX.out.cell 1).trans rfl
          have g2 : wX.cell? ⟨rb, 2, none⟩ = some (.int .i64 x2) := (HX.out.cell 2).trans rfl
          have g3 : wX.cell? ⟨rb, 3, none⟩ = some (.int .i64 x3) := (HX.out.cell 3).trans rfl
          have g4 : wX.cell? ⟨rb, 4, none⟩ = some (.int .i64 x4) := (HX.out.cell 4).trans rfl
          have g5 : wX.cell? ⟨rb, 5, none⟩ = some (.int .i64 x5) := (HX.out.cell 5).trans rfl
          have g6 : wX.cell? ⟨rb, 6, none⟩ = some (.int .i64 x6) := (HX.out.cell 6).trans rfl
          have g7 : wX.cell? ⟨rb, 7, none⟩ = some (.int .i64 x7) := (HX.out.cell 7).trans rfl
          have g8 : wX.cell? ⟨rb, 8, none⟩ = some (.bool x8) := (HX.out.cell 8).trans rfl
          have g9 : wX.cell? ⟨rb, 9, none⟩ = some (.int .i64 x9) := (HX.out.cell 9).trans rfl
          have g10 : wX.cell? ⟨rb, 10, none⟩ = some (.int .i64 x10) := (HX.out.cell 10).trans rfl
          have g11 : wX.cell? ⟨rb, 11, none⟩ = some (.int .i64 (x11 + 1)) := (HX.out.cell 11).trans rfl
          have g12 : wX.cell? ⟨rb, 12, none⟩ = some (.int .i64 x12) := (HX.out.cell 12).trans rfl
          have g13 : wX.cell? ⟨rb, 13, none⟩ = some (.bool false) := (HX.out.cell 13).trans rfl
          refine bodyPost_ret (v := .tuple #[.agg #[.int .i64 x0, .int .i64 x1, .int .i64 x2, .int .i64 x3, .int .i64 x4, .int .i64 x5, .int .i64 x6, .int .i64 x7, .bool x8, .int .i64 x9, .int .i64 x10, .int .i64 (x11 + 1), .int .i64 x12, .bool false], .int .i64 0]) (by simp [results, Try.results27, go_sem, g0, g1, g2, g3, g4, g5, g6, g7, g8, g9, g10, g11, g12, g13]) rfl ?_
          exact ⟨by first | (rw [← HP.out]; done) | (rw [← HP.out]; rfl), HNX.out⟩
  · have e1 : (re == 0) = false := beq_eq_false_iff_ne.2 c1
    have e1' : (re != 0) = true := bne_iff_ne.2 c1
    rw [if_pos c1] at he
    obtain rfl : e = re := he.symm
    rw [if_neg c1] at hP
    have HP := Lib.hid hP
    clear he hP kf7 kf11 kl c1
    go_wp2_with (first
      | (refine wpList_store_pd rfl (.tmp 8) (.tmp 108) rfl rb pz _ rfl rfl HB1.out rfl ?_
         intro wX hX hCX
         have HX := Lib.hid hX
         have HNX := Lib.hid (HN1.out.trans hCX (fun i hi h => by have := Hrb.out; omega))
         clear hX hCX)
      | fail)
    have g0 : wX.cell? ⟨rb, 0, none⟩ = some (.int .i64 pz.x0) := (HX.out.cell 0).trans rfl
    have g1 : wX.cell? ⟨rb, 1, none⟩ = some (.int .i64 pz.x1) := (HX.out.cell 1).trans rfl
    have g2 : wX.cell? ⟨rb, 2, none⟩ = some (.int .i64 pz.x2) := (HX.out.cell 2).trans rfl
    have g3 : wX.cell? ⟨rb, 3, none⟩ = some (.int .i64 pz.x3) := (HX.out.cell 3).trans rfl
    have g4 : wX.cell? ⟨rb, 4, none⟩ = some (.int .i64 pz.x4) := (HX.out.cell 4).trans rfl
    have g5 : wX.cell? ⟨rb, 5, none⟩ = some (.int .i64 pz.x5) := (HX.out.cell 5).trans rfl
    have g6 : wX.cell? ⟨rb, 6, none⟩ = some (.int .i64 pz.x6) := (HX.out.cell 6).trans rfl
    have g7 : wX.cell? ⟨rb, 7, none⟩ = some (.int .i64 pz.x7) := (HX.out.cell 7).trans rfl
    have g8 : wX.cell? ⟨rb, 8, none⟩ = some (.bool pz.x8) := (HX.out.cell 8).trans rfl
    have g9 : wX.cell? ⟨rb, 9, none⟩ = some (.int .i64 pz.x9) := (HX.out.cell 9).trans rfl
    have g10 : wX.cell? ⟨rb, 10, none⟩ = some (.int .i64 pz.x10) := (HX.out.cell 10).trans rfl
    have g11 : wX.cell? ⟨rb, 11, none⟩ = some (.int .i64 pz.x11) := (HX.out.cell 11).trans rfl
    have g12 : wX.cell? ⟨rb, 12, none⟩ = some (.int .i64 pz.x12) := (HX.out.cell 12).trans rfl
    have g13 : wX.cell? ⟨rb, 13, none⟩ = some (.bool pz.x13) := (HX.out.cell 13).trans rfl
    refine bodyPost_ret (v := .tuple #[.agg #[.int .i64 pz.x0, .int .i64 pz.x1, .int .i64 pz.x2, .int .i64 pz.x3, .int .i64 pz.x4, .int .i64 pz.x5, .int .i64 pz.x6, .int .i64 pz.x7, .bool pz.x8, .int .i64 pz.x9, .int .i64 pz.x10, .int .i64 pz.x11, .int .i64 pz.x12, .bool pz.x13], .int .i64 e]) (by simp [results, Try.results27, go_sem, g0, g1, g2, g3, g4, g5, g6, g7, g8, g9, g10, g11, g12, g13]) rfl ?_
    exact ⟨by first | (rw [← HP.out]; done) | (rw [← HP.out]; rfl), HNX.out⟩
end Go.Proofs.Ytdaaejoglikhaaa
