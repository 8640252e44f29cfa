/-
  The law IpeDoes, walked.
-/
import Derived.Test.YtdaaejoglikhaaaXSt
namespace Go.Proofs.Ytdaaejoglikhaaa
open Go.RowKit
set_option maxRecDepth 100000 in
set_option maxHeartbeats 4000000 in
theorem does_walk (p : Pd) (A : Option Addr) (n c : Nat) (f : Nat → Dd) (w : World) (hD : Dds w (· < w.heap.size) A n f) (hA : A = none → n = 0 ∧ c = 0) : Calls Try.prog 6 #[p.V, .slice A n c] w fun e w' => e = .returned (.bool true) ∧ New w w' := by
  have HAw := Lib.hid (fun w => awake_any w)
  have HRr := Lib.hid (fun w => rRight10_any p w)
  have HDo := Lib.hid hD
  have HnA := Lib.hid hA
  clear hD hA
  obtain ⟨x0, x1, x2, x3, x4, x5, x6, x7, x8, x9, x10, x11, x12, x13⟩ := p
  have HRr : Hid (∀ w, Calls Try.prog 13 #[.agg #[.int .i64 x0, .int .i64 x1, .int .i64 x2, .int .i64 x3, .int .i64 x4, .int .i64 x5, .int .i64 x6, .int .i64 x7, .bool x8, .int .i64 x9, .int .i64 x10, .int .i64 x11, .int .i64 x12, .bool x13]] w fun e w' => e = .returned (.bool (rightN (Pd.ns ⟨x0, x1, x2, x3, x4, x5, x6, x7, x8, x9, x10, x11, x12, x13⟩))) ∧ New w w') := HRr.out
  go_enter Try.func6, Try.ntmps6
  go_upto_region 1 with (fail)
  obtain ⟨w0, hw0⟩ : ∃ w0, w0 = w.alloc (.cells #[.int .i64 x0, .int .i64 x1, .int .i64 x2, .int .i64 x3, .int .i64 x4, .int .i64 x5, .int .i64 x6, .int .i64 x7, .bool x8, .int .i64 x9, .int .i64 x10, .int .i64 x11, .int .i64 x12, .bool x13] 24) := ⟨_, rfl⟩
  obtain ⟨ba, hba⟩ : ∃ ba, ba = w.heap.size := ⟨_, rfl⟩
  have HA : Hid (Has w0 ba 24 #[.int .i64 x0, .int .i64 x1, .int .i64 x2, .int .i64 x3, .int .i64 x4, .int .i64 x5, .int .i64 x6, .int .i64 x7, .bool x8, .int .i64 x9, .int .i64 x10, .int .i64 x11, .int .i64 x12, .bool x13]) := by rw [hw0, hba]; exact Has.new _ _ _
  have HN0 : Hid (New w w0) := by rw [hw0]; exact (Chg.refl _ _).alloc _
  rw [← hw0, ← hba]
  clear hw0 hba
  have k0 : w0.cell? ⟨ba, 0, none⟩ = some (.int .i64 x0) := (HA.out.cell 0).trans rfl
  have k1 : w0.cell? ⟨ba, 1, none⟩ = some (.int .i64 x1) := (HA.out.cell 1).trans rfl
  have k2 : w0.cell? ⟨ba, 2, none⟩ = some (.int .i64 x2) := (HA.out.cell 2).trans rfl
  have k3 : w0.cell? ⟨ba, 3, none⟩ = some (.int .i64 x3) := (HA.out.cell 3).trans rfl
  have k4 : w0.cell? ⟨ba, 4, none⟩ = some (.int .i64 x4) := (HA.out.cell 4).trans rfl
  have k5 : w0.cell? ⟨ba, 5, none⟩ = some (.int .i64 x5) := (HA.out.cell 5).trans rfl
  have k6 : w0.cell? ⟨ba, 6, none⟩ = some (.int .i64 x6) := (HA.out.cell 6).trans rfl
  have k7 : w0.cell? ⟨ba, 7, none⟩ = some (.int .i64 x7) := (HA.out.cell 7).trans rfl
  have k8 : w0.cell? ⟨ba, 8, none⟩ = some (.bool x8) := (HA.out.cell 8).trans rfl
  have k9 : w0.cell? ⟨ba, 9, none⟩ = some (.int .i64 x9) := (HA.out.cell 9).trans rfl
  have k10 : w0.cell? ⟨ba, 10, none⟩ = some (.int .i64 x10) := (HA.out.cell 10).trans rfl
  have k11 : w0.cell? ⟨ba, 11, none⟩ = some (.int .i64 x11) := (HA.out.cell 11).trans rfl
  have k12 : w0.cell? ⟨ba, 12, none⟩ = some (.int .i64 x12) := (HA.out.cell 12).trans rfl
  have k13 : w0.cell? ⟨ba, 13, none⟩ = some (.bool x13) := (HA.out.cell 13).trans rfl
  go_wp2_with fail
  with_reducible refine (HAw.out _).mono ?_
  rintro e w1 ⟨rfl, hN⟩
  have HN1 := Lib.hid (HN0.out.then_new hN)
  have HA := Lib.hid (HA.out.keep hN)
  clear hN HN0
  clear k0 k1 k2 k3 k4 k5 k6 k7 k8 k9 k10 k11 k12 k13
  have k0 : w1.cell? ⟨ba, 0, none⟩ = some (.int .i64 x0) := (HA.out.cell 0).trans rfl
  have k1 : w1.cell? ⟨ba, 1, none⟩ = some (.int .i64 x1) := (HA.out.cell 1).trans rfl
  have k2 : w1.cell? ⟨ba, 2, none⟩ = some (.int .i64 x2) := (HA.out.cell 2).trans rfl
  have k3 : w1.cell? ⟨ba, 3, none⟩ = some (.int .i64 x3) := (HA.out.cell 3).trans rfl
  have k4 : w1.cell? ⟨ba, 4, none⟩ = some (.int .i64 x4) := (HA.out.cell 4).trans rfl
  have k5 : w1.cell? ⟨ba, 5, none⟩ = some (.int .i64 x5) := (HA.out.cell 5).trans rfl
  have k6 : w1.cell? ⟨ba, 6, none⟩ = some (.int .i64 x6) := (HA.out.cell 6).trans rfl
  have k7 : w1.cell? ⟨ba, 7, none⟩ = some (.int .i64 x7) := (HA.out.cell 7).trans rfl
  have k8 : w1.cell? ⟨ba, 8, none⟩ = some (.bool x8) := (HA.out.cell 8).trans rfl
  have k9 : w1.cell? ⟨ba, 9, none⟩ = some (.int .i64 x9) := (HA.out.cell 9).trans rfl
  have k10 : w1.cell? ⟨ba, 10, none⟩ = some (.int .i64 x10) := (HA.out.cell 10).trans rfl
  have k11 : w1.cell? ⟨ba, 11, none⟩ = some (.int .i64 x11) := (HA.out.cell 11).trans rfl
  have k12 : w1.cell? ⟨ba, 12, none⟩ = some (.int .i64 x12) := (HA.out.cell 12).trans rfl
  have k13 : w1.cell? ⟨ba, 13, none⟩ = some (.bool x13) := (HA.out.cell 13).trans rfl
  go_wp2_with fail
  with_reducible refine (HRr.out _).mono ?_
  rintro e w2 ⟨rfl, hN⟩
  have HN2 := Lib.hid (HN1.out.then_new hN)
  have HA := Lib.hid (HA.out.keep hN)
  clear hN HN1 HRr
  clear k0 k1 k2 k3 k4 k5 k6 k7 k8 k9 k10 k11 k12 k13
  cases hr : rightN (Pd.ns ⟨x0, x1, x2, x3, x4, x5, x6, x7, x8, x9, x10, x11, x12, x13⟩) with
  | false =>
    go_wp2_with fail
    go_ret
    exact ⟨rfl, HN2.out⟩
  | true =>
    have Hr := Lib.hid (rightN_of hr)
    clear hr HAw
    have k0 : w2.cell? ⟨ba, 0, none⟩ = some (.int .i64 x0) := (HA.out.cell 0).trans rfl
    have k1 : w2.cell? ⟨ba, 1, none⟩ = some (.int .i64 x1) := (HA.out.cell 1).trans rfl
    have k2 : w2.cell? ⟨ba, 2, none⟩ = some (.int .i64 x2) := (HA.out.cell 2).trans rfl
    have k3 : w2.cell? ⟨ba, 3, none⟩ = some (.int .i64 x3) := (HA.out.cell 3).trans rfl
    have k4 : w2.cell? ⟨ba, 4, none⟩ = some (.int .i64 x4) := (HA.out.cell 4).trans rfl
    have k5 : w2.cell? ⟨ba, 5, none⟩ = some (.int .i64 x5) := (HA.out.cell 5).trans rfl
    have k6 : w2.cell? ⟨ba, 6, none⟩ = some (.int .i64 x6) := (HA.out.cell 6).trans rfl
    have k7 : w2.cell? ⟨ba, 7, none⟩ = some (.int .i64 x7) := (HA.out.cell 7).trans rfl
    have k8 : w2.cell? ⟨ba, 8, none⟩ = some (.bool x8) := (HA.out.cell 8).trans rfl
    have k9 : w2.cell? ⟨ba, 9, none⟩ = some (.int .i64 x9) := (HA.out.cell 9).trans rfl
    have k10 : w2.cell? ⟨ba, 10, none⟩ = some (.int .i64 x10) := (HA.out.cell 10).trans rfl
    have k11 : w2.cell? ⟨ba, 11, none⟩ = some (.int .i64 x11) := (HA.out.cell 11).trans rfl
    have k12 : w2.cell? ⟨ba, 12, none⟩ = some (.int .i64 x12) := (HA.out.cell 12).trans rfl
    have k13 : w2.cell? ⟨ba, 13, none⟩ = some (.bool x13) := (HA.out.cell 13).trans rfl
    go_upto_region 6 with (fail)
    obtain ⟨w3, hw3⟩ : ∃ w3, w3 = w2.alloc (.cells #[.int .i64 x0, .int .i64 x1, .int .i64 x2, .int .i64 x3, .int .i64 x4, .int .i64 x5, .int .i64 x6, .int .i64 x7, .bool x8, .int .i64 x9, .int .i64 x10, .int .i64 x11, .int .i64 x12, .bool x13] 50) := ⟨_, rfl⟩
    obtain ⟨tb, htb⟩ : ∃ tb, tb = w2.heap.size := ⟨_, rfl⟩
    have HT : Hid (Has w3 tb 50 #[.int .i64 x0, .int .i64 x1, .int .i64 x2, .int .i64 x3, .int .i64 x4, .int .i64 x5, .int .i64 x6, .int .i64 x7, .bool x8, .int .i64 x9, .int .i64 x10, .int .i64 x11, .int .i64 x12, .bool x13]) := by rw [hw3, htb]; exact Has.new _ _ _
    have HN3 : Hid (New w w3) := by rw [hw3]; exact HN2.out.alloc _
    have Htb : Hid (w.heap.size ≤ tb) := by rw [htb]; exact HN2.out.size
    rw [← hw3, ← htb]
    clear hw3 htb HA HN2
    clear k0 k1 k2 k3 k4 k5 k6 k7 k8 k9 k10 k11 k12 k13
    go_wp2_with fail
    go_loopg [6] 300 (fun gk s6 wr => ∃ (i : Nat) (p : Pd), i ≤ 300 ∧ i ≤ n ∧ gk = 300 - i ∧ s6 = .int .i64 i ∧ RightN p.ns ∧ Has wr tb 50 (pcells p) ∧ New w wr)
    case atStart => exact ⟨0, ⟨x0, x1, x2, x3, x4, x5, x6, x7, x8, x9, x10, x11, x12, x13⟩, by omega, by omega, by omega, rfl, Hr.out, HT.out, HN3.out⟩
    case round =>
      clear HT HN3 Hr
      obtain ⟨i, p, hi, hin, rfl, rfl, hR, hT, hN⟩ := hrel
      obtain ⟨x0, x1, x2, x3, x4, x5, x6, x7, x8, x9, x10, x11, x12, x13⟩ := p
      have HT : Hid (Has wr tb 50 #[.int .i64 x0, .int .i64 x1, .int .i64 x2, .int .i64 x3, .int .i64 x4, .int .i64 x5, .int .i64 x6, .int .i64 x7, .bool x8, .int .i64 x9, .int .i64 x10, .int .i64 x11, .int .i64 x12, .bool x13]) := hT
      have HN := Lib.hid hN
      have HR := Lib.hid hR
      clear hT hN hR
      have k0 : wr.cell? ⟨tb, 0, none⟩ = some (.int .i64 x0) := (HT.out.cell 0).trans rfl
      have k1 : wr.cell? ⟨tb, 1, none⟩ = some (.int .i64 x1) := (HT.out.cell 1).trans rfl
      have k2 : wr.cell? ⟨tb, 2, none⟩ = some (.int .i64 x2) := (HT.out.cell 2).trans rfl
      have k3 : wr.cell? ⟨tb, 3, none⟩ = some (.int .i64 x3) := (HT.out.cell 3).trans rfl
      have k4 : wr.cell? ⟨tb, 4, none⟩ = some (.int .i64 x4) := (HT.out.cell 4).trans rfl
      have k5 : wr.cell? ⟨tb, 5, none⟩ = some (.int .i64 x5) := (HT.out.cell 5).trans rfl
      have k6 : wr.cell? ⟨tb, 6, none⟩ = some (.int .i64 x6) := (HT.out.cell 6).trans rfl
      have k7 : wr.cell? ⟨tb, 7, none⟩ = some (.int .i64 x7) := (HT.out.cell 7).trans rfl
      have k8 : wr.cell? ⟨tb, 8, none⟩ = some (.bool x8) := (HT.out.cell 8).trans rfl
      have k9 : wr.cell? ⟨tb, 9, none⟩ = some (.int .i64 x9) := (HT.out.cell 9).trans rfl
      have k10 : wr.cell? ⟨tb, 10, none⟩ = some (.int .i64 x10) := (HT.out.cell 10).trans rfl
      have k11 : wr.cell? ⟨tb, 11, none⟩ = some (.int .i64 x11) := (HT.out.cell 11).trans rfl
      have k12 : wr.cell? ⟨tb, 12, none⟩ = some (.int .i64 x12) := (HT.out.cell 12).trans rfl
      have k13 : wr.cell? ⟨tb, 13, none⟩ = some (.bool x13) := (HT.out.cell 13).trans rfl
      by_cases hl1 : i < n
      · have t1 : decide ((i : Int) < (n : Int)) = true := decide_eq_true (by omega)
        have t1' : decide (i < n) = true := decide_eq_true hl1
        by_cases hl2 : i < 300
        · have t2 : decide ((i : Int) < 300) = true := decide_eq_true (by omega)
          have t2' : decide (i < 300) = true := decide_eq_true hl2
          obtain ⟨a, ha, hab, a0, a1, a2⟩ := (HDo.out.new HN.out (fun _ h => h)) i hl1
          subst ha
          obtain ⟨d, hd⟩ : ∃ d, d = f i := ⟨_, rfl⟩
          rw [← hd] at a0 a1 a2
          clear hd hab
          obtain ⟨dk, da, db⟩ := d
          dsimp only at a0 a1 a2
          go_upto_region 12 with (fail)
          obtain ⟨w1, hw1⟩ : ∃ w1, w1 = (wr.alloc (.cells #[.int .i64 dk, .int .i64 da, .int .i64 db] 52)).alloc (.cells #[.int .i64 0, .int .i64 0, .int .i64 0, .int .i64 0, .int .i64 0, .int .i64 0, .int .i64 0, .int .i64 0, .bool false, .int .i64 0, .int .i64 0, .int .i64 0, .int .i64 0, .bool false] 50) := ⟨_, rfl⟩
          obtain ⟨nb, hnb⟩ : ∃ nb, nb = wr.heap.size + 1 := ⟨_, rfl⟩
          obtain ⟨bd, hbd⟩ : ∃ bd, bd = wr.heap.size := ⟨_, rfl⟩
          have HB1 : Hid (Has w1 nb 50 #[.int .i64 0, .int .i64 0, .int .i64 0, .int .i64 0, .int .i64 0, .int .i64 0, .int .i64 0, .int .i64 0, .bool false, .int .i64 0, .int .i64 0, .int .i64 0, .int .i64 0, .bool false]) := by rw [hw1, hnb]; exact Has.new_at _ _ _ _ (by simp)
          have HD1 : Hid (Has w1 bd 52 #[.int .i64 dk, .int .i64 da, .int .i64 db]) := by rw [hw1, hbd]; exact (Has.new _ _ _).alloc _
          have HT1 : Hid (Has w1 tb 50 #[.int .i64 x0, .int .i64 x1, .int .i64 x2, .int .i64 x3, .int .i64 x4, .int .i64 x5, .int .i64 x6, .int .i64 x7, .bool x8, .int .i64 x9, .int .i64 x10, .int .i64 x11, .int .i64 x12, .bool x13]) := by rw [hw1]; exact (HT.out.alloc _).alloc _
          have HM1 : Hid (New wr w1) := by rw [hw1]; exact ((Chg.refl _ _).alloc _).alloc _
          have Hsz : Hid (tb < bd ∧ bd < nb ∧ w.heap.size ≤ bd) := by have h1 := HT.out.lt; have h2 := HN.out.size; rw [Hid, hnb, hbd]; omega
          have HN1 := Lib.hid (HN.out.then_new HM1.out)
          rw [← hw1, ← hnb, ← hbd]
          clear hw1 hnb hbd HM1 HT HN a0 a1 a2 t1 t1' t2 t2'
          clear k0 k1 k2 k3 k4 k5 k6 k7 k8 k9 k10 k11 k12 k13
          have k0 : w1.cell? ⟨tb, 0, none⟩ = some (.int .i64 x0) := (HT1.out.cell 0).trans rfl
          have k1 : w1.cell? ⟨tb, 1, none⟩ = some (.int .i64 x1) := (HT1.out.cell 1).trans rfl
          have k2 : w1.cell? ⟨tb, 2, none⟩ = some (.int .i64 x2) := (HT1.out.cell 2).trans rfl
          have k3 : w1.cell? ⟨tb, 3, none⟩ = some (.int .i64 x3) := (HT1.out.cell 3).trans rfl
          have k4 : w1.cell? ⟨tb, 4, none⟩ = some (.int .i64 x4) := (HT1.out.cell 4).trans rfl
          have k5 : w1.cell? ⟨tb, 5, none⟩ = some (.int .i64 x5) := (HT1.out.cell 5).trans rfl
          have k6 : w1.cell? ⟨tb, 6, none⟩ = some (.int .i64 x6) := (HT1.out.cell 6).trans rfl
          have k7 : w1.cell? ⟨tb, 7, none⟩ = some (.int .i64 x7) := (HT1.out.cell 7).trans rfl
          have k8 : w1.cell? ⟨tb, 8, none⟩ = some (.bool x8) := (HT1.out.cell 8).trans rfl
          have k9 : w1.cell? ⟨tb, 9, none⟩ = some (.int .i64 x9) := (HT1.out.cell 9).trans rfl
          have k10 : w1.cell? ⟨tb, 10, none⟩ = some (.int .i64 x10) := (HT1.out.cell 10).trans rfl
          have k11 : w1.cell? ⟨tb, 11, none⟩ = some (.int .i64 x11) := (HT1.out.cell 11).trans rfl
          have k12 : w1.cell? ⟨tb, 12, none⟩ = some (.int .i64 x12) := (HT1.out.cell 12).trans rfl
          have k13 : w1.cell? ⟨tb, 13, none⟩ = some (.bool x13) := (HT1.out.cell 13).trans rfl
          have d0 : w1.cell? ⟨bd, 0, none⟩ = some (.int .i64 dk) := (HD1.out.cell 0).trans rfl
          have d1 : w1.cell? ⟨bd, 1, none⟩ = some (.int .i64 da) := (HD1.out.cell 1).trans rfl
          have d2 : w1.cell? ⟨bd, 2, none⟩ = some (.int .i64 db) := (HD1.out.cell 2).trans rfl
          go_upto_block 2 with (fail)
          go_cut [9] (fun s9 wc => ∃ (E : Int) (S : Pd), s9 = .int .i64 E ∧ (∀ w, Calls Try.prog 27 #[.agg #[.int .i64 x0, .int .i64 x1, .int .i64 x2, .int .i64 x3, .int .i64 x4, .int .i64 x5, .int .i64 x6, .int .i64 x7, .bool x8, .int .i64 x9, .int .i64 x10, .int .i64 x11, .int .i64 x12, .bool x13], .int .i64 dk, .int .i64 da, .int .i64 db] w fun e w' => e = .returned (.tuple #[S.V, .int .i64 E]) ∧ New w w') ∧ (¬ E = 0 → S = pz) ∧ (E = 0 → RightN S.ns) ∧ Has wc nb 50 (pcells S) ∧ Has wc tb 50 #[.int .i64 x0, .int .i64 x1, .int .i64 x2, .int .i64 x3, .int .i64 x4, .int .i64 x5, .int .i64 x6, .int .i64 x7, .bool x8, .int .i64 x9, .int .i64 x10, .int .i64 x11, .int .i64 x12, .bool x13] ∧ Has wc bd 52 #[.int .i64 dk, .int .i64 da, .int .i64 db] ∧ New w wc)
          case rest =>
            obtain ⟨E, S, rfl, hDc, hbad, hok, hX, hT, hD, hN⟩ := hcut
            obtain ⟨w3, rfl⟩ : ∃ w3, w3 = wc := ⟨_, rfl⟩
            obtain ⟨y0, y1, y2, y3, y4, y5, y6, y7, y8, y9, y10, y11, y12, y13⟩ := S
            have HDc : Hid (∀ w, Calls Try.prog 27 #[.agg #[.int .i64 x0, .int .i64 x1, .int .i64 x2, .int .i64 x3, .int .i64 x4, .int .i64 x5, .int .i64 x6, .int .i64 x7, .bool x8, .int .i64 x9, .int .i64 x10, .int .i64 x11, .int .i64 x12, .bool x13], .int .i64 dk, .int .i64 da, .int .i64 db] w fun e w' => e = .returned (.tuple #[.agg #[.int .i64 y0, .int .i64 y1, .int .i64 y2, .int .i64 y3, .int .i64 y4, .int .i64 y5, .int .i64 y6, .int .i64 y7, .bool y8, .int .i64 y9, .int .i64 y10, .int .i64 y11, .int .i64 y12, .bool y13], .int .i64 E]) ∧ New w w') := hDc
            have Hok := Lib.hid hok
            have HX : Hid (Has w3 nb 50 #[.int .i64 y0, .int .i64 y1, .int .i64 y2, .int .i64 y3, .int .i64 y4, .int .i64 y5, .int .i64 y6, .int .i64 y7, .bool y8, .int .i64 y9, .int .i64 y10, .int .i64 y11, .int .i64 y12, .bool y13]) := hX
            have HT3 := Lib.hid hT
            have HD3 := Lib.hid hD
            have HN3 := Lib.hid hN
            clear hDc hbad hok hX hT hD hN HT1 HB1 HD1 HN1 d0 d1 d2
            clear k0 k1 k2 k3 k4 k5 k6 k7 k8 k9 k10 k11 k12 k13
            have k0 : w3.cell? ⟨tb, 0, none⟩ = some (.int .i64 x0) := (HT3.out.cell 0).trans rfl
            have k1 : w3.cell? ⟨tb, 1, none⟩ = some (.int .i64 x1) := (HT3.out.cell 1).trans rfl
            have k2 : w3.cell? ⟨tb, 2, none⟩ = some (.int .i64 x2) := (HT3.out.cell 2).trans rfl
            have k3 : w3.cell? ⟨tb, 3, none⟩ = some (.int .i64 x3) := (HT3.out.cell 3).trans rfl
            have k4 : w3.cell? ⟨tb, 4, none⟩ = some (.int .i64 x4) := (HT3.out.cell 4).trans rfl
            have k5 : w3.cell? ⟨tb, 5, none⟩ = some (.int .i64 x5) := (HT3.out.cell 5).trans rfl
            have k6 : w3.cell? ⟨tb, 6, none⟩ = some (.int .i64 x6) := (HT3.out.cell 6).trans rfl
            have k7 : w3.cell? ⟨tb, 7, none⟩ = some (.int .i64 x7) := (HT3.out.cell 7).trans rfl
            have k8 : w3.cell? ⟨tb, 8, none⟩ = some (.bool x8) := (HT3.out.cell 8).trans rfl
            have k9 : w3.cell? ⟨tb, 9, none⟩ = some (.int .i64 x9) := (HT3.out.cell 9).trans rfl
            have k10 : w3.cell? ⟨tb, 10, none⟩ = some (.int .i64 x10) := (HT3.out.cell 10).trans rfl
            have k11 : w3.cell? ⟨tb, 11, none⟩ = some (.int .i64 x11) := (HT3.out.cell 11).trans rfl
            have k12 : w3.cell? ⟨tb, 12, none⟩ = some (.int .i64 x12) := (HT3.out.cell 12).trans rfl
            have k13 : w3.cell? ⟨tb, 13, none⟩ = some (.bool x13) := (HT3.out.cell 13).trans rfl
            have d0 : w3.cell? ⟨bd, 0, none⟩ = some (.int .i64 dk) := (HD3.out.cell 0).trans rfl
            have d1 : w3.cell? ⟨bd, 1, none⟩ = some (.int .i64 da) := (HD3.out.cell 1).trans rfl
            have d2 : w3.cell? ⟨bd, 2, none⟩ = some (.int .i64 db) := (HD3.out.cell 2).trans rfl
            go_wp2_with fail
            with_reducible refine (HDc.out _).mono ?_
            rintro e w4 ⟨rfl, hN⟩
            have HT4 := Lib.hid (HT3.out.keep hN)
            have HX4 := Lib.hid (HX.out.keep hN)
            have HN4 := Lib.hid (HN3.out.then_new hN)
            clear hN HT3 HX HD3 HN3 HDc
            clear k0 k1 k2 k3 k4 k5 k6 k7 k8 k9 k10 k11 k12 k13
            clear d0 d1 d2
            have q0 : w4.cell? ⟨nb, 0, none⟩ = some (.int .i64 y0) := (HX4.out.cell 0).trans rfl
            have q1 : w4.cell? ⟨nb, 1, none⟩ = some (.int .i64 y1) := (HX4.out.cell 1).trans rfl
            have q2 : w4.cell? ⟨nb, 2, none⟩ = some (.int .i64 y2) := (HX4.out.cell 2).trans rfl
            have q3 : w4.cell? ⟨nb, 3, none⟩ = some (.int .i64 y3) := (HX4.out.cell 3).trans rfl
            have q4 : w4.cell? ⟨nb, 4, none⟩ = some (.int .i64 y4) := (HX4.out.cell 4).trans rfl
            have q5 : w4.cell? ⟨nb, 5, none⟩ = some (.int .i64 y5) := (HX4.out.cell 5).trans rfl
            have q6 : w4.cell? ⟨nb, 6, none⟩ = some (.int .i64 y6) := (HX4.out.cell 6).trans rfl
            have q7 : w4.cell? ⟨nb, 7, none⟩ = some (.int .i64 y7) := (HX4.out.cell 7).trans rfl
            have q8 : w4.cell? ⟨nb, 8, none⟩ = some (.bool y8) := (HX4.out.cell 8).trans rfl
            have q9 : w4.cell? ⟨nb, 9, none⟩ = some (.int .i64 y9) := (HX4.out.cell 9).trans rfl
            have q10 : w4.cell? ⟨nb, 10, none⟩ = some (.int .i64 y10) := (HX4.out.cell 10).trans rfl
            have q11 : w4.cell? ⟨nb, 11, none⟩ = some (.int .i64 y11) := (HX4.out.cell 11).trans rfl
            have q12 : w4.cell? ⟨nb, 12, none⟩ = some (.int .i64 y12) := (HX4.out.cell 12).trans rfl
            have q13 : w4.cell? ⟨nb, 13, none⟩ = some (.bool y13) := (HX4.out.cell 13).trans rfl
            have k0 : w4.cell? ⟨tb, 0, none⟩ = some (.int .i64 x0) := (HT4.out.cell 0).trans rfl
            have k1 : w4.cell? ⟨tb, 1, none⟩ = some (.int .i64 x1) := (HT4.out.cell 1).trans rfl
            have k2 : w4.cell? ⟨tb, 2, none⟩ = some (.int .i64 x2) := (HT4.out.cell 2).trans rfl
            have k3 : w4.cell? ⟨tb, 3, none⟩ = some (.int .i64 x3) := (HT4.out.cell 3).trans rfl
            have k4 : w4.cell? ⟨tb, 4, none⟩ = some (.int .i64 x4) := (HT4.out.cell 4).trans rfl
            have k5 : w4.cell? ⟨tb, 5, none⟩ = some (.int .i64 x5) := (HT4.out.cell 5).trans rfl
            have k6 : w4.cell? ⟨tb, 6, none⟩ = some (.int .i64 x6) := (HT4.out.cell 6).trans rfl
            have k7 : w4.cell? ⟨tb, 7, none⟩ = some (.int .i64 x7) := (HT4.out.cell 7).trans rfl
            have k8 : w4.cell? ⟨tb, 8, none⟩ = some (.bool x8) := (HT4.out.cell 8).trans rfl
            have k9 : w4.cell? ⟨tb, 9, none⟩ = some (.int .i64 x9) := (HT4.out.cell 9).trans rfl
            have k10 : w4.cell? ⟨tb, 10, none⟩ = some (.int .i64 x10) := (HT4.out.cell 10).trans rfl
            have k11 : w4.cell? ⟨tb, 11, none⟩ = some (.int .i64 x11) := (HT4.out.cell 11).trans rfl
            have k12 : w4.cell? ⟨tb, 12, none⟩ = some (.int .i64 x12) := (HT4.out.cell 12).trans rfl
            have k13 : w4.cell? ⟨tb, 13, none⟩ = some (.bool x13) := (HT4.out.cell 13).trans rfl
            have hql := HX4.out.lt
            have hkl := HT4.out.lt
            by_cases hE0 : E = 0
            · subst hE0
              have HRS := Lib.hid (Hok.out rfl)
              have HRi : Hid (∀ (g : Nat) (w : World), Has w g 24 #[.int .i64 y0, .int .i64 y1, .int .i64 y2, .int .i64 y3, .int .i64 y4, .int .i64 y5, .int .i64 y6, .int .i64 y7, .bool y8, .int .i64 y9, .int .i64 y10, .int .i64 y11, .int .i64 y12, .bool y13] → g < w.heap.size → Calls Try.prog 14 #[.slice (some ⟨g, 0, none⟩) 1 1] w fun e w' => e = .returned (.bool true) ∧ New w w') := fun g w h hl => by
                have := Right10_any (some ⟨g, 0, none⟩) 1 1 (fun _ => ⟨y0, y1, y2, y3, y4, y5, y6, y7, y8, y9, y10, y11, y12, y13⟩) (· = g) w (Pds.one (p := ⟨y0, y1, y2, y3, y4, y5, y6, y7, y8, y9, y10, y11, y12, y13⟩) h) (fun k hk => by rw [hk]; exact hl) (by omega)
                rw [allR_one, rightN_yes HRS.out] at this
                exact this
              have HT5 : Hid (Has (w4.alloc (.cells #[.int .i64 y0, .int .i64 y1, .int .i64 y2, .int .i64 y3, .int .i64 y4, .int .i64 y5, .int .i64 y6, .int .i64 y7, .bool y8, .int .i64 y9, .int .i64 y10, .int .i64 y11, .int .i64 y12, .bool y13] 24)) tb 50 #[.int .i64 x0, .int .i64 x1, .int .i64 x2, .int .i64 x3, .int .i64 x4, .int .i64 x5, .int .i64 x6, .int .i64 x7, .bool x8, .int .i64 x9, .int .i64 x10, .int .i64 x11, .int .i64 x12, .bool x13]) := HT4.out.alloc _
              have HN5 : Hid (New w (w4.alloc (.cells #[.int .i64 y0, .int .i64 y1, .int .i64 y2, .int .i64 y3, .int .i64 y4, .int .i64 y5, .int .i64 y6, .int .i64 y7, .bool y8, .int .i64 y9, .int .i64 y10, .int .i64 y11, .int .i64 y12, .bool y13] 24))) := HN4.out.alloc _
              clear Hok
              go_wp2_with (first
                | (refine wpList_store_th rfl (.tmp 5) (.tmp 107) rfl tb ⟨y0, y1, y2, y3, y4, y5, y6, y7, y8, y9, y10, y11, y12, y13⟩ _ rfl rfl HT5.out rfl ?_
                   intro wX hX hCX
                   have HX : Hid (Has wX tb 50 #[.int .i64 y0, .int .i64 y1, .int .i64 y2, .int .i64 y3, .int .i64 y4, .int .i64 y5, .int .i64 y6, .int .i64 y7, .bool y8, .int .i64 y9, .int .i64 y10, .int .i64 y11, .int .i64 y12, .bool y13]) := hX
                   have HNX := Lib.hid (HN5.out.trans hCX (fun i hi h => by have := Htb.out; omega))
                   clear hX hCX
                   clear k0 k1 k2 k3 k4 k5 k6 k7 k8 k9 k10 k11 k12 k13
                   have k0 : wX.cell? ⟨tb, 0, none⟩ = some (.int .i64 y0) := (HX.out.cell 0).trans rfl
                   have k1 : wX.cell? ⟨tb, 1, none⟩ = some (.int .i64 y1) := (HX.out.cell 1).trans rfl
                   have k2 : wX.cell? ⟨tb, 2, none⟩ = some (.int .i64 y2) := (HX.out.cell 2).trans rfl
                   have k3 : wX.cell? ⟨tb, 3, none⟩ = some (.int .i64 y3) := (HX.out.cell 3).trans rfl
                   have k4 : wX.cell? ⟨tb, 4, none⟩ = some (.int .i64 y4) := (HX.out.cell 4).trans rfl
                   have k5 : wX.cell? ⟨tb, 5, none⟩ = some (.int .i64 y5) := (HX.out.cell 5).trans rfl
                   have k6 : wX.cell? ⟨tb, 6, none⟩ = some (.int .i64 y6) := (HX.out.cell 6).trans rfl
                   have k7 : wX.cell? ⟨tb, 7, none⟩ = some (.int .i64 y7) := (HX.out.cell 7).trans rfl
                   have k8 : wX.cell? ⟨tb, 8, none⟩ = some (.bool y8) := (HX.out.cell 8).trans rfl
                   have k9 : wX.cell? ⟨tb, 9, none⟩ = some (.int .i64 y9) := (HX.out.cell 9).trans rfl
                   have k10 : wX.cell? ⟨tb, 10, none⟩ = some (.int .i64 y10) := (HX.out.cell 10).trans rfl
                   have k11 : wX.cell? ⟨tb, 11, none⟩ = some (.int .i64 y11) := (HX.out.cell 11).trans rfl
                   have k12 : wX.cell? ⟨tb, 12, none⟩ = some (.int .i64 y12) := (HX.out.cell 12).trans rfl
                   have k13 : wX.cell? ⟨tb, 13, none⟩ = some (.bool y13) := (HX.out.cell 13).trans rfl
                   have hxl := HX.out.lt)
                | fail)
              with_reducible refine (HRi.out _ _ (Has.new _ _ _) (by simp)).mono ?_
              rintro e w6 ⟨rfl, hN⟩
              have HX6 := Lib.hid ((HX.out.alloc (.cells #[.int .i64 y0, .int .i64 y1, .int .i64 y2, .int .i64 y3, .int .i64 y4, .int .i64 y5, .int .i64 y6, .int .i64 y7, .bool y8, .int .i64 y9, .int .i64 y10, .int .i64 y11, .int .i64 y12, .bool y13] 24)).keep hN)
              have HN6 := Lib.hid ((HNX.out.alloc (.cells #[.int .i64 y0, .int .i64 y1, .int .i64 y2, .int .i64 y3, .int .i64 y4, .int .i64 y5, .int .i64 y6, .int .i64 y7, .bool y8, .int .i64 y9, .int .i64 y10, .int .i64 y11, .int .i64 y12, .bool y13] 24)).then_new hN)
              clear hN
              go_wp2_with fail
              go_roundg (300 - (i + 1))
              case measure => omega
              case rel => exact ⟨i + 1, ⟨y0, y1, y2, y3, y4, y5, y6, y7, y8, y9, y10, y11, y12, y13⟩, by omega, by omega, rfl, by go_num, HRS.out, HX6.out, HN6.out⟩
            · have e5 : (E == 0) = false := beq_eq_false_iff_ne.2 hE0
              have HRi : Hid (∀ (g : Nat) (w : World), Has w g 24 #[.int .i64 x0, .int .i64 x1, .int .i64 x2, .int .i64 x3, .int .i64 x4, .int .i64 x5, .int .i64 x6, .int .i64 x7, .bool x8, .int .i64 x9, .int .i64 x10, .int .i64 x11, .int .i64 x12, .bool x13] → g < w.heap.size → Calls Try.prog 14 #[.slice (some ⟨g, 0, none⟩) 1 1] w fun e w' => e = .returned (.bool true) ∧ New w w') := fun g w h hl => by
                have := Right10_any (some ⟨g, 0, none⟩) 1 1 (fun _ => ⟨x0, x1, x2, x3, x4, x5, x6, x7, x8, x9, x10, x11, x12, x13⟩) (· = g) w (Pds.one (p := ⟨x0, x1, x2, x3, x4, x5, x6, x7, x8, x9, x10, x11, x12, x13⟩) h) (fun k hk => by rw [hk]; exact hl) (by omega)
                rw [allR_one, rightN_yes HR.out] at this
                exact this
              clear Hok hE0
              go_wp2_with fail
              with_reducible refine (HRi.out _ _ (Has.new_at _ _ _ _ (by simp)) (by simp)).mono ?_
              rintro e w6 ⟨rfl, hN⟩
              have HT6 := Lib.hid (((HT4.out.alloc (.cells #[.int .i64 y0, .int .i64 y1, .int .i64 y2, .int .i64 y3, .int .i64 y4, .int .i64 y5, .int .i64 y6, .int .i64 y7, .bool y8, .int .i64 y9, .int .i64 y10, .int .i64 y11, .int .i64 y12, .bool y13] 24)).alloc (.cells #[.int .i64 x0, .int .i64 x1, .int .i64 x2, .int .i64 x3, .int .i64 x4, .int .i64 x5, .int .i64 x6, .int .i64 x7, .bool x8, .int .i64 x9, .int .i64 x10, .int .i64 x11, .int .i64 x12, .bool x13] 24)).keep hN)
              have HN6 := Lib.hid (((HN4.out.alloc (.cells #[.int .i64 y0, .int .i64 y1, .int .i64 y2, .int .i64 y3, .int .i64 y4, .int .i64 y5, .int .i64 y6, .int .i64 y7, .bool y8, .int .i64 y9, .int .i64 y10, .int .i64 y11, .int .i64 y12, .bool y13] 24)).alloc (.cells #[.int .i64 x0, .int .i64 x1, .int .i64 x2, .int .i64 x3, .int .i64 x4, .int .i64 x5, .int .i64 x6, .int .i64 x7, .bool x8, .int .i64 x9, .int .i64 x10, .int .i64 x11, .int .i64 x12, .bool x13] 24)).then_new hN)
              clear hN
              go_wp2_with fail
              go_roundg (300 - (i + 1))
              case measure => omega
              case rel => exact ⟨i + 1, ⟨x0, x1, x2, x3, x4, x5, x6, x7, x8, x9, x10, x11, x12, x13⟩, by omega, by omega, rfl, by go_num, HR.out, HT6.out, HN6.out⟩
          by_cases g0 : dk = 0
          · subst g0
            obtain ⟨E, hE⟩ : ∃ E, E = aftE ⟨x0, x1, x2, x3, x4, x5, x6, x7, x8, x9, x10, x11, x12, x13⟩ (rideE x0 x6 x7 da) := ⟨_, rfl⟩
            obtain ⟨S, hS⟩ : ∃ S, S = aftP ⟨x0, x1, x2, x3, x4, x5, x6, x7, x8, x9, x10, x11, x12, x13⟩ (rideQ ⟨x0, x1, x2, x3, x4, x5, x6, x7, x8, x9, x10, x11, x12, x13⟩) (rideE x0 x6 x7 da) := ⟨_, rfl⟩
            have HC : Hid (∀ w, Calls Try.prog 22 #[.agg #[.int .i64 x0, .int .i64 x1, .int .i64 x2, .int .i64 x3, .int .i64 x4, .int .i64 x5, .int .i64 x6, .int .i64 x7, .bool x8, .int .i64 x9, .int .i64 x10, .int .i64 x11, .int .i64 x12, .bool x13], .int .i64 da] w fun e w' => e = .returned (.tuple #[S.V, .int .i64 E]) ∧ New w w') := fun w => by
              rw [hE, hS]
              exact Ride_any ⟨x0, x1, x2, x3, x4, x5, x6, x7, x8, x9, x10, x11, x12, x13⟩ HR.out da w
            have HDc : Hid (∀ w, Calls Try.prog 27 #[.agg #[.int .i64 x0, .int .i64 x1, .int .i64 x2, .int .i64 x3, .int .i64 x4, .int .i64 x5, .int .i64 x6, .int .i64 x7, .bool x8, .int .i64 x9, .int .i64 x10, .int .i64 x11, .int .i64 x12, .bool x13], .int .i64 0, .int .i64 da, .int .i64 db] w fun e w' => e = .returned (.tuple #[S.V, .int .i64 E]) ∧ New w w') := fun w => by
              rw [hE, hS]
              exact Do0_any ⟨x0, x1, x2, x3, x4, x5, x6, x7, x8, x9, x10, x11, x12, x13⟩ HR.out da db w
            have Hbad : Hid (¬ E = 0 → S = pz) := fun h => by rw [hS]; exact aft_bad (by rw [← hE]; exact h)
            have Hok : Hid (E = 0 → RightN S.ns) := fun h => by
              have h1 : stE ⟨x0, x1, x2, x3, x4, x5, x6, x7, x8, x9, x10, x11, x12, x13⟩ ⟨0, da, db⟩ = 0 := by unfold stE; simp only [Int.reduceEq, if_true, if_false]; rw [← hE]; exact h
              have h2 := (st_ok HR.out h1).2.1
              rw [hS]
              unfold stP at h2
              simp only [Int.reduceEq, if_true, if_false] at h2
              exact h2
            clear hE hS
            go_wp2_with fail
            with_reducible refine (HC.out _).mono ?_
            rintro e w2 ⟨rfl, hN⟩
            have HT2 := Lib.hid (HT1.out.keep hN)
            have HB2 := Lib.hid (HB1.out.keep hN)
            have HD2 := Lib.hid (HD1.out.keep hN)
            have HN2 := Lib.hid (HN1.out.then_new hN)
            clear hN HT1 HB1 HD1 HN1 HC
            go_wp2_with (first
              | (refine wpList_store_th rfl (.tmp 8) (.tmp 53) rfl nb S _ rfl rfl HB2.out rfl ?_
                 intro w3 hX hCX
                 have HX := Lib.hid hX
                 have HCX := Lib.hid hCX
                 clear hX hCX)
              | fail)
            go_meet
            case rel => exact ⟨E, S, rfl, HDc.out, Hbad.out, Hok.out, HX.out, HT2.out.chg HCX.out (by have := Hsz.out; omega), HD2.out.chg HCX.out (by have := Hsz.out; omega), HN2.out.trans HCX.out (fun i hi h => by have := Hsz.out; omega)⟩
          by_cases g1 : dk = 1
          · subst g1
            clear g0
            obtain ⟨E, hE⟩ : ∃ E, E = aftE ⟨x0, x1, x2, x3, x4, x5, x6, x7, x8, x9, x10, x11, x12, x13⟩ (inE ⟨x0, x1, x2, x3, x4, x5, x6, x7, x8, x9, x10, x11, x12, x13⟩ da db) := ⟨_, rfl⟩
            obtain ⟨S, hS⟩ : ∃ S, S = aftP ⟨x0, x1, x2, x3, x4, x5, x6, x7, x8, x9, x10, x11, x12, x13⟩ (inQ ⟨x0, x1, x2, x3, x4, x5, x6, x7, x8, x9, x10, x11, x12, x13⟩ da db) (inE ⟨x0, x1, x2, x3, x4, x5, x6, x7, x8, x9, x10, x11, x12, x13⟩ da db) := ⟨_, rfl⟩
            have HC : Hid (∀ w, Calls Try.prog 23 #[.agg #[.int .i64 x0, .int .i64 x1, .int .i64 x2, .int .i64 x3, .int .i64 x4, .int .i64 x5, .int .i64 x6, .int .i64 x7, .bool x8, .int .i64 x9, .int .i64 x10, .int .i64 x11, .int .i64 x12, .bool x13], .int .i64 da, .int .i64 db] w fun e w' => e = .returned (.tuple #[S.V, .int .i64 E]) ∧ New w w') := fun w => by
              rw [hE, hS]
              exact In_any ⟨x0, x1, x2, x3, x4, x5, x6, x7, x8, x9, x10, x11, x12, x13⟩ HR.out da db w
            have HDc : Hid (∀ w, Calls Try.prog 27 #[.agg #[.int .i64 x0, .int .i64 x1, .int .i64 x2, .int .i64 x3, .int .i64 x4, .int .i64 x5, .int .i64 x6, .int .i64 x7, .bool x8, .int .i64 x9, .int .i64 x10, .int .i64 x11, .int .i64 x12, .bool x13], .int .i64 1, .int .i64 da, .int .i64 db] w fun e w' => e = .returned (.tuple #[S.V, .int .i64 E]) ∧ New w w') := fun w => by
              rw [hE, hS]
              have h := Do1_any ⟨x0, x1, x2, x3, x4, x5, x6, x7, x8, x9, x10, x11, x12, x13⟩ HR.out da db w
              rw [(doc1 ⟨x0, x1, x2, x3, x4, x5, x6, x7, x8, x9, x10, x11, x12, x13⟩ da db).1, (doc1 ⟨x0, x1, x2, x3, x4, x5, x6, x7, x8, x9, x10, x11, x12, x13⟩ da db).2] at h
              exact h
            have Hbad : Hid (¬ E = 0 → S = pz) := fun h => by rw [hS]; exact aft_bad (by rw [← hE]; exact h)
            have Hok : Hid (E = 0 → RightN S.ns) := fun h => by
              have h1 : stE ⟨x0, x1, x2, x3, x4, x5, x6, x7, x8, x9, x10, x11, x12, x13⟩ ⟨1, da, db⟩ = 0 := by unfold stE; simp only [Int.reduceEq, if_true, if_false]; rw [← hE]; exact h
              have h2 := (st_ok HR.out h1).2.1
              rw [hS]
              unfold stP at h2
              simp only [Int.reduceEq, if_true, if_false] at h2
              exact h2
            clear hE hS
            go_wp2_with fail
            with_reducible refine (HC.out _).mono ?_
            rintro e w2 ⟨rfl, hN⟩
            have HT2 := Lib.hid (HT1.out.keep hN)
            have HB2 := Lib.hid (HB1.out.keep hN)
            have HD2 := Lib.hid (HD1.out.keep hN)
            have HN2 := Lib.hid (HN1.out.then_new hN)
            clear hN HT1 HB1 HD1 HN1 HC
            go_wp2_with (first
              | (refine wpList_store_th rfl (.tmp 8) (.tmp 64) rfl nb S _ rfl rfl HB2.out rfl ?_
                 intro w3 hX hCX
                 have HX := Lib.hid hX
                 have HCX := Lib.hid hCX
                 clear hX hCX)
              | fail)
            go_meet
            case rel => exact ⟨E, S, rfl, HDc.out, Hbad.out, Hok.out, HX.out, HT2.out.chg HCX.out (by have := Hsz.out; omega), HD2.out.chg HCX.out (by have := Hsz.out; omega), HN2.out.trans HCX.out (fun i hi h => by have := Hsz.out; omega)⟩
          by_cases g2 : dk = 2
          · subst g2
            clear g0 g1
            obtain ⟨E, hE⟩ : ∃ E, E = aftE ⟨x0, x1, x2, x3, x4, x5, x6, x7, x8, x9, x10, x11, x12, x13⟩ (outE ⟨x0, x1, x2, x3, x4, x5, x6, x7, x8, x9, x10, x11, x12, x13⟩ da) := ⟨_, rfl⟩
            obtain ⟨S, hS⟩ : ∃ S, S = aftP ⟨x0, x1, x2, x3, x4, x5, x6, x7, x8, x9, x10, x11, x12, x13⟩ (outQ ⟨x0, x1, x2, x3, x4, x5, x6, x7, x8, x9, x10, x11, x12, x13⟩ da) (outE ⟨x0, x1, x2, x3, x4, x5, x6, x7, x8, x9, x10, x11, x12, x13⟩ da) := ⟨_, rfl⟩
            have HC : Hid (∀ w, Calls Try.prog 24 #[.agg #[.int .i64 x0, .int .i64 x1, .int .i64 x2, .int .i64 x3, .int .i64 x4, .int .i64 x5, .int .i64 x6, .int .i64 x7, .bool x8, .int .i64 x9, .int .i64 x10, .int .i64 x11, .int .i64 x12, .bool x13], .int .i64 da] w fun e w' => e = .returned (.tuple #[S.V, .int .i64 E]) ∧ New w w') := fun w => by
              rw [hE, hS]
              exact Out_any ⟨x0, x1, x2, x3, x4, x5, x6, x7, x8, x9, x10, x11, x12, x13⟩ HR.out da w
            have HDc : Hid (∀ w, Calls Try.prog 27 #[.agg #[.int .i64 x0, .int .i64 x1, .int .i64 x2, .int .i64 x3, .int .i64 x4, .int .i64 x5, .int .i64 x6, .int .i64 x7, .bool x8, .int .i64 x9, .int .i64 x10, .int .i64 x11, .int .i64 x12, .bool x13], .int .i64 2, .int .i64 da, .int .i64 db] w fun e w' => e = .returned (.tuple #[S.V, .int .i64 E]) ∧ New w w') := fun w => by
              rw [hE, hS]
              have h := Do2_any ⟨x0, x1, x2, x3, x4, x5, x6, x7, x8, x9, x10, x11, x12, x13⟩ HR.out da db w
              rw [(doc2 ⟨x0, x1, x2, x3, x4, x5, x6, x7, x8, x9, x10, x11, x12, x13⟩ da db).1, (doc2 ⟨x0, x1, x2, x3, x4, x5, x6, x7, x8, x9, x10, x11, x12, x13⟩ da db).2] at h
              exact h
            have Hbad : Hid (¬ E = 0 → S = pz) := fun h => by rw [hS]; exact aft_bad (by rw [← hE]; exact h)
            have Hok : Hid (E = 0 → RightN S.ns) := fun h => by
              have h1 : stE ⟨x0, x1, x2, x3, x4, x5, x6, x7, x8, x9, x10, x11, x12, x13⟩ ⟨2, da, db⟩ = 0 := by unfold stE; simp only [Int.reduceEq, if_true, if_false]; rw [← hE]; exact h
              have h2 := (st_ok HR.out h1).2.1
              rw [hS]
              unfold stP at h2
              simp only [Int.reduceEq, if_true, if_false] at h2
              exact h2
            clear hE hS
            go_wp2_with fail
            with_reducible refine (HC.out _).mono ?_
            rintro e w2 ⟨rfl, hN⟩
            have HT2 := Lib.hid (HT1.out.keep hN)
            have HB2 := Lib.hid (HB1.out.keep hN)
            have HD2 := Lib.hid (HD1.out.keep hN)
            have HN2 := Lib.hid (HN1.out.then_new hN)
            clear hN HT1 HB1 HD1 HN1 HC
            go_wp2_with (first
              | (refine wpList_store_th rfl (.tmp 8) (.tmp 73) rfl nb S _ rfl rfl HB2.out rfl ?_
                 intro w3 hX hCX
                 have HX := Lib.hid hX
                 have HCX := Lib.hid hCX
                 clear hX hCX)
              | fail)
            go_meet
            case rel => exact ⟨E, S, rfl, HDc.out, Hbad.out, Hok.out, HX.out, HT2.out.chg HCX.out (by have := Hsz.out; omega), HD2.out.chg HCX.out (by have := Hsz.out; omega), HN2.out.trans HCX.out (fun i hi h => by have := Hsz.out; omega)⟩
          by_cases g3 : dk = 3
          · subst g3
            clear g0 g1 g2
            obtain ⟨E, hE⟩ : ∃ E, E = aftE ⟨x0, x1, x2, x3, x4, x5, x6, x7, x8, x9, x10, x11, x12, x13⟩ (addE ⟨x0, x1, x2, x3, x4, x5, x6, x7, x8, x9, x10, x11, x12, x13⟩ da) := ⟨_, rfl⟩
            obtain ⟨S, hS⟩ : ∃ S, S = aftP ⟨x0, x1, x2, x3, x4, x5, x6, x7, x8, x9, x10, x11, x12, x13⟩ (addQ ⟨x0, x1, x2, x3, x4, x5, x6, x7, x8, x9, x10, x11, x12, x13⟩ da) (addE ⟨x0, x1, x2, x3, x4, x5, x6, x7, x8, x9, x10, x11, x12, x13⟩ da) := ⟨_, rfl⟩
            have HC : Hid (∀ w, Calls Try.prog 25 #[.agg #[.int .i64 x0, .int .i64 x1, .int .i64 x2, .int .i64 x3, .int .i64 x4, .int .i64 x5, .int .i64 x6, .int .i64 x7, .bool x8, .int .i64 x9, .int .i64 x10, .int .i64 x11, .int .i64 x12, .bool x13], .int .i64 da] w fun e w' => e = .returned (.tuple #[S.V, .int .i64 E]) ∧ New w w') := fun w => by
              rw [hE, hS]
              exact Add_any ⟨x0, x1, x2, x3, x4, x5, x6, x7, x8, x9, x10, x11, x12, x13⟩ HR.out da w
            have HDc : Hid (∀ w, Calls Try.prog 27 #[.agg #[.int .i64 x0, .int .i64 x1, .int .i64 x2, .int .i64 x3, .int .i64 x4, .int .i64 x5, .int .i64 x6, .int .i64 x7, .bool x8, .int .i64 x9, .int .i64 x10, .int .i64 x11, .int .i64 x12, .bool x13], .int .i64 3, .int .i64 da, .int .i64 db] w fun e w' => e = .returned (.tuple #[S.V, .int .i64 E]) ∧ New w w') := fun w => by
              rw [hE, hS]
              have h := Do3_any ⟨x0, x1, x2, x3, x4, x5, x6, x7, x8, x9, x10, x11, x12, x13⟩ HR.out da db w
              rw [(doc3 ⟨x0, x1, x2, x3, x4, x5, x6, x7, x8, x9, x10, x11, x12, x13⟩ da db).1, (doc3 ⟨x0, x1, x2, x3, x4, x5, x6, x7, x8, x9, x10, x11, x12, x13⟩ da db).2] at h
              exact h
            have Hbad : Hid (¬ E = 0 → S = pz) := fun h => by rw [hS]; exact aft_bad (by rw [← hE]; exact h)
            have Hok : Hid (E = 0 → RightN S.ns) := fun h => by
              have h1 : stE ⟨x0, x1, x2, x3, x4, x5, x6, x7, x8, x9, x10, x11, x12, x13⟩ ⟨3, da, db⟩ = 0 := by unfold stE; simp only [Int.reduceEq, if_false]; rw [← hE]; exact h
              have h2 := (st_ok HR.out h1).2.1
              rw [hS]
              unfold stP at h2
              simp only [Int.reduceEq, if_false] at h2
              exact h2
            clear hE hS
            go_wp2_with fail
            with_reducible refine (HC.out _).mono ?_
            rintro e w2 ⟨rfl, hN⟩
            have HT2 := Lib.hid (HT1.out.keep hN)
            have HB2 := Lib.hid (HB1.out.keep hN)
            have HD2 := Lib.hid (HD1.out.keep hN)
            have HN2 := Lib.hid (HN1.out.then_new hN)
            clear hN HT1 HB1 HD1 HN1 HC
            go_wp2_with (first
              | (refine wpList_store_th rfl (.tmp 8) (.tmp 82) rfl nb S _ rfl rfl HB2.out rfl ?_
                 intro w3 hX hCX
                 have HX := Lib.hid hX
                 have HCX := Lib.hid hCX
                 clear hX hCX)
              | fail)
            go_meet
            case rel => exact ⟨E, S, rfl, HDc.out, Hbad.out, Hok.out, HX.out, HT2.out.chg HCX.out (by have := Hsz.out; omega), HD2.out.chg HCX.out (by have := Hsz.out; omega), HN2.out.trans HCX.out (fun i hi h => by have := Hsz.out; omega)⟩
          have e0 : (dk == 0) = false := beq_eq_false_iff_ne.2 g0
          have e1 : (dk == 1) = false := beq_eq_false_iff_ne.2 g1
          have e2 : (dk == 2) = false := beq_eq_false_iff_ne.2 g2
          have e3 : (dk == 3) = false := beq_eq_false_iff_ne.2 g3
          clear g0 g1 g2 g3
          have HRB : Hid (RightN (Pd.ns ⟨x0, x1, x2, x3, x4, x5, x6, x7, x8, x9, x10, x11, x12, true⟩)) := (right_pd ⟨x0, x1, x2, x3, x4, x5, x6, x7, x8, x9, x10, x11, x12, true⟩).2 ((right_pd ⟨x0, x1, x2, x3, x4, x5, x6, x7, x8, x9, x10, x11, x12, x13⟩).1 HR.out)
          have HBl : Hid (∀ w, Calls Try.prog 26 #[.agg #[.int .i64 x0, .int .i64 x1, .int .i64 x2, .int .i64 x3, .int .i64 x4, .int .i64 x5, .int .i64 x6, .int .i64 x7, .bool x8, .int .i64 x9, .int .i64 x10, .int .i64 x11, .int .i64 x12, .bool x13]] w fun e w' => e = .returned (.agg #[.int .i64 x0, .int .i64 x1, .int .i64 x2, .int .i64 x3, .int .i64 x4, .int .i64 x5, .int .i64 x6, .int .i64 x7, .bool x8, .int .i64 x9, .int .i64 x10, .int .i64 x11, .int .i64 x12, .bool true]) ∧ New w w') := fun w => Block_any ⟨x0, x1, x2, x3, x4, x5, x6, x7, x8, x9, x10, x11, x12, x13⟩ w
          go_wp2_with fail
          with_reducible refine (HBl.out _).mono ?_
          rintro e w2 ⟨rfl, hN⟩
          have HT2 := Lib.hid (HT1.out.keep hN)
          have HB2 := Lib.hid (HB1.out.keep hN)
          have HN2 := Lib.hid (HN1.out.then_new hN)
          clear hN HT1 HB1 HD1 HN1 HBl d0 d1 d2
          clear k0 k1 k2 k3 k4 k5 k6 k7 k8 k9 k10 k11 k12 k13
          go_wp2_with (first
            | (refine wpList_store_th rfl (.tmp 5) (.tmp 45) rfl tb ⟨x0, x1, x2, x3, x4, x5, x6, x7, x8, x9, x10, x11, x12, true⟩ _ rfl rfl HT4.out rfl ?_
               intro wX hX hCX
               have HX := Lib.hid hX
               have HNX := Lib.hid (HN4.out.trans hCX (fun i hi h => by have := Htb.out; omega))
               clear hX hCX)
            | (refine wpList_store_th rfl (.tmp 8) (.tmp 37) rfl nb ⟨x0, x1, x2, x3, x4, x5, x6, x7, x8, x9, x10, x11, x12, true⟩ _ rfl rfl HB2.out rfl ?_
               intro w3 hX hCX
               have HX3 : Hid (Has w3 nb 50 #[.int .i64 x0, .int .i64 x1, .int .i64 x2, .int .i64 x3, .int .i64 x4, .int .i64 x5, .int .i64 x6, .int .i64 x7, .bool x8, .int .i64 x9, .int .i64 x10, .int .i64 x11, .int .i64 x12, .bool true]) := hX
               have HT3 := Lib.hid (HT2.out.chg hCX (by have := Hsz.out; omega))
               have HN3 := Lib.hid (HN2.out.trans hCX (fun i hi h => by have := Hsz.out; omega))
               have HT4 : Hid (Has (w3.alloc (.cells #[.int .i64 x0, .int .i64 x1, .int .i64 x2, .int .i64 x3, .int .i64 x4, .int .i64 x5, .int .i64 x6, .int .i64 x7, .bool x8, .int .i64 x9, .int .i64 x10, .int .i64 x11, .int .i64 x12, .bool true] 24)) tb 50 #[.int .i64 x0, .int .i64 x1, .int .i64 x2, .int .i64 x3, .int .i64 x4, .int .i64 x5, .int .i64 x6, .int .i64 x7, .bool x8, .int .i64 x9, .int .i64 x10, .int .i64 x11, .int .i64 x12, .bool x13]) := HT3.out.alloc _
               have HN4 : Hid (New w (w3.alloc (.cells #[.int .i64 x0, .int .i64 x1, .int .i64 x2, .int .i64 x3, .int .i64 x4, .int .i64 x5, .int .i64 x6, .int .i64 x7, .bool x8, .int .i64 x9, .int .i64 x10, .int .i64 x11, .int .i64 x12, .bool true] 24))) := HN3.out.alloc _
               clear hX hCX HT2 HB2 HN2
               have k0 : w3.cell? ⟨tb, 0, none⟩ = some (.int .i64 x0) := (HT3.out.cell 0).trans rfl
               have k1 : w3.cell? ⟨tb, 1, none⟩ = some (.int .i64 x1) := (HT3.out.cell 1).trans rfl
               have k2 : w3.cell? ⟨tb, 2, none⟩ = some (.int .i64 x2) := (HT3.out.cell 2).trans rfl
               have k3 : w3.cell? ⟨tb, 3, none⟩ = some (.int .i64 x3) := (HT3.out.cell 3).trans rfl
               have k4 : w3.cell? ⟨tb, 4, none⟩ = some (.int .i64 x4) := (HT3.out.cell 4).trans rfl
               have k5 : w3.cell? ⟨tb, 5, none⟩ = some (.int .i64 x5) := (HT3.out.cell 5).trans rfl
               have k6 : w3.cell? ⟨tb, 6, none⟩ = some (.int .i64 x6) := (HT3.out.cell 6).trans rfl
               have k7 : w3.cell? ⟨tb, 7, none⟩ = some (.int .i64 x7) := (HT3.out.cell 7).trans rfl
               have k8 : w3.cell? ⟨tb, 8, none⟩ = some (.bool x8) := (HT3.out.cell 8).trans rfl
               have k9 : w3.cell? ⟨tb, 9, none⟩ = some (.int .i64 x9) := (HT3.out.cell 9).trans rfl
               have k10 : w3.cell? ⟨tb, 10, none⟩ = some (.int .i64 x10) := (HT3.out.cell 10).trans rfl
               have k11 : w3.cell? ⟨tb, 11, none⟩ = some (.int .i64 x11) := (HT3.out.cell 11).trans rfl
               have k12 : w3.cell? ⟨tb, 12, none⟩ = some (.int .i64 x12) := (HT3.out.cell 12).trans rfl
               have k13 : w3.cell? ⟨tb, 13, none⟩ = some (.bool x13) := (HT3.out.cell 13).trans rfl
               have q0 : w3.cell? ⟨nb, 0, none⟩ = some (.int .i64 x0) := (HX3.out.cell 0).trans rfl
               have q1 : w3.cell? ⟨nb, 1, none⟩ = some (.int .i64 x1) := (HX3.out.cell 1).trans rfl
               have q2 : w3.cell? ⟨nb, 2, none⟩ = some (.int .i64 x2) := (HX3.out.cell 2).trans rfl
               have q3 : w3.cell? ⟨nb, 3, none⟩ = some (.int .i64 x3) := (HX3.out.cell 3).trans rfl
               have q4 : w3.cell? ⟨nb, 4, none⟩ = some (.int .i64 x4) := (HX3.out.cell 4).trans rfl
               have q5 : w3.cell? ⟨nb, 5, none⟩ = some (.int .i64 x5) := (HX3.out.cell 5).trans rfl
               have q6 : w3.cell? ⟨nb, 6, none⟩ = some (.int .i64 x6) := (HX3.out.cell 6).trans rfl
               have q7 : w3.cell? ⟨nb, 7, none⟩ = some (.int .i64 x7) := (HX3.out.cell 7).trans rfl
               have q8 : w3.cell? ⟨nb, 8, none⟩ = some (.bool x8) := (HX3.out.cell 8).trans rfl
               have q9 : w3.cell? ⟨nb, 9, none⟩ = some (.int .i64 x9) := (HX3.out.cell 9).trans rfl
               have q10 : w3.cell? ⟨nb, 10, none⟩ = some (.int .i64 x10) := (HX3.out.cell 10).trans rfl
               have q11 : w3.cell? ⟨nb, 11, none⟩ = some (.int .i64 x11) := (HX3.out.cell 11).trans rfl
               have q12 : w3.cell? ⟨nb, 12, none⟩ = some (.int .i64 x12) := (HX3.out.cell 12).trans rfl
               have q13 : w3.cell? ⟨nb, 13, none⟩ = some (.bool true) := (HX3.out.cell 13).trans rfl
               have hql := HX3.out.lt
               have hkl := HT3.out.lt)
            | fail)
          go_roundg (300 - (i + 1))
          case measure => omega
          case rel => exact ⟨i + 1, ⟨x0, x1, x2, x3, x4, x5, x6, x7, x8, x9, x10, x11, x12, true⟩, by omega, by omega, rfl, by go_num, HRB.out, HX.out, HNX.out⟩
        · have t2 : decide ((i : Int) < 300) = false := decide_eq_false (by omega)
          have t2' : decide (i < 300) = false := decide_eq_false hl2
          go_wp2_with fail
          go_ret
          exact ⟨rfl, HN.out⟩
      · have t1 : decide ((i : Int) < (n : Int)) = false := decide_eq_false (by omega)
        have t1' : decide (i < n) = false := decide_eq_false hl1
        go_wp2_with fail
        go_ret
        exact ⟨rfl, HN.out⟩
theorem does_open (p : Pd) (A : Option Addr) (n c : Nat) {W : World} (z : (∃ f : Nat → Dd, Dds W (· < W.heap.size) A n f ∧ (A = none → n = 0 ∧ c = 0)) ∧ n ≤ 5864062014634) : Calls Try.prog 6 #[p.V, .slice A n c] W fun e w' => e = .returned (.bool true) ∧ New W w' := by
  obtain ⟨⟨f, hD, hA⟩, _⟩ := z
  exact does_walk p A n c f W hD hA
end Go.Proofs.Ytdaaejoglikhaaa
