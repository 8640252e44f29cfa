/-
  The law IpeCounts, walked.
-/
import Derived.Test.YtdaaejoglikhaaaXSt
namespace Go.Proofs.Ytdaaejoglikhaaa
open Go.RowKit
set_option maxRecDepth 100000 in
set_option maxHeartbeats 16000000 in
theorem counts_walk (p : Pd) (A : Option Addr) (n c : Nat) (f : Nat → Dd) (w : World) (hD : Dds w (· < w.heap.size) A n f) (hA : A = none → n = 0 ∧ c = 0) : Calls Try.prog 9 #[p.V, .slice A n c] w fun e w' => e = .returned (.bool true) ∧ New w w' := by
  have HAw := Lib.hid (fun w => awake_any w)
  have HRr := Lib.hid (fun w => rRight10_any p w)
  have HDo := Lib.hid hD
  have HnA := Lib.hid hA
  clear hD hA
  obtain ⟨x0, x1, x2, x3, x4, x5, x6, x7, x8, x9, x10, x11, x12, x13⟩ := p
  have HRr : Hid (∀ w, Calls Try.prog 13 #[.agg #[.int .i64 x0, .int .i64 x1, .int .i64 x2, .int .i64 x3, .int .i64 x4, .int .i64 x5, .int .i64 x6, .int .i64 x7, .bool x8, .int .i64 x9, .int .i64 x10, .int .i64 x11, .int .i64 x12, .bool x13]] w fun e w' => e = .returned (.bool (rightN (Pd.ns ⟨x0, x1, x2, x3, x4, x5, x6, x7, x8, x9, x10, x11, x12, x13⟩))) ∧ New w w') := HRr.out
  go_enter Try.func9, Try.ntmps9
  go_upto_region 1 with (fail)
  obtain ⟨w0, hw0⟩ : ∃ w0, w0 = w.alloc (.cells #[.int .i64 x0, .int .i64 x1, .int .i64 x2, .int .i64 x3, .int .i64 x4, .int .i64 x5, .int .i64 x6, .int .i64 x7, .bool x8, .int .i64 x9, .int .i64 x10, .int .i64 x11, .int .i64 x12, .bool x13] 24) := ⟨_, rfl⟩
  obtain ⟨ba, hba⟩ : ∃ ba, ba = w.heap.size := ⟨_, rfl⟩
  have HA : Hid (Has w0 ba 24 #[.int .i64 x0, .int .i64 x1, .int .i64 x2, .int .i64 x3, .int .i64 x4, .int .i64 x5, .int .i64 x6, .int .i64 x7, .bool x8, .int .i64 x9, .int .i64 x10, .int .i64 x11, .int .i64 x12, .bool x13]) := by rw [hw0, hba]; exact Has.new _ _ _
  have HN0 : Hid (New w w0) := by rw [hw0]; exact (Chg.refl _ _).alloc _
  rw [← hw0, ← hba]
  clear hw0 hba
  have k0 : w0.cell? ⟨ba, 0, none⟩ = some (.int .i64 x0) := (HA.out.cell 0).trans rfl
  have k1 : w0.cell? ⟨ba, 1, none⟩ = some (.int .i64 x1) := (HA.out.cell 1).trans rfl
  have k2 : w0.cell? ⟨ba, 2, none⟩ = some (.int .i64 x2) := (HA.out.cell 2).trans rfl
  have k3 : w0.cell? ⟨ba, 3, none⟩ = some (.int .i64 x3) := (HA.out.cell 3).trans rfl
  have k4 : w0.cell? ⟨ba, 4, none⟩ = some (.int .i64 x4) := (HA.out.cell 4).trans rfl
  have k5 : w0.cell? ⟨ba, 5, none⟩ = some (.int .i64 x5) := (HA.out.cell 5).trans rfl
  have k6 : w0.cell? ⟨ba, 6, none⟩ = some (.int .i64 x6) := (HA.out.cell 6).trans rfl
  have k7 : w0.cell? ⟨ba, 7, none⟩ = some (.int .i64 x7) := (HA.out.cell 7).trans rfl
  have k8 : w0.cell? ⟨ba, 8, none⟩ = some (.bool x8) := (HA.out.cell 8).trans rfl
  have k9 : w0.cell? ⟨ba, 9, none⟩ = some (.int .i64 x9) := (HA.out.cell 9).trans rfl
  have k10 : w0.cell? ⟨ba, 10, none⟩ = some (.int .i64 x10) := (HA.out.cell 10).trans rfl
  have k11 : w0.cell? ⟨ba, 11, none⟩ = some (.int .i64 x11) := (HA.out.cell 11).trans rfl
  have k12 : w0.cell? ⟨ba, 12, none⟩ = some (.int .i64 x12) := (HA.out.cell 12).trans rfl
  have k13 : w0.cell? ⟨ba, 13, none⟩ = some (.bool x13) := (HA.out.cell 13).trans rfl
  go_wp2_with fail
  with_reducible refine (HAw.out _).mono ?_
  rintro e w1 ⟨rfl, hN⟩
  have HN1 := Lib.hid (HN0.out.then_new hN)
  have HA := Lib.hid (HA.out.keep hN)
  clear hN HN0
  clear k0 k1 k2 k3 k4 k5 k6 k7 k8 k9 k10 k11 k12 k13
  have k0 : w1.cell? ⟨ba, 0, none⟩ = some (.int .i64 x0) := (HA.out.cell 0).trans rfl
  have k1 : w1.cell? ⟨ba, 1, none⟩ = some (.int .i64 x1) := (HA.out.cell 1).trans rfl
  have k2 : w1.cell? ⟨ba, 2, none⟩ = some (.int .i64 x2) := (HA.out.cell 2).trans rfl
  have k3 : w1.cell? ⟨ba, 3, none⟩ = some (.int .i64 x3) := (HA.out.cell 3).trans rfl
  have k4 : w1.cell? ⟨ba, 4, none⟩ = some (.int .i64 x4) := (HA.out.cell 4).trans rfl
  have k5 : w1.cell? ⟨ba, 5, none⟩ = some (.int .i64 x5) := (HA.out.cell 5).trans rfl
  have k6 : w1.cell? ⟨ba, 6, none⟩ = some (.int .i64 x6) := (HA.out.cell 6).trans rfl
  have k7 : w1.cell? ⟨ba, 7, none⟩ = some (.int .i64 x7) := (HA.out.cell 7).trans rfl
  have k8 : w1.cell? ⟨ba, 8, none⟩ = some (.bool x8) := (HA.out.cell 8).trans rfl
  have k9 : w1.cell? ⟨ba, 9, none⟩ = some (.int .i64 x9) := (HA.out.cell 9).trans rfl
  have k10 : w1.cell? ⟨ba, 10, none⟩ = some (.int .i64 x10) := (HA.out.cell 10).trans rfl
  have k11 : w1.cell? ⟨ba, 11, none⟩ = some (.int .i64 x11) := (HA.out.cell 11).trans rfl
  have k12 : w1.cell? ⟨ba, 12, none⟩ = some (.int .i64 x12) := (HA.out.cell 12).trans rfl
  have k13 : w1.cell? ⟨ba, 13, none⟩ = some (.bool x13) := (HA.out.cell 13).trans rfl
  go_wp2_with fail
  with_reducible refine (HRr.out _).mono ?_
  rintro e w2 ⟨rfl, hN⟩
  have HN2 := Lib.hid (HN1.out.then_new hN)
  have HA := Lib.hid (HA.out.keep hN)
  clear hN HN1 HRr
  clear k0 k1 k2 k3 k4 k5 k6 k7 k8 k9 k10 k11 k12 k13
  cases hr : rightN (Pd.ns ⟨x0, x1, x2, x3, x4, x5, x6, x7, x8, x9, x10, x11, x12, x13⟩) with
  | false =>
    go_wp2_with fail
    with_reducible refine (HAw.out _).mono ?_
    rintro e w3 ⟨rfl, hN⟩
    have HN3 := Lib.hid (HN2.out.then_new hN)
    clear hN
    go_wp2_with fail
    go_ret
    exact ⟨rfl, HN3.out⟩
  | true =>
    have Hr := Lib.hid (rightN_of hr)
    clear hr HAw
    have k0 : w2.cell? ⟨ba, 0, none⟩ = some (.int .i64 x0) := (HA.out.cell 0).trans rfl
    have k1 : w2.cell? ⟨ba, 1, none⟩ = some (.int .i64 x1) := (HA.out.cell 1).trans rfl
    have k2 : w2.cell? ⟨ba, 2, none⟩ = some (.int .i64 x2) := (HA.out.cell 2).trans rfl
    have k3 : w2.cell? ⟨ba, 3, none⟩ = some (.int .i64 x3) := (HA.out.cell 3).trans rfl
    have k4 : w2.cell? ⟨ba, 4, none⟩ = some (.int .i64 x4) := (HA.out.cell 4).trans rfl
    have k5 : w2.cell? ⟨ba, 5, none⟩ = some (.int .i64 x5) := (HA.out.cell 5).trans rfl
    have k6 : w2.cell? ⟨ba, 6, none⟩ = some (.int .i64 x6) := (HA.out.cell 6).trans rfl
    have k7 : w2.cell? ⟨ba, 7, none⟩ = some (.int .i64 x7) := (HA.out.cell 7).trans rfl
    have k8 : w2.cell? ⟨ba, 8, none⟩ = some (.bool x8) := (HA.out.cell 8).trans rfl
    have k9 : w2.cell? ⟨ba, 9, none⟩ = some (.int .i64 x9) := (HA.out.cell 9).trans rfl
    have k10 : w2.cell? ⟨ba, 10, none⟩ = some (.int .i64 x10) := (HA.out.cell 10).trans rfl
    have k11 : w2.cell? ⟨ba, 11, none⟩ = some (.int .i64 x11) := (HA.out.cell 11).trans rfl
    have k12 : w2.cell? ⟨ba, 12, none⟩ = some (.int .i64 x12) := (HA.out.cell 12).trans rfl
    have k13 : w2.cell? ⟨ba, 13, none⟩ = some (.bool x13) := (HA.out.cell 13).trans rfl
    go_upto_region 4 with (fail)
    obtain ⟨w3, hw3⟩ : ∃ w3, w3 = w2.alloc (.cells #[.int .i64 x0, .int .i64 x1, .int .i64 x2, .int .i64 x3, .int .i64 x4, .int .i64 x5, .int .i64 x6, .int .i64 x7, .bool x8, .int .i64 x9, .int .i64 x10, .int .i64 x11, .int .i64 x12, .bool x13] 50) := ⟨_, rfl⟩
    obtain ⟨tb, htb⟩ : ∃ tb, tb = w2.heap.size := ⟨_, rfl⟩
    have HT : Hid (Has w3 tb 50 #[.int .i64 x0, .int .i64 x1, .int .i64 x2, .int .i64 x3, .int .i64 x4, .int .i64 x5, .int .i64 x6, .int .i64 x7, .bool x8, .int .i64 x9, .int .i64 x10, .int .i64 x11, .int .i64 x12, .bool x13]) := by rw [hw3, htb]; exact Has.new _ _ _
    have HN3 : Hid (New w w3) := by rw [hw3]; exact HN2.out.alloc _
    have Htb : Hid (w.heap.size ≤ tb) := by rw [htb]; exact HN2.out.size
    rw [← hw3, ← htb]
    clear hw3 htb HA HN2
    clear k0 k1 k2 k3 k4 k5 k6 k7 k8 k9 k10 k11 k12 k13
    go_wp2_with fail
    go_loopg [6] 200 (fun gk s6 wr => ∃ (i : Nat) (p : Pd), i ≤ 200 ∧ i ≤ n ∧ gk = 200 - i ∧ s6 = .int .i64 i ∧ RightN p.ns ∧ Has wr tb 50 (pcells p) ∧ New w wr)
    case atStart => exact ⟨0, ⟨x0, x1, x2, x3, x4, x5, x6, x7, x8, x9, x10, x11, x12, x13⟩, by omega, by omega, by omega, rfl, Hr.out, HT.out, HN3.out⟩
    case round =>
      clear HT HN3 Hr
      obtain ⟨i, p, hi, hin, rfl, rfl, hR, hT, hN⟩ := hrel
      obtain ⟨x0, x1, x2, x3, x4, x5, x6, x7, x8, x9, x10, x11, x12, x13⟩ := p
      have HT : Hid (Has wr tb 50 #[.int .i64 x0, .int .i64 x1, .int .i64 x2, .int .i64 x3, .int .i64 x4, .int .i64 x5, .int .i64 x6, .int .i64 x7, .bool x8, .int .i64 x9, .int .i64 x10, .int .i64 x11, .int .i64 x12, .bool x13]) := hT
      have HN := Lib.hid hN
      have HR := Lib.hid hR
      have Hin := Lib.hid hin
      clear hT hN hR hin
      have k0 : wr.cell? ⟨tb, 0, none⟩ = some (.int .i64 x0) := (HT.out.cell 0).trans rfl
      have k1 : wr.cell? ⟨tb, 1, none⟩ = some (.int .i64 x1) := (HT.out.cell 1).trans rfl
      have k2 : wr.cell? ⟨tb, 2, none⟩ = some (.int .i64 x2) := (HT.out.cell 2).trans rfl
      have k3 : wr.cell? ⟨tb, 3, none⟩ = some (.int .i64 x3) := (HT.out.cell 3).trans rfl
      have k4 : wr.cell? ⟨tb, 4, none⟩ = some (.int .i64 x4) := (HT.out.cell 4).trans rfl
      have k5 : wr.cell? ⟨tb, 5, none⟩ = some (.int .i64 x5) := (HT.out.cell 5).trans rfl
      have k6 : wr.cell? ⟨tb, 6, none⟩ = some (.int .i64 x6) := (HT.out.cell 6).trans rfl
      have k7 : wr.cell? ⟨tb, 7, none⟩ = some (.int .i64 x7) := (HT.out.cell 7).trans rfl
      have k8 : wr.cell? ⟨tb, 8, none⟩ = some (.bool x8) := (HT.out.cell 8).trans rfl
      have k9 : wr.cell? ⟨tb, 9, none⟩ = some (.int .i64 x9) := (HT.out.cell 9).trans rfl
      have k10 : wr.cell? ⟨tb, 10, none⟩ = some (.int .i64 x10) := (HT.out.cell 10).trans rfl
      have k11 : wr.cell? ⟨tb, 11, none⟩ = some (.int .i64 x11) := (HT.out.cell 11).trans rfl
      have k12 : wr.cell? ⟨tb, 12, none⟩ = some (.int .i64 x12) := (HT.out.cell 12).trans rfl
      have k13 : wr.cell? ⟨tb, 13, none⟩ = some (.bool x13) := (HT.out.cell 13).trans rfl
      have klt := HT.out.lt
      obtain ⟨lb, hlb⟩ : ∃ lb, lb = decide (i < n ∧ i < 200) := ⟨_, rfl⟩
      have Hlb := Lib.hid hlb
      clear hlb
      go_upto_region 5 with (fail)
      go_cut [32] (fun s32 wc => s32 = .bool lb ∧ wc = wr)
      case first =>
        by_cases hl1 : i < n
        · have t1 : decide ((i : Int) < (n : Int)) = true := decide_eq_true (by omega)
          have t1' : decide (i < n) = true := decide_eq_true hl1
          by_cases hl2 : i < 200
          · have t2 : decide ((i : Int) < 200) = true := decide_eq_true (by omega)
            have t2' : decide (i < 200) = true := decide_eq_true hl2
            have hl : lb = true := by rw [Hlb.out]; exact decide_eq_true ⟨hl1, hl2⟩
            subst hl
            go_wp2_with fail
            go_meet
            case rel => exact ⟨rfl, rfl⟩
          · have t2 : decide ((i : Int) < 200) = false := decide_eq_false (by omega)
            have t2' : decide (i < 200) = false := decide_eq_false hl2
            have hl : lb = false := by rw [Hlb.out]; exact decide_eq_false (fun h => hl2 h.2)
            subst hl
            go_wp2_with fail
            go_meet
            case rel => exact ⟨rfl, rfl⟩
        · have t1 : decide ((i : Int) < (n : Int)) = false := decide_eq_false (by omega)
          have t1' : decide (i < n) = false := decide_eq_false hl1
          have hl : lb = false := by rw [Hlb.out]; exact decide_eq_false (fun h => hl1 h.1)
          subst hl
          go_wp2_with fail
          go_meet
          case rel => exact ⟨rfl, rfl⟩
      case rest =>
        obtain ⟨rfl, hwc⟩ := hcut
        rw [hwc]
        clear hwc
        cases lb with
        | true =>
          obtain ⟨hl1, hl2⟩ := of_decide_eq_true Hlb.out.symm
          clear Hlb
          obtain ⟨a, ha, hab, a0, a1, a2⟩ := (HDo.out.new HN.out (fun _ h => h)) i hl1
          subst ha
          obtain ⟨d, hd⟩ : ∃ d, d = f i := ⟨_, rfl⟩
          rw [← hd] at a0 a1 a2
          clear hd hab
          obtain ⟨dk, da, db⟩ := d
          dsimp only at a0 a1 a2
          go_upto_region 9 with (fail)
          obtain ⟨w1, hw1⟩ : ∃ w1, w1 = (wr.alloc (.cells #[.int .i64 dk, .int .i64 da, .int .i64 db] 52)).alloc (.cells #[.int .i64 x0, .int .i64 x1, .int .i64 x2, .int .i64 x3, .int .i64 x4, .int .i64 x5, .int .i64 x6, .int .i64 x7, .bool x8, .int .i64 x9, .int .i64 x10, .int .i64 x11, .int .i64 x12, .bool x13] 50) := ⟨_, rfl⟩
          obtain ⟨nb, hnb⟩ : ∃ nb, nb = wr.heap.size + 1 := ⟨_, rfl⟩
          obtain ⟨bd, hbd⟩ : ∃ bd, bd = wr.heap.size := ⟨_, rfl⟩
          have HB1 : Hid (Has w1 nb 50 #[.int .i64 x0, .int .i64 x1, .int .i64 x2, .int .i64 x3, .int .i64 x4, .int .i64 x5, .int .i64 x6, .int .i64 x7, .bool x8, .int .i64 x9, .int .i64 x10, .int .i64 x11, .int .i64 x12, .bool x13]) := by rw [hw1, hnb]; exact Has.new_at _ _ _ _ (by simp)
          have HD1 : Hid (Has w1 bd 52 #[.int .i64 dk, .int .i64 da, .int .i64 db]) := by rw [hw1, hbd]; exact (Has.new _ _ _).alloc _
          have HT1 : Hid (Has w1 tb 50 #[.int .i64 x0, .int .i64 x1, .int .i64 x2, .int .i64 x3, .int .i64 x4, .int .i64 x5, .int .i64 x6, .int .i64 x7, .bool x8, .int .i64 x9, .int .i64 x10, .int .i64 x11, .int .i64 x12, .bool x13]) := by rw [hw1]; exact (HT.out.alloc _).alloc _
          have HM1 : Hid (New wr w1) := by rw [hw1]; exact ((Chg.refl _ _).alloc _).alloc _
          have Hsz : Hid (tb < bd ∧ bd < nb ∧ w.heap.size ≤ bd) := by have h1 := HT.out.lt; have h2 := HN.out.size; rw [Hid, hnb, hbd]; omega
          have HN1 := Lib.hid (HN.out.then_new HM1.out)
          rw [← hw1, ← hnb, ← hbd]
          clear hw1 hnb hbd HM1 HT HN a0 a1 a2 klt
          clear k0 k1 k2 k3 k4 k5 k6 k7 k8 k9 k10 k11 k12 k13
          obtain ⟨E, hE⟩ : ∃ E, E = stE ⟨x0, x1, x2, x3, x4, x5, x6, x7, x8, x9, x10, x11, x12, x13⟩ ⟨dk, da, db⟩ := ⟨_, rfl⟩
          obtain ⟨S, hS⟩ : ∃ S, S = stP ⟨x0, x1, x2, x3, x4, x5, x6, x7, x8, x9, x10, x11, x12, x13⟩ ⟨dk, da, db⟩ := ⟨_, rfl⟩
          have HRi : Hid (dk = 0 → ∀ w, Calls Try.prog 22 #[.agg #[.int .i64 x0, .int .i64 x1, .int .i64 x2, .int .i64 x3, .int .i64 x4, .int .i64 x5, .int .i64 x6, .int .i64 x7, .bool x8, .int .i64 x9, .int .i64 x10, .int .i64 x11, .int .i64 x12, .bool x13], .int .i64 da] w fun e w' => e = .returned (.tuple #[S.V, .int .i64 E]) ∧ New w w') := fun h w => by
            have := Ride_any ⟨x0, x1, x2, x3, x4, x5, x6, x7, x8, x9, x10, x11, x12, x13⟩ HR.out da w
            rw [hE, hS]; unfold stE stP; rw [if_pos h, if_pos h]; exact this
          have HIn : Hid (¬ dk = 0 → dk = 1 → ∀ w, Calls Try.prog 23 #[.agg #[.int .i64 x0, .int .i64 x1, .int .i64 x2, .int .i64 x3, .int .i64 x4, .int .i64 x5, .int .i64 x6, .int .i64 x7, .bool x8, .int .i64 x9, .int .i64 x10, .int .i64 x11, .int .i64 x12, .bool x13], .int .i64 da, .int .i64 db] w fun e w' => e = .returned (.tuple #[S.V, .int .i64 E]) ∧ New w w') := fun h0 h w => by
            have := In_any ⟨x0, x1, x2, x3, x4, x5, x6, x7, x8, x9, x10, x11, x12, x13⟩ HR.out da db w
            rw [hE, hS]; unfold stE stP; rw [if_neg h0, if_neg h0, if_pos h, if_pos h]; exact this
          have HOu : Hid (¬ dk = 0 → ¬ dk = 1 → dk = 2 → ∀ w, Calls Try.prog 24 #[.agg #[.int .i64 x0, .int .i64 x1, .int .i64 x2, .int .i64 x3, .int .i64 x4, .int .i64 x5, .int .i64 x6, .int .i64 x7, .bool x8, .int .i64 x9, .int .i64 x10, .int .i64 x11, .int .i64 x12, .bool x13], .int .i64 da] w fun e w' => e = .returned (.tuple #[S.V, .int .i64 E]) ∧ New w w') := fun h0 h1 h w => by
            have := Out_any ⟨x0, x1, x2, x3, x4, x5, x6, x7, x8, x9, x10, x11, x12, x13⟩ HR.out da w
            rw [hE, hS]; unfold stE stP; rw [if_neg h0, if_neg h0, if_neg h1, if_neg h1, if_pos h, if_pos h]; exact this
          have HAd : Hid (¬ dk = 0 → ¬ dk = 1 → ¬ dk = 2 → ∀ w, Calls Try.prog 25 #[.agg #[.int .i64 x0, .int .i64 x1, .int .i64 x2, .int .i64 x3, .int .i64 x4, .int .i64 x5, .int .i64 x6, .int .i64 x7, .bool x8, .int .i64 x9, .int .i64 x10, .int .i64 x11, .int .i64 x12, .bool x13], .int .i64 da] w fun e w' => e = .returned (.tuple #[S.V, .int .i64 E]) ∧ New w w') := fun h0 h1 h2 w => by
            have := Add_any ⟨x0, x1, x2, x3, x4, x5, x6, x7, x8, x9, x10, x11, x12, x13⟩ HR.out da w
            rw [hE, hS]; unfold stE stP; rw [if_neg h0, if_neg h0, if_neg h1, if_neg h1, if_neg h2, if_neg h2]; exact this
          have Hbad : Hid (¬ E = 0 → S = pz) := fun h => by rw [hS]; exact st_bad (by rw [← hE]; exact h)
          have Hok : Hid (E = 0 → x13 = false ∧ RightN S.ns ∧ S.x11 = x11 + 1 ∧ S.x0 = x0 ∧ S.x1 = x1 ∧ S.x2 = x2 ∧ S.x3 = x3 ∧ S.x4 = x4 ∧ S.x12 = x12 ∧ S.x6 = x6 ∧ S.x13 = false) := fun h => by
            obtain ⟨h0, h1, h2, h3, h4, h5, h6, h7, h8, h9, h10, _⟩ := st_ok HR.out (by rw [← hE]; exact h)
            rw [hS]
            exact ⟨h0, h1, h2, h3, h4, h5, h6, h7, h8, h9, h10⟩
          clear hE hS
          have k0 : w1.cell? ⟨tb, 0, none⟩ = some (.int .i64 x0) := (HT1.out.cell 0).trans rfl
          have k1 : w1.cell? ⟨tb, 1, none⟩ = some (.int .i64 x1) := (HT1.out.cell 1).trans rfl
          have k2 : w1.cell? ⟨tb, 2, none⟩ = some (.int .i64 x2) := (HT1.out.cell 2).trans rfl
          have k3 : w1.cell? ⟨tb, 3, none⟩ = some (.int .i64 x3) := (HT1.out.cell 3).trans rfl
          have k4 : w1.cell? ⟨tb, 4, none⟩ = some (.int .i64 x4) := (HT1.out.cell 4).trans rfl
          have k5 : w1.cell? ⟨tb, 5, none⟩ = some (.int .i64 x5) := (HT1.out.cell 5).trans rfl
          have k6 : w1.cell? ⟨tb, 6, none⟩ = some (.int .i64 x6) := (HT1.out.cell 6).trans rfl
          have k7 : w1.cell? ⟨tb, 7, none⟩ = some (.int .i64 x7) := (HT1.out.cell 7).trans rfl
          have k8 : w1.cell? ⟨tb, 8, none⟩ = some (.bool x8) := (HT1.out.cell 8).trans rfl
          have k9 : w1.cell? ⟨tb, 9, none⟩ = some (.int .i64 x9) := (HT1.out.cell 9).trans rfl
          have k10 : w1.cell? ⟨tb, 10, none⟩ = some (.int .i64 x10) := (HT1.out.cell 10).trans rfl
          have k11 : w1.cell? ⟨tb, 11, none⟩ = some (.int .i64 x11) := (HT1.out.cell 11).trans rfl
          have k12 : w1.cell? ⟨tb, 12, none⟩ = some (.int .i64 x12) := (HT1.out.cell 12).trans rfl
          have k13 : w1.cell? ⟨tb, 13, none⟩ = some (.bool x13) := (HT1.out.cell 13).trans rfl
          have d0 : w1.cell? ⟨bd, 0, none⟩ = some (.int .i64 dk) := (HD1.out.cell 0).trans rfl
          have d1 : w1.cell? ⟨bd, 1, none⟩ = some (.int .i64 da) := (HD1.out.cell 1).trans rfl
          have d2 : w1.cell? ⟨bd, 2, none⟩ = some (.int .i64 db) := (HD1.out.cell 2).trans rfl
          go_upto_block 2 with (fail)
          go_cut [9] (fun s9 wc => s9 = .int .i64 E ∧ Has wc nb 50 (pcells S) ∧ Has wc tb 50 #[.int .i64 x0, .int .i64 x1, .int .i64 x2, .int .i64 x3, .int .i64 x4, .int .i64 x5, .int .i64 x6, .int .i64 x7, .bool x8, .int .i64 x9, .int .i64 x10, .int .i64 x11, .int .i64 x12, .bool x13] ∧ New w wc)
          case first =>
            by_cases k0' : dk = 0
            · have e0 : (dk == 0) = true := beq_iff_eq.2 k0'
              have HC := Lib.hid (HRi.out k0')
              clear k0'
              go_wp2_with fail
              with_reducible refine (HC.out _).mono ?_
              rintro e w2 ⟨rfl, hN⟩
              have HT2 := Lib.hid (HT1.out.keep hN)
              have HB2 := Lib.hid (HB1.out.keep hN)
              have HN2 := Lib.hid (HN1.out.then_new hN)
              clear hN
              go_wp2_with (first
                | (refine wpList_store_th rfl (.tmp 8) (.tmp 56) rfl nb S _ rfl rfl HB2.out rfl ?_
                   intro wX hX hCX
                   have HX := Lib.hid hX
                   have HCX := Lib.hid hCX
                   clear hX hCX)
                | fail)
              go_meet
              case rel =>
                exact ⟨rfl, HX.out, HT2.out.chg HCX.out (by have := Hsz.out; omega), HN2.out.trans HCX.out (fun i hi h => by have := Hsz.out; omega)⟩
            have e0 : (dk == 0) = false := beq_eq_false_iff_ne.2 k0'
            by_cases k1' : dk = 1
            · have e1 : (dk == 1) = true := beq_iff_eq.2 k1'
              have HC := Lib.hid (HIn.out k0' k1')
              clear k0' k1'
              go_wp2_with fail
              with_reducible refine (HC.out _).mono ?_
              rintro e w2 ⟨rfl, hN⟩
              have HT2 := Lib.hid (HT1.out.keep hN)
              have HB2 := Lib.hid (HB1.out.keep hN)
              have HN2 := Lib.hid (HN1.out.then_new hN)
              clear hN
              go_wp2_with (first
                | (refine wpList_store_th rfl (.tmp 8) (.tmp 67) rfl nb S _ rfl rfl HB2.out rfl ?_
                   intro wX hX hCX
                   have HX := Lib.hid hX
                   have HCX := Lib.hid hCX
                   clear hX hCX)
                | fail)
              go_meet
              case rel =>
                exact ⟨rfl, HX.out, HT2.out.chg HCX.out (by have := Hsz.out; omega), HN2.out.trans HCX.out (fun i hi h => by have := Hsz.out; omega)⟩
            have e1 : (dk == 1) = false := beq_eq_false_iff_ne.2 k1'
            by_cases k2' : dk = 2
            · have e2 : (dk == 2) = true := beq_iff_eq.2 k2'
              have HC := Lib.hid (HOu.out k0' k1' k2')
              clear k0' k1' k2'
              go_wp2_with fail
              with_reducible refine (HC.out _).mono ?_
              rintro e w2 ⟨rfl, hN⟩
              have HT2 := Lib.hid (HT1.out.keep hN)
              have HB2 := Lib.hid (HB1.out.keep hN)
              have HN2 := Lib.hid (HN1.out.then_new hN)
              clear hN
              go_wp2_with (first
                | (refine wpList_store_th rfl (.tmp 8) (.tmp 76) rfl nb S _ rfl rfl HB2.out rfl ?_
                   intro wX hX hCX
                   have HX := Lib.hid hX
                   have HCX := Lib.hid hCX
                   clear hX hCX)
                | fail)
              go_meet
              case rel =>
                exact ⟨rfl, HX.out, HT2.out.chg HCX.out (by have := Hsz.out; omega), HN2.out.trans HCX.out (fun i hi h => by have := Hsz.out; omega)⟩
            · have e2 : (dk == 2) = false := beq_eq_false_iff_ne.2 k2'
              have HC := Lib.hid (HAd.out k0' k1' k2')
              clear k0' k1' k2'
              go_wp2_with fail
              with_reducible refine (HC.out _).mono ?_
              rintro e w2 ⟨rfl, hN⟩
              have HT2 := Lib.hid (HT1.out.keep hN)
              have HB2 := Lib.hid (HB1.out.keep hN)
              have HN2 := Lib.hid (HN1.out.then_new hN)
              clear hN
              go_wp2_with (first
                | (refine wpList_store_th rfl (.tmp 8) (.tmp 47) rfl nb S _ rfl rfl HB2.out rfl ?_
                   intro wX hX hCX
                   have HX := Lib.hid hX
                   have HCX := Lib.hid hCX
                   clear hX hCX)
                | fail)
              go_meet
              case rel =>
                exact ⟨rfl, HX.out, HT2.out.chg HCX.out (by have := Hsz.out; omega), HN2.out.trans HCX.out (fun i hi h => by have := Hsz.out; omega)⟩
          case rest =>
            obtain ⟨rfl, hXc, hTc, hNc⟩ := hcut
            have HXc := Lib.hid hXc
            have HTc := Lib.hid hTc
            have HNc := Lib.hid hNc
            clear hXc hTc hNc HT1 HB1 HD1 HN1 d0 d1 d2 HRi HIn HOu HAd
            clear k0 k1 k2 k3 k4 k5 k6 k7 k8 k9 k10 k11 k12 k13
            by_cases hE0 : E = 0
            · subst hE0
              obtain ⟨_, hRS, h11, h0, h1, h2, h3, h4, h12, h6, h13⟩ := Hok.out rfl
              have HRS := Lib.hid hRS
              have hb := (right_pd _).1 HR.out
              dsimp only at hb
              obtain ⟨u11, u11'⟩ := small_wraps (x := x11 + 1) (by omega)
              clear hRS hb Hok Hbad
              obtain ⟨y0, y1, y2, y3, y4, y5, y6, y7, y8, y9, y10, y11, y12, y13⟩ := S
              dsimp only at h11 h0 h1 h2 h3 h4 h12 h6 h13
              replace h0 := h0.symm
              replace h1 := h1.symm
              replace h2 := h2.symm
              replace h3 := h3.symm
              replace h4 := h4.symm
              replace h12 := h12.symm
              replace h6 := h6.symm
              subst h11 h0 h1 h2 h3 h4 h12 h6 h13
              have HXc : Hid (Has wc nb 50 #[.int .i64 x0, .int .i64 x1, .int .i64 x2, .int .i64 x3, .int .i64 x4, .int .i64 y5, .int .i64 x6, .int .i64 y7, .bool y8, .int .i64 y9, .int .i64 y10, .int .i64 (x11 + 1), .int .i64 x12, .bool false]) := HXc.out
              have k0 : wc.cell? ⟨tb, 0, none⟩ = some (.int .i64 x0) := (HTc.out.cell 0).trans rfl
              have k1 : wc.cell? ⟨tb, 1, none⟩ = some (.int .i64 x1) := (HTc.out.cell 1).trans rfl
              have k2 : wc.cell? ⟨tb, 2, none⟩ = some (.int .i64 x2) := (HTc.out.cell 2).trans rfl
              have k3 : wc.cell? ⟨tb, 3, none⟩ = some (.int .i64 x3) := (HTc.out.cell 3).trans rfl
              have k4 : wc.cell? ⟨tb, 4, none⟩ = some (.int .i64 x4) := (HTc.out.cell 4).trans rfl
              have k5 : wc.cell? ⟨tb, 5, none⟩ = some (.int .i64 x5) := (HTc.out.cell 5).trans rfl
              have k6 : wc.cell? ⟨tb, 6, none⟩ = some (.int .i64 x6) := (HTc.out.cell 6).trans rfl
              have k7 : wc.cell? ⟨tb, 7, none⟩ = some (.int .i64 x7) := (HTc.out.cell 7).trans rfl
              have k8 : wc.cell? ⟨tb, 8, none⟩ = some (.bool x8) := (HTc.out.cell 8).trans rfl
              have k9 : wc.cell? ⟨tb, 9, none⟩ = some (.int .i64 x9) := (HTc.out.cell 9).trans rfl
              have k10 : wc.cell? ⟨tb, 10, none⟩ = some (.int .i64 x10) := (HTc.out.cell 10).trans rfl
              have k11 : wc.cell? ⟨tb, 11, none⟩ = some (.int .i64 x11) := (HTc.out.cell 11).trans rfl
              have k12 : wc.cell? ⟨tb, 12, none⟩ = some (.int .i64 x12) := (HTc.out.cell 12).trans rfl
              have k13 : wc.cell? ⟨tb, 13, none⟩ = some (.bool x13) := (HTc.out.cell 13).trans rfl
              have q0 : wc.cell? ⟨nb, 0, none⟩ = some (.int .i64 x0) := (HXc.out.cell 0).trans rfl
              have q1 : wc.cell? ⟨nb, 1, none⟩ = some (.int .i64 x1) := (HXc.out.cell 1).trans rfl
              have q2 : wc.cell? ⟨nb, 2, none⟩ = some (.int .i64 x2) := (HXc.out.cell 2).trans rfl
              have q3 : wc.cell? ⟨nb, 3, none⟩ = some (.int .i64 x3) := (HXc.out.cell 3).trans rfl
              have q4 : wc.cell? ⟨nb, 4, none⟩ = some (.int .i64 x4) := (HXc.out.cell 4).trans rfl
              have q5 : wc.cell? ⟨nb, 5, none⟩ = some (.int .i64 y5) := (HXc.out.cell 5).trans rfl
              have q6 : wc.cell? ⟨nb, 6, none⟩ = some (.int .i64 x6) := (HXc.out.cell 6).trans rfl
              have q7 : wc.cell? ⟨nb, 7, none⟩ = some (.int .i64 y7) := (HXc.out.cell 7).trans rfl
              have q8 : wc.cell? ⟨nb, 8, none⟩ = some (.bool y8) := (HXc.out.cell 8).trans rfl
              have q9 : wc.cell? ⟨nb, 9, none⟩ = some (.int .i64 y9) := (HXc.out.cell 9).trans rfl
              have q10 : wc.cell? ⟨nb, 10, none⟩ = some (.int .i64 y10) := (HXc.out.cell 10).trans rfl
              have q11 : wc.cell? ⟨nb, 11, none⟩ = some (.int .i64 (x11 + 1)) := (HXc.out.cell 11).trans rfl
              have q12 : wc.cell? ⟨nb, 12, none⟩ = some (.int .i64 x12) := (HXc.out.cell 12).trans rfl
              have q13 : wc.cell? ⟨nb, 13, none⟩ = some (.bool false) := (HXc.out.cell 13).trans rfl
              go_wp2_with (first
                | (refine wpList_store_th rfl (.tmp 5) (.tmp 160) rfl tb ⟨x0, x1, x2, x3, x4, y5, x6, y7, y8, y9, y10, x11 + 1, x12, false⟩ _ rfl rfl HTc.out rfl ?_
                   intro wX hX hCX
                   have HX := Lib.hid hX
                   have HNX := Lib.hid (HNc.out.trans hCX (fun i hi h => by have := Htb.out; omega))
                   clear hX hCX)
                | fail)
              go_roundg (200 - (i + 1))
              case measure => omega
              case rel => exact ⟨i + 1, ⟨x0, x1, x2, x3, x4, y5, x6, y7, y8, y9, y10, x11 + 1, x12, false⟩, by omega, by omega, rfl, by go_num, HRS.out, HX.out, HNX.out⟩
            · have e5 : (E == 0) = false := beq_eq_false_iff_ne.2 hE0
              have e5' : (E != 0) = true := bne_iff_ne.2 hE0
              have hS := Hbad.out hE0
              subst hS
              have HXc : Hid (Has wc nb 50 #[.int .i64 0, .int .i64 0, .int .i64 0, .int .i64 0, .int .i64 0, .int .i64 0, .int .i64 0, .int .i64 0, .bool false, .int .i64 0, .int .i64 0, .int .i64 0, .int .i64 0, .bool false]) := HXc.out
              clear hE0 Hok Hbad
              have q0 : wc.cell? ⟨nb, 0, none⟩ = some (.int .i64 0) := (HXc.out.cell 0).trans rfl
              have q1 : wc.cell? ⟨nb, 1, none⟩ = some (.int .i64 0) := (HXc.out.cell 1).trans rfl
              have q2 : wc.cell? ⟨nb, 2, none⟩ = some (.int .i64 0) := (HXc.out.cell 2).trans rfl
              have q3 : wc.cell? ⟨nb, 3, none⟩ = some (.int .i64 0) := (HXc.out.cell 3).trans rfl
              have q4 : wc.cell? ⟨nb, 4, none⟩ = some (.int .i64 0) := (HXc.out.cell 4).trans rfl
              have q5 : wc.cell? ⟨nb, 5, none⟩ = some (.int .i64 0) := (HXc.out.cell 5).trans rfl
              have q6 : wc.cell? ⟨nb, 6, none⟩ = some (.int .i64 0) := (HXc.out.cell 6).trans rfl
              have q7 : wc.cell? ⟨nb, 7, none⟩ = some (.int .i64 0) := (HXc.out.cell 7).trans rfl
              have q8 : wc.cell? ⟨nb, 8, none⟩ = some (.bool false) := (HXc.out.cell 8).trans rfl
              have q9 : wc.cell? ⟨nb, 9, none⟩ = some (.int .i64 0) := (HXc.out.cell 9).trans rfl
              have q10 : wc.cell? ⟨nb, 10, none⟩ = some (.int .i64 0) := (HXc.out.cell 10).trans rfl
              have q11 : wc.cell? ⟨nb, 11, none⟩ = some (.int .i64 0) := (HXc.out.cell 11).trans rfl
              have q12 : wc.cell? ⟨nb, 12, none⟩ = some (.int .i64 0) := (HXc.out.cell 12).trans rfl
              have q13 : wc.cell? ⟨nb, 13, none⟩ = some (.bool false) := (HXc.out.cell 13).trans rfl
              go_wp2_with fail
              go_roundg (200 - (i + 1))
              case measure => omega
              case rel => exact ⟨i + 1, ⟨x0, x1, x2, x3, x4, x5, x6, x7, x8, x9, x10, x11, x12, x13⟩, by omega, by omega, rfl, by go_num, HR.out, HTc.out, HNc.out⟩
        | false => as_aux_lemma =>
          clear Hlb
          have HRB : Hid (RightN (Pd.ns ⟨x0, x1, x2, x3, x4, x5, x6, x7, x8, x9, x10, x11, x12, true⟩)) := (right_pd ⟨x0, x1, x2, x3, x4, x5, x6, x7, x8, x9, x10, x11, x12, true⟩).2 ((right_pd ⟨x0, x1, x2, x3, x4, x5, x6, x7, x8, x9, x10, x11, x12, x13⟩).1 HR.out)
          have HBl : Hid (∀ w, Calls Try.prog 26 #[.agg #[.int .i64 x0, .int .i64 x1, .int .i64 x2, .int .i64 x3, .int .i64 x4, .int .i64 x5, .int .i64 x6, .int .i64 x7, .bool x8, .int .i64 x9, .int .i64 x10, .int .i64 x11, .int .i64 x12, .bool x13]] w fun e w' => e = .returned (.agg #[.int .i64 x0, .int .i64 x1, .int .i64 x2, .int .i64 x3, .int .i64 x4, .int .i64 x5, .int .i64 x6, .int .i64 x7, .bool x8, .int .i64 x9, .int .i64 x10, .int .i64 x11, .int .i64 x12, .bool true]) ∧ New w w') := fun w => Block_any ⟨x0, x1, x2, x3, x4, x5, x6, x7, x8, x9, x10, x11, x12, x13⟩ w
          have HRi : Hid (∀ w, Calls Try.prog 22 #[.agg #[.int .i64 x0, .int .i64 x1, .int .i64 x2, .int .i64 x3, .int .i64 x4, .int .i64 x5, .int .i64 x6, .int .i64 x7, .bool x8, .int .i64 x9, .int .i64 x10, .int .i64 x11, .int .i64 x12, .bool true], .int .i64 0] w fun e w' => e = .returned (.tuple #[.agg #[.int .i64 0, .int .i64 0, .int .i64 0, .int .i64 0, .int .i64 0, .int .i64 0, .int .i64 0, .int .i64 0, .bool false, .int .i64 0, .int .i64 0, .int .i64 0, .int .i64 0, .bool false], .int .i64 25]) ∧ New w w') := fun w => Ride_any ⟨x0, x1, x2, x3, x4, x5, x6, x7, x8, x9, x10, x11, x12, true⟩ HRB.out 0 w
          have HIn : Hid (∀ w, Calls Try.prog 23 #[.agg #[.int .i64 x0, .int .i64 x1, .int .i64 x2, .int .i64 x3, .int .i64 x4, .int .i64 x5, .int .i64 x6, .int .i64 x7, .bool x8, .int .i64 x9, .int .i64 x10, .int .i64 x11, .int .i64 x12, .bool true], .int .i64 0, .int .i64 0] w fun e w' => e = .returned (.tuple #[.agg #[.int .i64 0, .int .i64 0, .int .i64 0, .int .i64 0, .int .i64 0, .int .i64 0, .int .i64 0, .int .i64 0, .bool false, .int .i64 0, .int .i64 0, .int .i64 0, .int .i64 0, .bool false], .int .i64 25]) ∧ New w w') := fun w => In_any ⟨x0, x1, x2, x3, x4, x5, x6, x7, x8, x9, x10, x11, x12, true⟩ HRB.out 0 0 w
          clear HRB HR
          go_wp2_with fail
          with_reducible refine (HBl.out _).mono ?_
          rintro e w1 ⟨rfl, hN⟩
          obtain ⟨bb, hbb⟩ : ∃ bb, bb = w1.heap.size := ⟨_, rfl⟩
          have HB1 : Hid (Has (w1.alloc (.cells #[.int .i64 x0, .int .i64 x1, .int .i64 x2, .int .i64 x3, .int .i64 x4, .int .i64 x5, .int .i64 x6, .int .i64 x7, .bool x8, .int .i64 x9, .int .i64 x10, .int .i64 x11, .int .i64 x12, .bool true] 50)) bb 50 #[.int .i64 x0, .int .i64 x1, .int .i64 x2, .int .i64 x3, .int .i64 x4, .int .i64 x5, .int .i64 x6, .int .i64 x7, .bool x8, .int .i64 x9, .int .i64 x10, .int .i64 x11, .int .i64 x12, .bool true]) := by rw [hbb]; exact Has.new _ _ _
          have HT1 := Lib.hid ((HT.out.keep hN).alloc (.cells #[.int .i64 x0, .int .i64 x1, .int .i64 x2, .int .i64 x3, .int .i64 x4, .int .i64 x5, .int .i64 x6, .int .i64 x7, .bool x8, .int .i64 x9, .int .i64 x10, .int .i64 x11, .int .i64 x12, .bool true] 50))
          have Hne : Hid (tb < bb) := by rw [hbb]; exact (HT.out.keep hN).lt
          have HN1 := Lib.hid ((HN.out.then_new hN).alloc (.cells #[.int .i64 x0, .int .i64 x1, .int .i64 x2, .int .i64 x3, .int .i64 x4, .int .i64 x5, .int .i64 x6, .int .i64 x7, .bool x8, .int .i64 x9, .int .i64 x10, .int .i64 x11, .int .i64 x12, .bool true] 50))
          clear hN HBl HT HN k0 k1 k2 k3 k4 k5 k6 k7 k8 k9 k10 k11 k12 k13
          go_wp2_with fail
          with_reducible refine (HRi.out _).mono ?_
          rintro e w2 ⟨rfl, hN⟩
          rw [← hbb]
          clear hbb
          have HB2 := Lib.hid ((HB1.out.keep hN).alloc (.cells #[.int .i64 0, .int .i64 0, .int .i64 0, .int .i64 0, .int .i64 0, .int .i64 0, .int .i64 0, .int .i64 0, .bool false, .int .i64 0, .int .i64 0, .int .i64 0, .int .i64 0, .bool false] 50))
          have HT2 := Lib.hid ((HT1.out.keep hN).alloc (.cells #[.int .i64 0, .int .i64 0, .int .i64 0, .int .i64 0, .int .i64 0, .int .i64 0, .int .i64 0, .int .i64 0, .bool false, .int .i64 0, .int .i64 0, .int .i64 0, .int .i64 0, .bool false] 50))
          have HN2 := Lib.hid ((HN1.out.then_new hN).alloc (.cells #[.int .i64 0, .int .i64 0, .int .i64 0, .int .i64 0, .int .i64 0, .int .i64 0, .int .i64 0, .int .i64 0, .bool false, .int .i64 0, .int .i64 0, .int .i64 0, .int .i64 0, .bool false] 50))
          have HB2' := Lib.hid (HB1.out.keep hN)
          clear HB1 HT1 HN1 hN
          have l0 : w2.cell? ⟨bb, 0, none⟩ = some (.int .i64 x0) := (HB2'.out.cell 0).trans rfl
          have l1 : w2.cell? ⟨bb, 1, none⟩ = some (.int .i64 x1) := (HB2'.out.cell 1).trans rfl
          have l2 : w2.cell? ⟨bb, 2, none⟩ = some (.int .i64 x2) := (HB2'.out.cell 2).trans rfl
          have l3 : w2.cell? ⟨bb, 3, none⟩ = some (.int .i64 x3) := (HB2'.out.cell 3).trans rfl
          have l4 : w2.cell? ⟨bb, 4, none⟩ = some (.int .i64 x4) := (HB2'.out.cell 4).trans rfl
          have l5 : w2.cell? ⟨bb, 5, none⟩ = some (.int .i64 x5) := (HB2'.out.cell 5).trans rfl
          have l6 : w2.cell? ⟨bb, 6, none⟩ = some (.int .i64 x6) := (HB2'.out.cell 6).trans rfl
          have l7 : w2.cell? ⟨bb, 7, none⟩ = some (.int .i64 x7) := (HB2'.out.cell 7).trans rfl
          have l8 : w2.cell? ⟨bb, 8, none⟩ = some (.bool x8) := (HB2'.out.cell 8).trans rfl
          have l9 : w2.cell? ⟨bb, 9, none⟩ = some (.int .i64 x9) := (HB2'.out.cell 9).trans rfl
          have l10 : w2.cell? ⟨bb, 10, none⟩ = some (.int .i64 x10) := (HB2'.out.cell 10).trans rfl
          have l11 : w2.cell? ⟨bb, 11, none⟩ = some (.int .i64 x11) := (HB2'.out.cell 11).trans rfl
          have l12 : w2.cell? ⟨bb, 12, none⟩ = some (.int .i64 x12) := (HB2'.out.cell 12).trans rfl
          have l13 : w2.cell? ⟨bb, 13, none⟩ = some (.bool true) := (HB2'.out.cell 13).trans rfl
          have hlb := HB2'.out.lt
          clear HB2'
          go_wp2_with fail
          with_reducible refine (HIn.out _).mono ?_
          rintro e w3 ⟨rfl, hN⟩
          have HB3 := Lib.hid (HB2.out.keep hN)
          have HT3 := Lib.hid (HT2.out.keep hN)
          have HN3 := Lib.hid (HN2.out.then_new hN)
          clear HB2 HT2 HN2 hN hlb l0 l1 l2 l3 l4 l5 l6 l7 l8 l9 l10 l11 l12 l13
          have l0 : w3.cell? ⟨bb, 0, none⟩ = some (.int .i64 x0) := (HB3.out.cell 0).trans rfl
          have l1 : w3.cell? ⟨bb, 1, none⟩ = some (.int .i64 x1) := (HB3.out.cell 1).trans rfl
          have l2 : w3.cell? ⟨bb, 2, none⟩ = some (.int .i64 x2) := (HB3.out.cell 2).trans rfl
          have l3 : w3.cell? ⟨bb, 3, none⟩ = some (.int .i64 x3) := (HB3.out.cell 3).trans rfl
          have l4 : w3.cell? ⟨bb, 4, none⟩ = some (.int .i64 x4) := (HB3.out.cell 4).trans rfl
          have l5 : w3.cell? ⟨bb, 5, none⟩ = some (.int .i64 x5) := (HB3.out.cell 5).trans rfl
          have l6 : w3.cell? ⟨bb, 6, none⟩ = some (.int .i64 x6) := (HB3.out.cell 6).trans rfl
          have l7 : w3.cell? ⟨bb, 7, none⟩ = some (.int .i64 x7) := (HB3.out.cell 7).trans rfl
          have l8 : w3.cell? ⟨bb, 8, none⟩ = some (.bool x8) := (HB3.out.cell 8).trans rfl
          have l9 : w3.cell? ⟨bb, 9, none⟩ = some (.int .i64 x9) := (HB3.out.cell 9).trans rfl
          have l10 : w3.cell? ⟨bb, 10, none⟩ = some (.int .i64 x10) := (HB3.out.cell 10).trans rfl
          have l11 : w3.cell? ⟨bb, 11, none⟩ = some (.int .i64 x11) := (HB3.out.cell 11).trans rfl
          have l12 : w3.cell? ⟨bb, 12, none⟩ = some (.int .i64 x12) := (HB3.out.cell 12).trans rfl
          have l13 : w3.cell? ⟨bb, 13, none⟩ = some (.bool true) := (HB3.out.cell 13).trans rfl
          have k0 : w3.cell? ⟨tb, 0, none⟩ = some (.int .i64 x0) := (HT3.out.cell 0).trans rfl
          have k1 : w3.cell? ⟨tb, 1, none⟩ = some (.int .i64 x1) := (HT3.out.cell 1).trans rfl
          have k2 : w3.cell? ⟨tb, 2, none⟩ = some (.int .i64 x2) := (HT3.out.cell 2).trans rfl
          have k3 : w3.cell? ⟨tb, 3, none⟩ = some (.int .i64 x3) := (HT3.out.cell 3).trans rfl
          have k4 : w3.cell? ⟨tb, 4, none⟩ = some (.int .i64 x4) := (HT3.out.cell 4).trans rfl
          have k5 : w3.cell? ⟨tb, 5, none⟩ = some (.int .i64 x5) := (HT3.out.cell 5).trans rfl
          have k6 : w3.cell? ⟨tb, 6, none⟩ = some (.int .i64 x6) := (HT3.out.cell 6).trans rfl
          have k7 : w3.cell? ⟨tb, 7, none⟩ = some (.int .i64 x7) := (HT3.out.cell 7).trans rfl
          have k8 : w3.cell? ⟨tb, 8, none⟩ = some (.bool x8) := (HT3.out.cell 8).trans rfl
          have k9 : w3.cell? ⟨tb, 9, none⟩ = some (.int .i64 x9) := (HT3.out.cell 9).trans rfl
          have k10 : w3.cell? ⟨tb, 10, none⟩ = some (.int .i64 x10) := (HT3.out.cell 10).trans rfl
          have k11 : w3.cell? ⟨tb, 11, none⟩ = some (.int .i64 x11) := (HT3.out.cell 11).trans rfl
          have k12 : w3.cell? ⟨tb, 12, none⟩ = some (.int .i64 x12) := (HT3.out.cell 12).trans rfl
          have k13 : w3.cell? ⟨tb, 13, none⟩ = some (.bool x13) := (HT3.out.cell 13).trans rfl
          have hkl := HT3.out.lt
          have hne1 : ¬ tb = bb := by have := Hne.out; omega
          have hne2 : ¬ bb = tb := by have := Hne.out; omega
          have hlb := HB3.out.lt
          have hlf := HB3.out.free 13
          go_wp2_with fail
          go_ret
          exact ⟨by first | rfl | simp, Chg.alloc (Chg.setCell HN3.out (fun h => by have h1 := Hne.out; have h2 := Htb.out; exact absurd h (by dsimp only; omega)) _) _⟩

theorem counts_open (p : Pd) (A : Option Addr) (n c : Nat) {W : World} (z : (∃ f : Nat → Dd, Dds W (· < W.heap.size) A n f ∧ (A = none → n = 0 ∧ c = 0)) ∧ n ≤ 5864062014634) : Calls Try.prog 9 #[p.V, .slice A n c] W fun e w' => e = .returned (.bool true) ∧ New W w' := by
  obtain ⟨⟨f, hD, hA⟩, _⟩ := z
  exact counts_walk p A n c f W hD hA
end Go.Proofs.Ytdaaejoglikhaaa
