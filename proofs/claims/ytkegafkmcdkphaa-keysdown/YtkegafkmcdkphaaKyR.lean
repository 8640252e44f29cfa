/-
  The document's own answer for keys: Right, Level.
-/
import Derived.Test.YtkegafkmcdkphaaKyE
namespace Go.Proofs.Ytkegafkmcdkphaa
open Go.RowKit
theorem rightB_not {k : Ky} (h : ¬ KRight k) : rightB k = false := decide_eq_false h
set_option maxRecDepth 100000 in
set_option maxHeartbeats 2000000 in
theorem rRight_any (k : Ky) (w : World) : Calls Try.prog 13 #[k.V] w fun e w' => e = .returned (.bool (rightB k)) ∧ New w w' := by
  have HRo := Lib.hid (Row_any k)
  obtain ⟨b, hb⟩ : ∃ b, b = rightB k := ⟨_, rfl⟩
  rw [← hb]
  have Hb := Lib.hid hb; clear hb
  obtain ⟨o, t, c, v⟩ := k
  go_enter Try.func13, Try.ntmps13
  go_wp2_with fail
  with_reducible refine (HRo.out _).mono ?_
  rintro e w1 ⟨rfl, hN⟩
  have HB := Lib.hid ((Has.new w 23 #[.int .i64 o, .int .i64 t, .int .i64 c, .int .i64 v]).keep hN)
  have HN := Lib.hid (((Chg.refl (fun _ => False) w).alloc _).then_new hN)
  clear hN
  go_wp2_with fail
  go_loopg [5] 3 (fun gk i wr => ∃ k : Nat, k ≤ 3 ∧ gk = 3 - k ∧ i = .int .i64 k ∧ (1 ≤ k → 0 ≤ o ∧ o ≤ 4) ∧ (2 ≤ k → 0 ≤ t ∧ t ≤ 4 ∧ (o = 0 → t = 0)) ∧ (3 ≤ k → 0 ≤ c ∧ c ≤ 65535 ∧ (t = 0 → c = 0)) ∧ Has wr w1.heap.size 48 #[.int .i64 o, .int .i64 t, .int .i64 c] ∧ Has wr (w1.heap.size + 1) 48 #[.int .i64 4, .int .i64 4, .int .i64 65535] ∧ Has wr w.heap.size 23 #[.int .i64 o, .int .i64 t, .int .i64 c, .int .i64 v] ∧ New w wr)
  case atStart => exact ⟨0, by omega, by omega, rfl, by omega, by omega, by omega, (Has.new _ _ _).alloc _, Has.new_at _ _ _ _ (by simp), (HB.out.alloc _).alloc _, (HN.out.alloc _).alloc _⟩
  case round =>
    clear HB HN
    obtain ⟨k, hk, rfl, rfl, h1, h2, h3, hX, hM, hB, hN⟩ := hrel
    rcases (show k = 0 ∨ k = 1 ∨ k = 2 ∨ k = 3 by omega) with rfl | rfl | rfl | rfl
    · have HX := Lib.hid hX; clear hX
      have HM := Lib.hid hM; clear hM
      have HB := Lib.hid hB; clear hB
      have HN := Lib.hid hN; clear hN
      have c0 : wr.cell? ⟨w1.heap.size, 0, none⟩ = some (.int .i64 o) := (HX.out.cell 0).trans rfl
      have c1 : wr.cell? ⟨w1.heap.size, 1, none⟩ = some (.int .i64 t) := (HX.out.cell 1).trans rfl
      have c2 : wr.cell? ⟨w1.heap.size, 2, none⟩ = some (.int .i64 c) := (HX.out.cell 2).trans rfl
      have m0 : wr.cell? ⟨w1.heap.size + 1, 0, none⟩ = some (.int .i64 4) := (HM.out.cell 0).trans rfl
      have m1 : wr.cell? ⟨w1.heap.size + 1, 1, none⟩ = some (.int .i64 4) := (HM.out.cell 1).trans rfl
      have m2 : wr.cell? ⟨w1.heap.size + 1, 2, none⟩ = some (.int .i64 65535) := (HM.out.cell 2).trans rfl
      obtain ⟨b1, q1⟩ : ∃ b1, decide (o < 0) = b1 := ⟨_, rfl⟩
      obtain ⟨b2, q2⟩ : ∃ b2, decide (4 < o) = b2 := ⟨_, rfl⟩
      cases b1 with
      | true =>
        go_wp2_with fail
        go_region
        go_wp2_with fail
        go_ret
        refine ⟨?_, HN.out.drew⟩
        rw [Hb.out, rightB_not (fun h => by unfold KRight at h; simp only at h; have := of_decide_eq_true q1; omega)]
        rfl
      | false =>
        cases b2 with
        | true =>
          go_wp2_with fail
          go_region
          go_wp2_with fail
          go_ret
          refine ⟨?_, HN.out.drew⟩
          rw [Hb.out, rightB_not (fun h => by unfold KRight at h; simp only at h; have := of_decide_eq_true q2; omega)]
          rfl
        | false =>
          go_wp2_with fail
          go_region
          go_wp2_with fail
          go_roundg (3 - 1)
          case measure => omega
          case rel => exact ⟨1, by omega, rfl, by go_num, by have := of_decide_eq_false q1; have := of_decide_eq_false q2; omega, by have := of_decide_eq_false q1; have := of_decide_eq_false q2; omega, by have := of_decide_eq_false q1; have := of_decide_eq_false q2; omega, HX.out.drew, HM.out.drew, HB.out.drew, HN.out.drew⟩
    · have HX := Lib.hid hX; clear hX
      have HM := Lib.hid hM; clear hM
      have HB := Lib.hid hB; clear hB
      have HN := Lib.hid hN; clear hN
      have c0 : wr.cell? ⟨w1.heap.size, 0, none⟩ = some (.int .i64 o) := (HX.out.cell 0).trans rfl
      have c1 : wr.cell? ⟨w1.heap.size, 1, none⟩ = some (.int .i64 t) := (HX.out.cell 1).trans rfl
      have c2 : wr.cell? ⟨w1.heap.size, 2, none⟩ = some (.int .i64 c) := (HX.out.cell 2).trans rfl
      have m0 : wr.cell? ⟨w1.heap.size + 1, 0, none⟩ = some (.int .i64 4) := (HM.out.cell 0).trans rfl
      have m1 : wr.cell? ⟨w1.heap.size + 1, 1, none⟩ = some (.int .i64 4) := (HM.out.cell 1).trans rfl
      have m2 : wr.cell? ⟨w1.heap.size + 1, 2, none⟩ = some (.int .i64 65535) := (HM.out.cell 2).trans rfl
      obtain ⟨b1, q1⟩ : ∃ b1, decide (t < 0) = b1 := ⟨_, rfl⟩
      obtain ⟨b2, q2⟩ : ∃ b2, decide (4 < t) = b2 := ⟨_, rfl⟩
      cases b1 with
      | true =>
        go_wp2_with fail
        go_region
        go_wp2_with fail
        go_ret
        refine ⟨?_, HN.out.drew⟩
        rw [Hb.out, rightB_not (fun h => by unfold KRight at h; simp only at h; have := of_decide_eq_true q1; omega)]
        rfl
      | false =>
        cases b2 with
        | true =>
          go_wp2_with fail
          go_region
          go_wp2_with fail
          go_ret
          refine ⟨?_, HN.out.drew⟩
          rw [Hb.out, rightB_not (fun h => by unfold KRight at h; simp only at h; have := of_decide_eq_true q2; omega)]
          rfl
        | false =>
          obtain ⟨b3, q3⟩ : ∃ b3, (t != 0) = b3 := ⟨_, rfl⟩
          obtain ⟨b4, q4⟩ : ∃ b4, (o == 0) = b4 := ⟨_, rfl⟩
          cases b3 with
          | false =>
            go_wp2_with fail
            go_region
            go_wp2_with fail
            go_roundg (3 - 2)
            case measure => omega
            case rel => exact ⟨2, by omega, rfl, by go_num, by have := of_decide_eq_false q1; have := of_decide_eq_false q2; have := bne_eq_false_iff_eq.1 q3; omega, by have := of_decide_eq_false q1; have := of_decide_eq_false q2; have := bne_eq_false_iff_eq.1 q3; omega, by have := of_decide_eq_false q1; have := of_decide_eq_false q2; have := bne_eq_false_iff_eq.1 q3; omega, HX.out.drew, HM.out.drew, HB.out.drew, HN.out.drew⟩
          | true =>
            cases b4 with
            | true =>
              go_wp2_with fail
              go_region
              go_wp2_with fail
              go_ret
              refine ⟨?_, HN.out.drew⟩
              rw [Hb.out, rightB_not (fun h => by unfold KRight at h; simp only at h; have := bne_iff_ne.1 q3; have := beq_iff_eq.1 q4; omega)]
              rfl
            | false =>
              go_wp2_with fail
              go_region
              go_wp2_with fail
              go_roundg (3 - 2)
              case measure => omega
              case rel => exact ⟨2, by omega, rfl, by go_num, by have := of_decide_eq_false q1; have := of_decide_eq_false q2; have := bne_iff_ne.1 q3; have := beq_eq_false_iff_ne.1 q4; omega, by have := of_decide_eq_false q1; have := of_decide_eq_false q2; have := bne_iff_ne.1 q3; have := beq_eq_false_iff_ne.1 q4; omega, by have := of_decide_eq_false q1; have := of_decide_eq_false q2; have := bne_iff_ne.1 q3; have := beq_eq_false_iff_ne.1 q4; omega, HX.out.drew, HM.out.drew, HB.out.drew, HN.out.drew⟩
    · have HX := Lib.hid hX; clear hX
      have HM := Lib.hid hM; clear hM
      have HB := Lib.hid hB; clear hB
      have HN := Lib.hid hN; clear hN
      have c0 : wr.cell? ⟨w1.heap.size, 0, none⟩ = some (.int .i64 o) := (HX.out.cell 0).trans rfl
      have c1 : wr.cell? ⟨w1.heap.size, 1, none⟩ = some (.int .i64 t) := (HX.out.cell 1).trans rfl
      have c2 : wr.cell? ⟨w1.heap.size, 2, none⟩ = some (.int .i64 c) := (HX.out.cell 2).trans rfl
      have m0 : wr.cell? ⟨w1.heap.size + 1, 0, none⟩ = some (.int .i64 4) := (HM.out.cell 0).trans rfl
      have m1 : wr.cell? ⟨w1.heap.size + 1, 1, none⟩ = some (.int .i64 4) := (HM.out.cell 1).trans rfl
      have m2 : wr.cell? ⟨w1.heap.size + 1, 2, none⟩ = some (.int .i64 65535) := (HM.out.cell 2).trans rfl
      obtain ⟨b1, q1⟩ : ∃ b1, decide (c < 0) = b1 := ⟨_, rfl⟩
      obtain ⟨b2, q2⟩ : ∃ b2, decide (65535 < c) = b2 := ⟨_, rfl⟩
      cases b1 with
      | true =>
        go_wp2_with fail
        go_region
        go_wp2_with fail
        go_ret
        refine ⟨?_, HN.out.drew⟩
        rw [Hb.out, rightB_not (fun h => by unfold KRight at h; simp only at h; have := of_decide_eq_true q1; omega)]
        rfl
      | false =>
        cases b2 with
        | true =>
          go_wp2_with fail
          go_region
          go_wp2_with fail
          go_ret
          refine ⟨?_, HN.out.drew⟩
          rw [Hb.out, rightB_not (fun h => by unfold KRight at h; simp only at h; have := of_decide_eq_true q2; omega)]
          rfl
        | false =>
          obtain ⟨b3, q3⟩ : ∃ b3, (c != 0) = b3 := ⟨_, rfl⟩
          obtain ⟨b4, q4⟩ : ∃ b4, (t == 0) = b4 := ⟨_, rfl⟩
          cases b3 with
          | false =>
            go_wp2_with fail
            go_region
            go_wp2_with fail
            go_roundg (3 - 3)
            case measure => omega
            case rel => exact ⟨3, by omega, rfl, by go_num, by have := of_decide_eq_false q1; have := of_decide_eq_false q2; have := bne_eq_false_iff_eq.1 q3; omega, by have := of_decide_eq_false q1; have := of_decide_eq_false q2; have := bne_eq_false_iff_eq.1 q3; omega, by have := of_decide_eq_false q1; have := of_decide_eq_false q2; have := bne_eq_false_iff_eq.1 q3; omega, HX.out.drew, HM.out.drew, HB.out.drew, HN.out.drew⟩
          | true =>
            cases b4 with
            | true =>
              go_wp2_with fail
              go_region
              go_wp2_with fail
              go_ret
              refine ⟨?_, HN.out.drew⟩
              rw [Hb.out, rightB_not (fun h => by unfold KRight at h; simp only at h; have := bne_iff_ne.1 q3; have := beq_iff_eq.1 q4; omega)]
              rfl
            | false =>
              go_wp2_with fail
              go_region
              go_wp2_with fail
              go_roundg (3 - 3)
              case measure => omega
              case rel => exact ⟨3, by omega, rfl, by go_num, by have := of_decide_eq_false q1; have := of_decide_eq_false q2; have := bne_iff_ne.1 q3; have := beq_eq_false_iff_ne.1 q4; omega, by have := of_decide_eq_false q1; have := of_decide_eq_false q2; have := bne_iff_ne.1 q3; have := beq_eq_false_iff_ne.1 q4; omega, by have := of_decide_eq_false q1; have := of_decide_eq_false q2; have := bne_iff_ne.1 q3; have := beq_eq_false_iff_ne.1 q4; omega, HX.out.drew, HM.out.drew, HB.out.drew, HN.out.drew⟩
    · have HB := Lib.hid hB; clear hB
      have HN := Lib.hid hN; clear hN
      have c0 : wr.cell? ⟨w.heap.size, 0, none⟩ = some (.int .i64 o) := (HB.out.cell 0).trans rfl
      have c1 : wr.cell? ⟨w.heap.size, 1, none⟩ = some (.int .i64 t) := (HB.out.cell 1).trans rfl
      have c2 : wr.cell? ⟨w.heap.size, 2, none⟩ = some (.int .i64 c) := (HB.out.cell 2).trans rfl
      have c3 : wr.cell? ⟨w.heap.size, 3, none⟩ = some (.int .i64 v) := (HB.out.cell 3).trans rfl
      obtain ⟨b1, q1⟩ : ∃ b1, decide (0 < v) = b1 := ⟨_, rfl⟩
      cases b1 with
      | false =>
        go_wp2_with fail
        go_ret
        refine ⟨?_, HN.out⟩
        rw [Hb.out, rightB_not (fun h => by unfold KRight at h; simp only at h; have := of_decide_eq_false q1; omega)]
        rfl
      | true =>
        obtain ⟨b2, q2⟩ : ∃ b2, decide (v < 256) = b2 := ⟨_, rfl⟩
        cases b2 with
        | false =>
          go_wp2_with fail
          go_ret
          refine ⟨?_, HN.out⟩
          rw [Hb.out, rightB_not (fun h => by unfold KRight at h; simp only at h; have := of_decide_eq_false q2; omega)]
          rfl
        | true =>
          go_wp2_with fail
          go_ret
          refine ⟨?_, HN.out⟩
          rw [Hb.out, rightB_of (k := ⟨o, t, c, v⟩) (by unfold KRight; simp only; have := of_decide_eq_true q1; have := of_decide_eq_true q2; omega)]
          rfl
end Go.Proofs.Ytkegafkmcdkphaa
