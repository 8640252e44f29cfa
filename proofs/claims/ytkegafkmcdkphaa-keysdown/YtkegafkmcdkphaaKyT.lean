/-
  The document's own answer for keys: From, Derive.
-/
import Derived.Test.YtkegafkmcdkphaaKyS
namespace Go.Proofs.Ytkegafkmcdkphaa
open Go.RowKit
theorem levI_range (k : Ky) : -1 ≤ levI k ∧ levI k ≤ 3 := by
  have := lev_le k
  unfold levI
  split <;> omega
theorem levI_pos {k : Ky} {l : Int} (h : levI k = l) (hl : 0 ≤ l) : KRight k ∧ (lev k : Int) = l := by
  unfold levI at h
  split at h
  · next hr => exact ⟨rightB_yes hr, h⟩
  · omega
theorem fromB_not {k a : Ky} (h : ¬ KFrom k a) : fromB k a = false := by rw [Bool.eq_false_iff, ne_eq, fromB_iff]; exact h
set_option maxRecDepth 100000 in
set_option maxHeartbeats 2000000 in
theorem rFrom_any (k a : Ky) (w : World) : Calls Try.prog 14 #[k.V, a.V] w fun e w' => e = .returned (.bool (fromB k a)) ∧ New w w' := by
  have HLa := Lib.hid (rLevel_any a)
  have HLk := Lib.hid (rLevel_any k)
  have HFk := Lib.hid (Row_any k)
  have HFa := Lib.hid (Row_any a)
  obtain ⟨B, hB⟩ : ∃ B, B = fromB k a := ⟨_, rfl⟩
  rw [← hB]
  have HB := Lib.hid hB; clear hB
  obtain ⟨la, hla⟩ : ∃ la, levI a = la := ⟨_, rfl⟩
  obtain ⟨lk, hlk⟩ : ∃ lk, levI k = lk := ⟨_, rfl⟩
  rw [hla] at HLa
  rw [hlk] at HLk
  have hra := levI_range a
  have hrk := levI_range k
  rw [hla] at hra
  rw [hlk] at hrk
  have HIa := Lib.hid hla; clear hla
  have HIk := Lib.hid hlk; clear hlk
  obtain ⟨o, t, c, v⟩ := k
  obtain ⟨ao, at_, ac, av⟩ := a
  go_enter Try.func14, Try.ntmps14
  go_wp2_with fail
  with_reducible refine (HLa.out _).mono ?_
  rintro e w1 ⟨rfl, hN⟩
  have HK1 := Lib.hid (((Has.new w 23 #[.int .i64 o, .int .i64 t, .int .i64 c, .int .i64 v]).alloc (.cells #[.int .i64 ao, .int .i64 (at_), .int .i64 ac, .int .i64 av] 23)).keep hN)
  have HA1 := Lib.hid ((Has.new_at (w.alloc (.cells #[.int .i64 o, .int .i64 t, .int .i64 c, .int .i64 v] 23)) 23 #[.int .i64 ao, .int .i64 (at_), .int .i64 ac, .int .i64 av] (w.heap.size + 1) (by simp)).keep hN)
  have HN1 := Lib.hid ((((Chg.refl (fun _ => False) w).alloc _).alloc _).then_new hN)
  clear hN
  obtain ⟨b0, q0⟩ : ∃ b0, decide (la < 0) = b0 := ⟨_, rfl⟩
  cases b0 with
  | true =>
    go_wp2_with fail
    go_ret
    refine ⟨?_, HN1.out⟩
    rw [HB.out, fromB_not (fun h => by have h1 := levI_yes (rightB_of h.2.1); rw [HIa.out] at h1; have := of_decide_eq_true q0; omega)]
    rfl
  | false =>
    have c0 : w1.cell? ⟨w.heap.size, 0, none⟩ = some (.int .i64 o) := (HK1.out.cell 0).trans rfl
    have c1 : w1.cell? ⟨w.heap.size, 1, none⟩ = some (.int .i64 t) := (HK1.out.cell 1).trans rfl
    have c2 : w1.cell? ⟨w.heap.size, 2, none⟩ = some (.int .i64 c) := (HK1.out.cell 2).trans rfl
    have c3 : w1.cell? ⟨w.heap.size, 3, none⟩ = some (.int .i64 v) := (HK1.out.cell 3).trans rfl
    have d0 : w1.cell? ⟨w.heap.size + 1, 0, none⟩ = some (.int .i64 ao) := (HA1.out.cell 0).trans rfl
    have d1 : w1.cell? ⟨w.heap.size + 1, 1, none⟩ = some (.int .i64 at_) := (HA1.out.cell 1).trans rfl
    have d2 : w1.cell? ⟨w.heap.size + 1, 2, none⟩ = some (.int .i64 ac) := (HA1.out.cell 2).trans rfl
    have d3 : w1.cell? ⟨w.heap.size + 1, 3, none⟩ = some (.int .i64 av) := (HA1.out.cell 3).trans rfl
    go_wp2_with fail
    with_reducible refine (HLk.out _).mono ?_
    rintro e w2 ⟨rfl, hN⟩
    have HK2 := Lib.hid (HK1.out.keep hN)
    have HA2 := Lib.hid (HA1.out.keep hN)
    have HN2 := Lib.hid (HN1.out.then_new hN)
    clear hN c0 c1 c2 c3 d0 d1 d2 d3 HK1 HA1 HN1
    obtain ⟨b1, q1⟩ : ∃ b1, decide (lk < la) = b1 := ⟨_, rfl⟩
    cases b1 with
    | true =>
      go_wp2_with fail
      go_ret
      refine ⟨?_, HN2.out⟩
      rw [HB.out, fromB_not (fun h => by have h1 := levI_yes (rightB_of h.2.1); have h2 := levI_yes (rightB_of h.1); rw [HIa.out] at h1; rw [HIk.out] at h2; have := of_decide_eq_true q1; have := h.2.2.1; omega)]
      rfl
    | false =>
      have c0 : w2.cell? ⟨w.heap.size, 0, none⟩ = some (.int .i64 o) := (HK2.out.cell 0).trans rfl
      have c1 : w2.cell? ⟨w.heap.size, 1, none⟩ = some (.int .i64 t) := (HK2.out.cell 1).trans rfl
      have c2 : w2.cell? ⟨w.heap.size, 2, none⟩ = some (.int .i64 c) := (HK2.out.cell 2).trans rfl
      have c3 : w2.cell? ⟨w.heap.size, 3, none⟩ = some (.int .i64 v) := (HK2.out.cell 3).trans rfl
      have d0 : w2.cell? ⟨w.heap.size + 1, 0, none⟩ = some (.int .i64 ao) := (HA2.out.cell 0).trans rfl
      have d1 : w2.cell? ⟨w.heap.size + 1, 1, none⟩ = some (.int .i64 at_) := (HA2.out.cell 1).trans rfl
      have d2 : w2.cell? ⟨w.heap.size + 1, 2, none⟩ = some (.int .i64 ac) := (HA2.out.cell 2).trans rfl
      have d3 : w2.cell? ⟨w.heap.size + 1, 3, none⟩ = some (.int .i64 av) := (HA2.out.cell 3).trans rfl
      obtain ⟨b2, q2⟩ : ∃ b2, (v != av) = b2 := ⟨_, rfl⟩
      cases b2 with
      | true =>
        go_wp2_with fail
        go_ret
        refine ⟨?_, HN2.out⟩
        rw [HB.out, fromB_not (fun h => by have := h.2.2.2.1; simp only at this; exact bne_iff_ne.1 q2 this)]
        rfl
      | false =>
      go_wp2_with fail
      with_reducible refine (HFk.out _).mono ?_
      rintro e w3 ⟨rfl, hN⟩
      have HA3 := Lib.hid ((HA2.out.keep hN).alloc (.cells #[.int .i64 o, .int .i64 t, .int .i64 c] 48))
      have HN3 := Lib.hid ((HN2.out.then_new hN).alloc (.cells #[.int .i64 o, .int .i64 t, .int .i64 c] 48))
      have HA3' := Lib.hid (HA2.out.keep hN)
      have hl3 := HA3'.out.lt
      clear hN c0 c1 c2 c3 d0 d1 d2 d3 HK2 HA2 HN2
      have d0 : w3.cell? ⟨w.heap.size + 1, 0, none⟩ = some (.int .i64 ao) := (HA3'.out.cell 0).trans rfl
      have d1 : w3.cell? ⟨w.heap.size + 1, 1, none⟩ = some (.int .i64 at_) := (HA3'.out.cell 1).trans rfl
      have d2 : w3.cell? ⟨w.heap.size + 1, 2, none⟩ = some (.int .i64 ac) := (HA3'.out.cell 2).trans rfl
      have d3 : w3.cell? ⟨w.heap.size + 1, 3, none⟩ = some (.int .i64 av) := (HA3'.out.cell 3).trans rfl
      go_wp2_with fail
      with_reducible refine (HFa.out _).mono ?_
      rintro e w4 ⟨rfl, hN⟩
      have HX4 := Lib.hid (((Has.new w3 48 #[.int .i64 o, .int .i64 t, .int .i64 c]).keep hN).alloc (.cells #[.int .i64 ao, .int .i64 (at_), .int .i64 ac] 48))
      have HN4 := Lib.hid ((HN3.out.then_new hN).alloc (.cells #[.int .i64 ao, .int .i64 (at_), .int .i64 ac] 48))
      clear hN d0 d1 d2 d3 HA3 HA3' HN3
      obtain ⟨l, rfl⟩ : ∃ l : Nat, la = (l : Int) := ⟨la.toNat, by have := of_decide_eq_false q0; omega⟩
      have Hrk := Lib.hid (levI_pos HIk.out (by have := of_decide_eq_false q1; omega))
      have Hra := Lib.hid (levI_pos HIa.out (by omega))
      have Hla : Hid (lev ⟨ao, at_, ac, av⟩ = l) := by show _ = _; have := Hra.out.2; omega
      have Hlk : Hid (l ≤ lev ⟨o, t, c, v⟩) := by show _ ≤ _; have := Hrk.out.2; have := of_decide_eq_false q1; omega
      have Hv := Lib.hid (bne_eq_false_iff_eq.1 q2)
      have hl3 : l ≤ 3 := by omega
      clear q0 q1 q2 hra hrk
      go_wp2_with fail
      go_loopg [8] l (fun gk i wr => ∃ j : Nat, j ≤ l ∧ gk = l - j ∧ i = .int .i64 j ∧ (1 ≤ j → o = ao) ∧ (2 ≤ j → t = at_) ∧ (3 ≤ j → c = ac) ∧ Has wr w3.heap.size 48 #[.int .i64 o, .int .i64 t, .int .i64 c] ∧ Has wr w4.heap.size 48 #[.int .i64 ao, .int .i64 (at_), .int .i64 ac] ∧ New w wr)
      case atStart => exact ⟨0, by omega, by omega, rfl, by omega, by omega, by omega, HX4.out, Has.new _ _ _, HN4.out⟩
      case round =>
      clear HX4 HN4
      obtain ⟨j, hj, rfl, rfl, h1, h2, h3, hX, hY, hN⟩ := hrel
      by_cases hjl : j = l
      · subst hjl
        go_wp2_with fail
        go_ret
        refine ⟨?_, hN⟩
        rw [HB.out, (fromB_iff _ _).2 ⟨Hrk.out.1, Hra.out.1, by rw [Hla.out]; exact Hlk.out, Hv.out, by rw [Hla.out]; exact h1, by rw [Hla.out]; exact h2, by rw [Hla.out]; exact h3⟩]
        rfl
      rcases (show j = 0 ∨ j = 1 ∨ j = 2 by omega) with rfl | rfl | rfl
      · have HX := Lib.hid hX; clear hX
        have HY := Lib.hid hY; clear hY
        have HN := Lib.hid hN; clear hN
        have c0 : wr.cell? ⟨w3.heap.size, 0, none⟩ = some (.int .i64 o) := (HX.out.cell 0).trans rfl
        have c1 : wr.cell? ⟨w3.heap.size, 1, none⟩ = some (.int .i64 t) := (HX.out.cell 1).trans rfl
        have c2 : wr.cell? ⟨w3.heap.size, 2, none⟩ = some (.int .i64 c) := (HX.out.cell 2).trans rfl
        have d0 : wr.cell? ⟨w4.heap.size, 0, none⟩ = some (.int .i64 ao) := (HY.out.cell 0).trans rfl
        have d1 : wr.cell? ⟨w4.heap.size, 1, none⟩ = some (.int .i64 at_) := (HY.out.cell 1).trans rfl
        have d2 : wr.cell? ⟨w4.heap.size, 2, none⟩ = some (.int .i64 ac) := (HY.out.cell 2).trans rfl
        obtain ⟨b1, q1⟩ : ∃ b1, (o != ao) = b1 := ⟨_, rfl⟩
        cases b1 with
        | true =>
          go_wp2_with fail
          go_region
          go_wp2_with fail
          go_ret
          refine ⟨?_, HN.out.drew⟩
          rw [HB.out, fromB_not (fun h => by have h := h.2.2.2.2; rw [Hla.out] at h; simp only at h; have := bne_iff_ne.1 q1; omega)]
          rfl
        | false =>
          go_wp2_with fail
          go_region
          go_wp2_with fail
          go_roundg (l - 1)
          case measure => omega
          case rel => exact ⟨1, by omega, rfl, by go_num, by have := bne_eq_false_iff_eq.1 q1; omega, by have := bne_eq_false_iff_eq.1 q1; omega, by have := bne_eq_false_iff_eq.1 q1; omega, HX.out.drew, HY.out.drew, HN.out.drew⟩
      · have HX := Lib.hid hX; clear hX
        have HY := Lib.hid hY; clear hY
        have HN := Lib.hid hN; clear hN
        have c0 : wr.cell? ⟨w3.heap.size, 0, none⟩ = some (.int .i64 o) := (HX.out.cell 0).trans rfl
        have c1 : wr.cell? ⟨w3.heap.size, 1, none⟩ = some (.int .i64 t) := (HX.out.cell 1).trans rfl
        have c2 : wr.cell? ⟨w3.heap.size, 2, none⟩ = some (.int .i64 c) := (HX.out.cell 2).trans rfl
        have d0 : wr.cell? ⟨w4.heap.size, 0, none⟩ = some (.int .i64 ao) := (HY.out.cell 0).trans rfl
        have d1 : wr.cell? ⟨w4.heap.size, 1, none⟩ = some (.int .i64 at_) := (HY.out.cell 1).trans rfl
        have d2 : wr.cell? ⟨w4.heap.size, 2, none⟩ = some (.int .i64 ac) := (HY.out.cell 2).trans rfl
        obtain ⟨b1, q1⟩ : ∃ b1, (t != at_) = b1 := ⟨_, rfl⟩
        cases b1 with
        | true =>
          go_wp2_with fail
          go_region
          go_wp2_with fail
          go_ret
          refine ⟨?_, HN.out.drew⟩
          rw [HB.out, fromB_not (fun h => by have h := h.2.2.2.2; rw [Hla.out] at h; simp only at h; have := bne_iff_ne.1 q1; omega)]
          rfl
        | false =>
          go_wp2_with fail
          go_region
          go_wp2_with fail
          go_roundg (l - 2)
          case measure => omega
          case rel => exact ⟨2, by omega, rfl, by go_num, by have := bne_eq_false_iff_eq.1 q1; omega, by have := bne_eq_false_iff_eq.1 q1; omega, by have := bne_eq_false_iff_eq.1 q1; omega, HX.out.drew, HY.out.drew, HN.out.drew⟩
      · have HX := Lib.hid hX; clear hX
        have HY := Lib.hid hY; clear hY
        have HN := Lib.hid hN; clear hN
        have c0 : wr.cell? ⟨w3.heap.size, 0, none⟩ = some (.int .i64 o) := (HX.out.cell 0).trans rfl
        have c1 : wr.cell? ⟨w3.heap.size, 1, none⟩ = some (.int .i64 t) := (HX.out.cell 1).trans rfl
        have c2 : wr.cell? ⟨w3.heap.size, 2, none⟩ = some (.int .i64 c) := (HX.out.cell 2).trans rfl
        have d0 : wr.cell? ⟨w4.heap.size, 0, none⟩ = some (.int .i64 ao) := (HY.out.cell 0).trans rfl
        have d1 : wr.cell? ⟨w4.heap.size, 1, none⟩ = some (.int .i64 at_) := (HY.out.cell 1).trans rfl
        have d2 : wr.cell? ⟨w4.heap.size, 2, none⟩ = some (.int .i64 ac) := (HY.out.cell 2).trans rfl
        obtain ⟨b1, q1⟩ : ∃ b1, (c != ac) = b1 := ⟨_, rfl⟩
        cases b1 with
        | true =>
          go_wp2_with fail
          go_region
          go_wp2_with fail
          go_ret
          refine ⟨?_, HN.out.drew⟩
          rw [HB.out, fromB_not (fun h => by have h := h.2.2.2.2; rw [Hla.out] at h; simp only at h; have := bne_iff_ne.1 q1; omega)]
          rfl
        | false =>
          go_wp2_with fail
          go_region
          go_wp2_with fail
          go_roundg (l - 3)
          case measure => omega
          case rel => exact ⟨3, by omega, rfl, by go_num, by have := bne_eq_false_iff_eq.1 q1; omega, by have := bne_eq_false_iff_eq.1 q1; omega, by have := bne_eq_false_iff_eq.1 q1; omega, HX.out.drew, HY.out.drew, HN.out.drew⟩
theorem levI_is {k : Ky} {l : Nat} : levI k = (l : Int) ↔ (rightB k = true ∧ lev k = l) := by
  unfold levI
  split
  · next h => exact ⟨fun e => ⟨h, by omega⟩, fun e => by rw [e.2]⟩
  · next h => exact ⟨fun e => by omega, fun e => absurd e.1 h⟩
theorem derE_lev {k : Ky} {n : Nat} {p : Nat → Int} (h : rightB k = true) (hn : lev k + n ≤ 3) : derE k n p = if levI (derR k n p) = ((lev k + n : Nat) : Int) then 0 else 2 := by
  unfold derE
  rw [if_pos h, if_neg (by omega)]
  simp only [levI_is]
theorem derK_lev {k : Ky} {n : Nat} {p : Nat → Int} (h : rightB k = true) (hn : lev k + n ≤ 3) : derK k n p = if levI (derR k n p) = ((lev k + n : Nat) : Int) then derR k n p else kz := by
  unfold derK
  rw [derE_lev h hn]
  by_cases hq : levI (derR k n p) = ((lev k + n : Nat) : Int)
  · rw [if_pos hq, if_pos hq, if_pos rfl]
  · rw [if_neg hq, if_neg hq, if_neg (by decide)]
theorem der_ways {k : Ky} {n : Nat} {p : Nat → Int} (h : rightB k = true) (hn : lev k + n ≤ 3) : (levI (derR k n p) = ((lev k + n : Nat) : Int) → derK k n p = derR k n p ∧ derE k n p = 0) ∧ (¬ levI (derR k n p) = ((lev k + n : Nat) : Int) → derK k n p = kz ∧ derE k n p = 2) := by
  rw [derK_lev h hn, derE_lev h hn]
  exact ⟨fun q => by rw [if_pos q, if_pos q]; exact ⟨rfl, rfl⟩, fun q => by rw [if_neg q, if_neg q]; exact ⟨rfl, rfl⟩⟩
set_option maxRecDepth 100000 in
set_option maxHeartbeats 4000000 in
theorem rDerive_0 (k : Ky) (A : Option Addr) (n m : Nat) (p : Nat → Int) (F : Nat → Prop) (w : World) (hA : Arr w F A n (fun i => iV (p i))) (hF : ∀ k, F k → k < w.heap.size) (hn : n ≤ 1000000000000000000) (hb : rightB k = true) (hl : lev k = 0) (hnn : n ≤ 3) : Calls Try.prog 10 #[k.V, .slice A n m] w fun e w' => e = .returned (.tuple #[(derK k n p).V, .int .i64 (derE k n p)]) ∧ New w w' := by
  have hd := der_places k n p
  have HQ := Lib.hid (der_ways (p := p) hb (show lev k + n ≤ 3 by omega))
  obtain ⟨X, hX0⟩ : ∃ X, X = derK k n p := ⟨_, rfl⟩
  obtain ⟨E, hE0⟩ : ∃ E, E = derE k n p := ⟨_, rfl⟩
  rw [← hX0, ← hE0] at HQ ⊢
  clear hX0 hE0
  rw [hl] at HQ
  have HF := Lib.hid (Row_any k)
  have hdd : (n = 0 ∧ derR k n p = ⟨k.o, k.t, k.c, k.v⟩) ∨ (n = 1 ∧ derR k n p = ⟨(p 0), k.t, k.c, k.v⟩) ∨ (n = 2 ∧ derR k n p = ⟨(p 0), (p 1), k.c, k.v⟩) ∨ (n = 3 ∧ derR k n p = ⟨(p 0), (p 1), (p 2), k.v⟩) := by
    rw [hl] at hd
    rcases (show n = 0 ∨ n = 1 ∨ n = 2 ∨ n = 3 by omega) with rfl | rfl | rfl | rfl
    all_goals (rw [hd]; simp)
  clear hd
  have HA := Lib.hid hA; clear hA
  have Hdd := Lib.hid hdd; clear hdd
  have HLd := Lib.hid (rLevel_any (derR k n p))
  obtain ⟨ld, hld⟩ : ∃ x, x = levI (derR k n p) := ⟨_, rfl⟩
  rw [← hld] at HLd HQ
  clear hld
  obtain ⟨D, hD⟩ : ∃ D, D = derR k n p := ⟨_, rfl⟩
  rw [← hD] at HLd Hdd HQ
  clear hD
  have HL := Lib.hid (rLevel_any k)
  rw [levI_yes hb, hl] at HL
  change Hid (∀ w, Calls Try.prog 17 _ w fun e w' => e = .returned (.int .i64 (0)) ∧ New w w') at HL
  have HH : Hid True := trivial
  clear hb
  obtain ⟨o, t, c, v⟩ := k
  go_enter Try.func10, Try.ntmps10
  go_wp2_with fail
  with_reducible refine (HL.out _).mono ?_
  rintro e w1 ⟨rfl, hN⟩
  have HB := Lib.hid (((Has.new w 23 #[.int .i64 o, .int .i64 t, .int .i64 c, .int .i64 v]).alloc (.cells #[.int .i64 0, .int .i64 0, .int .i64 0, .int .i64 0] 23)).keep hN)
  have HR := Lib.hid ((Has.new_at (w.alloc (.cells #[.int .i64 o, .int .i64 t, .int .i64 c, .int .i64 v] 23)) 23 #[.int .i64 0, .int .i64 0, .int .i64 0, .int .i64 0] (w.heap.size + 1) (by simp)).keep hN)
  have HN := Lib.hid ((((Chg.refl (fun _ => False) w).alloc _).alloc _).then_new hN)
  clear hN
  clear hl
  have c0 : w1.cell? ⟨w.heap.size, 0, none⟩ = some (.int .i64 o) := (HB.out.cell 0).trans rfl
  have c1 : w1.cell? ⟨w.heap.size, 1, none⟩ = some (.int .i64 t) := (HB.out.cell 1).trans rfl
  have c2 : w1.cell? ⟨w.heap.size, 2, none⟩ = some (.int .i64 c) := (HB.out.cell 2).trans rfl
  have c3 : w1.cell? ⟨w.heap.size, 3, none⟩ = some (.int .i64 v) := (HB.out.cell 3).trans rfl
  go_wp2_with fail
  with_reducible refine (HF.out _).mono ?_
  rintro e w2 ⟨rfl, hN⟩
  have HB2 := Lib.hid ((HB.out.keep hN).alloc (.cells #[.int .i64 o, .int .i64 t, .int .i64 c] 48))
  have HR2 := Lib.hid ((HR.out.keep hN).alloc (.cells #[.int .i64 o, .int .i64 t, .int .i64 c] 48))
  have HN2 := Lib.hid ((HN.out.then_new hN).alloc (.cells #[.int .i64 o, .int .i64 t, .int .i64 c] 48))
  have Hlt := Lib.hid (HR.out.keep hN).lt
  clear hN c0 c1 c2 c3 HB HR HN
  go_wp2_with fail
  go_loopg [8] n (fun gk i wr => ∃ j : Nat, j ≤ n ∧ gk = n - j ∧ i = .int .i64 j ∧ ((j = 0 ∧ Has wr w2.heap.size 48 #[.int .i64 o, .int .i64 t, .int .i64 c]) ∨ (j = 1 ∧ Has wr w2.heap.size 48 #[.int .i64 ((p 0)), .int .i64 t, .int .i64 c]) ∨ (j = 2 ∧ Has wr w2.heap.size 48 #[.int .i64 ((p 0)), .int .i64 ((p 1)), .int .i64 c]) ∨ (j = 3 ∧ Has wr w2.heap.size 48 #[.int .i64 ((p 0)), .int .i64 ((p 1)), .int .i64 ((p 2))])) ∧ Has wr w.heap.size 23 #[.int .i64 o, .int .i64 t, .int .i64 c, .int .i64 v] ∧ Has wr (w.heap.size + 1) 23 #[.int .i64 0, .int .i64 0, .int .i64 0, .int .i64 0] ∧ New w wr)
  case atStart => exact ⟨0, by omega, by omega, rfl, Or.inl ⟨rfl, Has.new _ _ _⟩, HB2.out, HR2.out, HN2.out⟩
  case round =>
    clear HB2 HR2 HN2
    obtain ⟨j, hj, rfl, rfl, hX, hB, hR, hN⟩ := hrel
    have HX := Lib.hid hX; clear hX
    have HB := Lib.hid hB; clear hB
    have HR := Lib.hid hR; clear hR
    have HN := Lib.hid hN; clear hN
    by_cases hjn : j = n
    · subst hjn
      obtain ⟨D0, D1, D2, D3⟩ := D
      have HX2 : Hid (Has wr w2.heap.size 48 #[.int .i64 D0, .int .i64 D1, .int .i64 D2] ∧ D3 = v) := by
        rcases HX.out with ⟨e, hx⟩ | ⟨e, hx⟩ | ⟨e, hx⟩ | ⟨e, hx⟩ <;> rcases Hdd.out with ⟨e', hd⟩ | ⟨e', hd⟩ | ⟨e', hd⟩ | ⟨e', hd⟩ <;> first | (exfalso; omega) | (rw [Ky.mk.injEq] at hd; obtain ⟨rfl, rfl, rfl, rfl⟩ := hd; exact ⟨hx, rfl⟩)
      obtain rfl := HX2.out.2
      have HX3 := Lib.hid HX2.out.1
      clear HX2 HX
      have hlr := HR.out.lt
      have hlx := HX3.out.lt
      have x0 : wr.cell? ⟨w2.heap.size, 0, none⟩ = some (.int .i64 D0) := (HX3.out.cell 0).trans rfl
      have x1 : wr.cell? ⟨w2.heap.size, 1, none⟩ = some (.int .i64 D1) := (HX3.out.cell 1).trans rfl
      have x2 : wr.cell? ⟨w2.heap.size, 2, none⟩ = some (.int .i64 D2) := (HX3.out.cell 2).trans rfl
      have c0 : wr.cell? ⟨w.heap.size, 0, none⟩ = some (.int .i64 o) := (HB.out.cell 0).trans rfl
      have c1 : wr.cell? ⟨w.heap.size, 1, none⟩ = some (.int .i64 t) := (HB.out.cell 1).trans rfl
      have c2 : wr.cell? ⟨w.heap.size, 2, none⟩ = some (.int .i64 c) := (HB.out.cell 2).trans rfl
      have c3 : wr.cell? ⟨w.heap.size, 3, none⟩ = some (.int .i64 D3) := (HB.out.cell 3).trans rfl
      go_wp2_with fail
      with_reducible refine (HLd.out _).mono ?_
      rintro e w5 ⟨rfl, hN5⟩
      have HR5 := Lib.hid ((HR.out.alloc _).keep hN5)
      have HD5 := Lib.hid ((Has.new wr 23 #[.int .i64 D0, .int .i64 D1, .int .i64 D2, .int .i64 D3]).keep hN5)
      have HN5 := Lib.hid ((HN.out.alloc _).then_new hN5)
      clear hN5
      have d0 : w5.cell? ⟨wr.heap.size, 0, none⟩ = some (.int .i64 D0) := (HD5.out.cell 0).trans rfl
      have d1 : w5.cell? ⟨wr.heap.size, 1, none⟩ = some (.int .i64 D1) := (HD5.out.cell 1).trans rfl
      have d2 : w5.cell? ⟨wr.heap.size, 2, none⟩ = some (.int .i64 D2) := (HD5.out.cell 2).trans rfl
      have d3 : w5.cell? ⟨wr.heap.size, 3, none⟩ = some (.int .i64 D3) := (HD5.out.cell 3).trans rfl
      have r0 : w5.cell? ⟨w.heap.size + 1, 0, none⟩ = some (.int .i64 0) := (HR5.out.cell 0).trans rfl
      have r1 : w5.cell? ⟨w.heap.size + 1, 1, none⟩ = some (.int .i64 0) := (HR5.out.cell 1).trans rfl
      have r2 : w5.cell? ⟨w.heap.size + 1, 2, none⟩ = some (.int .i64 0) := (HR5.out.cell 2).trans rfl
      have r3 : w5.cell? ⟨w.heap.size + 1, 3, none⟩ = some (.int .i64 0) := (HR5.out.cell 3).trans rfl
      have z0 := HR5.out.free 0
      have z1 := HR5.out.free 1
      have z2 := HR5.out.free 2
      have z3 := HR5.out.free 3
      by_cases hq : ld = ((0 + j : Nat) : Int)
      · have HH := Lib.hid (HQ.out.1 hq)
        subst hq
        go_wp2_with fail
        obtain ⟨hX, hGX⟩ := setK HR5.out (.int .i64 D0) (.int .i64 D1) (.int .i64 D2) (.int .i64 D3)
        generalize ((((w5.setCell ⟨w.heap.size + 1, 0, none⟩ (.int .i64 D0)).setCell ⟨w.heap.size + 1, 1, none⟩ (.int .i64 D1)).setCell ⟨w.heap.size + 1, 2, none⟩ (.int .i64 D2)).setCell ⟨w.heap.size + 1, 3, none⟩ (.int .i64 D3)) = wX at hX hGX ⊢
        have g0 := (hX.cell 0).trans rfl
        have g1 := (hX.cell 1).trans rfl
        have g2 := (hX.cell 2).trans rfl
        have g3 := (hX.cell 3).trans rfl
        refine bodyPost_ret (v := .tuple #[.agg #[.int .i64 D0, .int .i64 D1, .int .i64 D2, .int .i64 D3], .int .i64 0]) (by simp [results, Try.results10, go_sem, g0, g1, g2, g3]) rfl ?_
        exact ⟨by first | rfl | (simp only [HH.out]; rfl) | simp [HH.out], New.set HN5.out hGX (by omega)⟩
      · have HH := Lib.hid (HQ.out.2 hq)
        have hq' : (ld != (0 + (j : Int))) = true := bne_iff_ne.2 (by omega)
        go_wp2_with fail
        obtain ⟨hX, hGX⟩ := setK HR5.out (.int .i64 0) (.int .i64 0) (.int .i64 0) (.int .i64 0)
        generalize ((((w5.setCell ⟨w.heap.size + 1, 0, none⟩ (.int .i64 0)).setCell ⟨w.heap.size + 1, 1, none⟩ (.int .i64 0)).setCell ⟨w.heap.size + 1, 2, none⟩ (.int .i64 0)).setCell ⟨w.heap.size + 1, 3, none⟩ (.int .i64 0)) = wX at hX hGX ⊢
        have g0 := (hX.cell 0).trans rfl
        have g1 := (hX.cell 1).trans rfl
        have g2 := (hX.cell 2).trans rfl
        have g3 := (hX.cell 3).trans rfl
        refine bodyPost_ret (v := .tuple #[.agg #[.int .i64 0, .int .i64 0, .int .i64 0, .int .i64 0], .int .i64 2]) (by simp [results, Try.results10, go_sem, g0, g1, g2, g3]) rfl ?_
        exact ⟨by first | rfl | (simp only [HH.out]; rfl) | simp [HH.out], New.set HN5.out hGX (by omega)⟩
    · obtain ⟨a, rfl, _, hc⟩ := (HA.out.new HN.out hF) j (by omega)
      simp only [iV] at hc
      have hlr := HR.out.lt
      have hlb := HB.out.lt
      rcases HX.out with ⟨rfl, hX⟩ | ⟨rfl, hX⟩ | ⟨rfl, hX⟩ | ⟨rfl, hX⟩
      · have HX1 := Lib.hid hX; clear hX HX
        simp [Addr.add] at hc
        have hlx := HX1.out.lt
        have x0 : wr.cell? ⟨w2.heap.size, 0, none⟩ = some (.int .i64 o) := (HX1.out.cell 0).trans rfl
        have x1 : wr.cell? ⟨w2.heap.size, 1, none⟩ = some (.int .i64 t) := (HX1.out.cell 1).trans rfl
        have x2 : wr.cell? ⟨w2.heap.size, 2, none⟩ = some (.int .i64 c) := (HX1.out.cell 2).trans rfl
        have y0 := HX1.out.free 0
        have y1 := HX1.out.free 1
        have y2 := HX1.out.free 2
        go_wp2_with fail
        have hX2 := HX1.out.set 0 (.int .i64 (p 0))
        have hG2 : Chg (· = w2.heap.size) wr (wr.setCell ⟨w2.heap.size, 0, none⟩ (.int .i64 (p 0))) := Chg.setCell (S := (· = w2.heap.size)) (Chg.refl _ _) (fun _ => rfl) _
        go_roundg (n - 1)
        case measure => omega
        case rel => exact ⟨1, by omega, rfl, by go_num, Or.inr (Or.inl ⟨rfl, hX2⟩), HB.out.chg hG2 (by have := Hlt.out; omega), HR.out.chg hG2 (by have := Hlt.out; omega), New.set HN.out hG2 (by have := Hlt.out; omega)⟩
      · have HX1 := Lib.hid hX; clear hX HX
        simp [Addr.add] at hc
        have hlx := HX1.out.lt
        have x0 : wr.cell? ⟨w2.heap.size, 0, none⟩ = some (.int .i64 (p 0)) := (HX1.out.cell 0).trans rfl
        have x1 : wr.cell? ⟨w2.heap.size, 1, none⟩ = some (.int .i64 t) := (HX1.out.cell 1).trans rfl
        have x2 : wr.cell? ⟨w2.heap.size, 2, none⟩ = some (.int .i64 c) := (HX1.out.cell 2).trans rfl
        have y0 := HX1.out.free 0
        have y1 := HX1.out.free 1
        have y2 := HX1.out.free 2
        go_wp2_with fail
        have hX2 := HX1.out.set 1 (.int .i64 (p 1))
        have hG2 : Chg (· = w2.heap.size) wr (wr.setCell ⟨w2.heap.size, 1, none⟩ (.int .i64 (p 1))) := Chg.setCell (S := (· = w2.heap.size)) (Chg.refl _ _) (fun _ => rfl) _
        go_roundg (n - 2)
        case measure => omega
        case rel => exact ⟨2, by omega, rfl, by go_num, Or.inr (Or.inr (Or.inl ⟨rfl, hX2⟩)), HB.out.chg hG2 (by have := Hlt.out; omega), HR.out.chg hG2 (by have := Hlt.out; omega), New.set HN.out hG2 (by have := Hlt.out; omega)⟩
      · have HX1 := Lib.hid hX; clear hX HX
        simp [Addr.add] at hc
        have hlx := HX1.out.lt
        have x0 : wr.cell? ⟨w2.heap.size, 0, none⟩ = some (.int .i64 (p 0)) := (HX1.out.cell 0).trans rfl
        have x1 : wr.cell? ⟨w2.heap.size, 1, none⟩ = some (.int .i64 (p 1)) := (HX1.out.cell 1).trans rfl
        have x2 : wr.cell? ⟨w2.heap.size, 2, none⟩ = some (.int .i64 c) := (HX1.out.cell 2).trans rfl
        have y0 := HX1.out.free 0
        have y1 := HX1.out.free 1
        have y2 := HX1.out.free 2
        go_wp2_with fail
        have hX2 := HX1.out.set 2 (.int .i64 (p 2))
        have hG2 : Chg (· = w2.heap.size) wr (wr.setCell ⟨w2.heap.size, 2, none⟩ (.int .i64 (p 2))) := Chg.setCell (S := (· = w2.heap.size)) (Chg.refl _ _) (fun _ => rfl) _
        go_roundg (n - 3)
        case measure => omega
        case rel => exact ⟨3, by omega, rfl, by go_num, Or.inr (Or.inr (Or.inr (⟨rfl, hX2⟩))), HB.out.chg hG2 (by have := Hlt.out; omega), HR.out.chg hG2 (by have := Hlt.out; omega), New.set HN.out hG2 (by have := Hlt.out; omega)⟩
      · exfalso; omega
set_option maxRecDepth 100000 in
set_option maxHeartbeats 4000000 in
theorem rDerive_1 (k : Ky) (A : Option Addr) (n m : Nat) (p : Nat → Int) (F : Nat → Prop) (w : World) (hA : Arr w F A n (fun i => iV (p i))) (hF : ∀ k, F k → k < w.heap.size) (hn : n ≤ 1000000000000000000) (hb : rightB k = true) (hl : lev k = 1) (hnn : n ≤ 2) : Calls Try.prog 10 #[k.V, .slice A n m] w fun e w' => e = .returned (.tuple #[(derK k n p).V, .int .i64 (derE k n p)]) ∧ New w w' := by
  have hd := der_places k n p
  have HQ := Lib.hid (der_ways (p := p) hb (show lev k + n ≤ 3 by omega))
  obtain ⟨X, hX0⟩ : ∃ X, X = derK k n p := ⟨_, rfl⟩
  obtain ⟨E, hE0⟩ : ∃ E, E = derE k n p := ⟨_, rfl⟩
  rw [← hX0, ← hE0] at HQ ⊢
  clear hX0 hE0
  rw [hl] at HQ
  have HF := Lib.hid (Row_any k)
  have hdd : (n = 0 ∧ derR k n p = ⟨k.o, k.t, k.c, k.v⟩) ∨ (n = 1 ∧ derR k n p = ⟨k.o, (p 0), k.c, k.v⟩) ∨ (n = 2 ∧ derR k n p = ⟨k.o, (p 0), (p 1), k.v⟩) := by
    rw [hl] at hd
    rcases (show n = 0 ∨ n = 1 ∨ n = 2 by omega) with rfl | rfl | rfl
    all_goals (rw [hd]; simp)
  clear hd
  have HA := Lib.hid hA; clear hA
  have Hdd := Lib.hid hdd; clear hdd
  have HLd := Lib.hid (rLevel_any (derR k n p))
  obtain ⟨ld, hld⟩ : ∃ x, x = levI (derR k n p) := ⟨_, rfl⟩
  rw [← hld] at HLd HQ
  clear hld
  obtain ⟨D, hD⟩ : ∃ D, D = derR k n p := ⟨_, rfl⟩
  rw [← hD] at HLd Hdd HQ
  clear hD
  have HL := Lib.hid (rLevel_any k)
  rw [levI_yes hb, hl] at HL
  change Hid (∀ w, Calls Try.prog 17 _ w fun e w' => e = .returned (.int .i64 (1)) ∧ New w w') at HL
  have HH : Hid True := trivial
  clear hb
  obtain ⟨o, t, c, v⟩ := k
  go_enter Try.func10, Try.ntmps10
  go_wp2_with fail
  with_reducible refine (HL.out _).mono ?_
  rintro e w1 ⟨rfl, hN⟩
  have HB := Lib.hid (((Has.new w 23 #[.int .i64 o, .int .i64 t, .int .i64 c, .int .i64 v]).alloc (.cells #[.int .i64 0, .int .i64 0, .int .i64 0, .int .i64 0] 23)).keep hN)
  have HR := Lib.hid ((Has.new_at (w.alloc (.cells #[.int .i64 o, .int .i64 t, .int .i64 c, .int .i64 v] 23)) 23 #[.int .i64 0, .int .i64 0, .int .i64 0, .int .i64 0] (w.heap.size + 1) (by simp)).keep hN)
  have HN := Lib.hid ((((Chg.refl (fun _ => False) w).alloc _).alloc _).then_new hN)
  clear hN
  clear hl
  have c0 : w1.cell? ⟨w.heap.size, 0, none⟩ = some (.int .i64 o) := (HB.out.cell 0).trans rfl
  have c1 : w1.cell? ⟨w.heap.size, 1, none⟩ = some (.int .i64 t) := (HB.out.cell 1).trans rfl
  have c2 : w1.cell? ⟨w.heap.size, 2, none⟩ = some (.int .i64 c) := (HB.out.cell 2).trans rfl
  have c3 : w1.cell? ⟨w.heap.size, 3, none⟩ = some (.int .i64 v) := (HB.out.cell 3).trans rfl
  go_wp2_with fail
  with_reducible refine (HF.out _).mono ?_
  rintro e w2 ⟨rfl, hN⟩
  have HB2 := Lib.hid ((HB.out.keep hN).alloc (.cells #[.int .i64 o, .int .i64 t, .int .i64 c] 48))
  have HR2 := Lib.hid ((HR.out.keep hN).alloc (.cells #[.int .i64 o, .int .i64 t, .int .i64 c] 48))
  have HN2 := Lib.hid ((HN.out.then_new hN).alloc (.cells #[.int .i64 o, .int .i64 t, .int .i64 c] 48))
  have Hlt := Lib.hid (HR.out.keep hN).lt
  clear hN c0 c1 c2 c3 HB HR HN
  go_wp2_with fail
  go_loopg [8] n (fun gk i wr => ∃ j : Nat, j ≤ n ∧ gk = n - j ∧ i = .int .i64 j ∧ ((j = 0 ∧ Has wr w2.heap.size 48 #[.int .i64 o, .int .i64 t, .int .i64 c]) ∨ (j = 1 ∧ Has wr w2.heap.size 48 #[.int .i64 o, .int .i64 ((p 0)), .int .i64 c]) ∨ (j = 2 ∧ Has wr w2.heap.size 48 #[.int .i64 o, .int .i64 ((p 0)), .int .i64 ((p 1))])) ∧ Has wr w.heap.size 23 #[.int .i64 o, .int .i64 t, .int .i64 c, .int .i64 v] ∧ Has wr (w.heap.size + 1) 23 #[.int .i64 0, .int .i64 0, .int .i64 0, .int .i64 0] ∧ New w wr)
  case atStart => exact ⟨0, by omega, by omega, rfl, Or.inl ⟨rfl, Has.new _ _ _⟩, HB2.out, HR2.out, HN2.out⟩
  case round =>
    clear HB2 HR2 HN2
    obtain ⟨j, hj, rfl, rfl, hX, hB, hR, hN⟩ := hrel
    have HX := Lib.hid hX; clear hX
    have HB := Lib.hid hB; clear hB
    have HR := Lib.hid hR; clear hR
    have HN := Lib.hid hN; clear hN
    by_cases hjn : j = n
    · subst hjn
      obtain ⟨D0, D1, D2, D3⟩ := D
      have HX2 : Hid (Has wr w2.heap.size 48 #[.int .i64 D0, .int .i64 D1, .int .i64 D2] ∧ D3 = v) := by
        rcases HX.out with ⟨e, hx⟩ | ⟨e, hx⟩ | ⟨e, hx⟩ <;> rcases Hdd.out with ⟨e', hd⟩ | ⟨e', hd⟩ | ⟨e', hd⟩ <;> first | (exfalso; omega) | (rw [Ky.mk.injEq] at hd; obtain ⟨rfl, rfl, rfl, rfl⟩ := hd; exact ⟨hx, rfl⟩)
      obtain rfl := HX2.out.2
      have HX3 := Lib.hid HX2.out.1
      clear HX2 HX
      have hlr := HR.out.lt
      have hlx := HX3.out.lt
      have x0 : wr.cell? ⟨w2.heap.size, 0, none⟩ = some (.int .i64 D0) := (HX3.out.cell 0).trans rfl
      have x1 : wr.cell? ⟨w2.heap.size, 1, none⟩ = some (.int .i64 D1) := (HX3.out.cell 1).trans rfl
      have x2 : wr.cell? ⟨w2.heap.size, 2, none⟩ = some (.int .i64 D2) := (HX3.out.cell 2).trans rfl
      have c0 : wr.cell? ⟨w.heap.size, 0, none⟩ = some (.int .i64 o) := (HB.out.cell 0).trans rfl
      have c1 : wr.cell? ⟨w.heap.size, 1, none⟩ = some (.int .i64 t) := (HB.out.cell 1).trans rfl
      have c2 : wr.cell? ⟨w.heap.size, 2, none⟩ = some (.int .i64 c) := (HB.out.cell 2).trans rfl
      have c3 : wr.cell? ⟨w.heap.size, 3, none⟩ = some (.int .i64 D3) := (HB.out.cell 3).trans rfl
      go_wp2_with fail
      with_reducible refine (HLd.out _).mono ?_
      rintro e w5 ⟨rfl, hN5⟩
      have HR5 := Lib.hid ((HR.out.alloc _).keep hN5)
      have HD5 := Lib.hid ((Has.new wr 23 #[.int .i64 D0, .int .i64 D1, .int .i64 D2, .int .i64 D3]).keep hN5)
      have HN5 := Lib.hid ((HN.out.alloc _).then_new hN5)
      clear hN5
      have d0 : w5.cell? ⟨wr.heap.size, 0, none⟩ = some (.int .i64 D0) := (HD5.out.cell 0).trans rfl
      have d1 : w5.cell? ⟨wr.heap.size, 1, none⟩ = some (.int .i64 D1) := (HD5.out.cell 1).trans rfl
      have d2 : w5.cell? ⟨wr.heap.size, 2, none⟩ = some (.int .i64 D2) := (HD5.out.cell 2).trans rfl
      have d3 : w5.cell? ⟨wr.heap.size, 3, none⟩ = some (.int .i64 D3) := (HD5.out.cell 3).trans rfl
      have r0 : w5.cell? ⟨w.heap.size + 1, 0, none⟩ = some (.int .i64 0) := (HR5.out.cell 0).trans rfl
      have r1 : w5.cell? ⟨w.heap.size + 1, 1, none⟩ = some (.int .i64 0) := (HR5.out.cell 1).trans rfl
      have r2 : w5.cell? ⟨w.heap.size + 1, 2, none⟩ = some (.int .i64 0) := (HR5.out.cell 2).trans rfl
      have r3 : w5.cell? ⟨w.heap.size + 1, 3, none⟩ = some (.int .i64 0) := (HR5.out.cell 3).trans rfl
      have z0 := HR5.out.free 0
      have z1 := HR5.out.free 1
      have z2 := HR5.out.free 2
      have z3 := HR5.out.free 3
      by_cases hq : ld = ((1 + j : Nat) : Int)
      · have HH := Lib.hid (HQ.out.1 hq)
        subst hq
        go_wp2_with fail
        obtain ⟨hX, hGX⟩ := setK HR5.out (.int .i64 D0) (.int .i64 D1) (.int .i64 D2) (.int .i64 D3)
        generalize ((((w5.setCell ⟨w.heap.size + 1, 0, none⟩ (.int .i64 D0)).setCell ⟨w.heap.size + 1, 1, none⟩ (.int .i64 D1)).setCell ⟨w.heap.size + 1, 2, none⟩ (.int .i64 D2)).setCell ⟨w.heap.size + 1, 3, none⟩ (.int .i64 D3)) = wX at hX hGX ⊢
        have g0 := (hX.cell 0).trans rfl
        have g1 := (hX.cell 1).trans rfl
        have g2 := (hX.cell 2).trans rfl
        have g3 := (hX.cell 3).trans rfl
        refine bodyPost_ret (v := .tuple #[.agg #[.int .i64 D0, .int .i64 D1, .int .i64 D2, .int .i64 D3], .int .i64 0]) (by simp [results, Try.results10, go_sem, g0, g1, g2, g3]) rfl ?_
        exact ⟨by first | rfl | (simp only [HH.out]; rfl) | simp [HH.out], New.set HN5.out hGX (by omega)⟩
      · have HH := Lib.hid (HQ.out.2 hq)
        have hq' : (ld != (1 + (j : Int))) = true := bne_iff_ne.2 (by omega)
        go_wp2_with fail
        obtain ⟨hX, hGX⟩ := setK HR5.out (.int .i64 0) (.int .i64 0) (.int .i64 0) (.int .i64 0)
        generalize ((((w5.setCell ⟨w.heap.size + 1, 0, none⟩ (.int .i64 0)).setCell ⟨w.heap.size + 1, 1, none⟩ (.int .i64 0)).setCell ⟨w.heap.size + 1, 2, none⟩ (.int .i64 0)).setCell ⟨w.heap.size + 1, 3, none⟩ (.int .i64 0)) = wX at hX hGX ⊢
        have g0 := (hX.cell 0).trans rfl
        have g1 := (hX.cell 1).trans rfl
        have g2 := (hX.cell 2).trans rfl
        have g3 := (hX.cell 3).trans rfl
        refine bodyPost_ret (v := .tuple #[.agg #[.int .i64 0, .int .i64 0, .int .i64 0, .int .i64 0], .int .i64 2]) (by simp [results, Try.results10, go_sem, g0, g1, g2, g3]) rfl ?_
        exact ⟨by first | rfl | (simp only [HH.out]; rfl) | simp [HH.out], New.set HN5.out hGX (by omega)⟩
    · obtain ⟨a, rfl, _, hc⟩ := (HA.out.new HN.out hF) j (by omega)
      simp only [iV] at hc
      have hlr := HR.out.lt
      have hlb := HB.out.lt
      rcases HX.out with ⟨rfl, hX⟩ | ⟨rfl, hX⟩ | ⟨rfl, hX⟩
      · have HX1 := Lib.hid hX; clear hX HX
        simp [Addr.add] at hc
        have hlx := HX1.out.lt
        have x0 : wr.cell? ⟨w2.heap.size, 0, none⟩ = some (.int .i64 o) := (HX1.out.cell 0).trans rfl
        have x1 : wr.cell? ⟨w2.heap.size, 1, none⟩ = some (.int .i64 t) := (HX1.out.cell 1).trans rfl
        have x2 : wr.cell? ⟨w2.heap.size, 2, none⟩ = some (.int .i64 c) := (HX1.out.cell 2).trans rfl
        have y0 := HX1.out.free 0
        have y1 := HX1.out.free 1
        have y2 := HX1.out.free 2
        go_wp2_with fail
        have hX2 := HX1.out.set 1 (.int .i64 (p 0))
        have hG2 : Chg (· = w2.heap.size) wr (wr.setCell ⟨w2.heap.size, 1, none⟩ (.int .i64 (p 0))) := Chg.setCell (S := (· = w2.heap.size)) (Chg.refl _ _) (fun _ => rfl) _
        go_roundg (n - 1)
        case measure => omega
        case rel => exact ⟨1, by omega, rfl, by go_num, Or.inr (Or.inl ⟨rfl, hX2⟩), HB.out.chg hG2 (by have := Hlt.out; omega), HR.out.chg hG2 (by have := Hlt.out; omega), New.set HN.out hG2 (by have := Hlt.out; omega)⟩
      · have HX1 := Lib.hid hX; clear hX HX
        simp [Addr.add] at hc
        have hlx := HX1.out.lt
        have x0 : wr.cell? ⟨w2.heap.size, 0, none⟩ = some (.int .i64 o) := (HX1.out.cell 0).trans rfl
        have x1 : wr.cell? ⟨w2.heap.size, 1, none⟩ = some (.int .i64 (p 0)) := (HX1.out.cell 1).trans rfl
        have x2 : wr.cell? ⟨w2.heap.size, 2, none⟩ = some (.int .i64 c) := (HX1.out.cell 2).trans rfl
        have y0 := HX1.out.free 0
        have y1 := HX1.out.free 1
        have y2 := HX1.out.free 2
        go_wp2_with fail
        have hX2 := HX1.out.set 2 (.int .i64 (p 1))
        have hG2 : Chg (· = w2.heap.size) wr (wr.setCell ⟨w2.heap.size, 2, none⟩ (.int .i64 (p 1))) := Chg.setCell (S := (· = w2.heap.size)) (Chg.refl _ _) (fun _ => rfl) _
        go_roundg (n - 2)
        case measure => omega
        case rel => exact ⟨2, by omega, rfl, by go_num, Or.inr (Or.inr (⟨rfl, hX2⟩)), HB.out.chg hG2 (by have := Hlt.out; omega), HR.out.chg hG2 (by have := Hlt.out; omega), New.set HN.out hG2 (by have := Hlt.out; omega)⟩
      · exfalso; omega
set_option maxRecDepth 100000 in
set_option maxHeartbeats 4000000 in
theorem rDerive_2 (k : Ky) (A : Option Addr) (n m : Nat) (p : Nat → Int) (F : Nat → Prop) (w : World) (hA : Arr w F A n (fun i => iV (p i))) (hF : ∀ k, F k → k < w.heap.size) (hn : n ≤ 1000000000000000000) (hb : rightB k = true) (hl : lev k = 2) (hnn : n ≤ 1) : Calls Try.prog 10 #[k.V, .slice A n m] w fun e w' => e = .returned (.tuple #[(derK k n p).V, .int .i64 (derE k n p)]) ∧ New w w' := by
  have hd := der_places k n p
  have HQ := Lib.hid (der_ways (p := p) hb (show lev k + n ≤ 3 by omega))
  obtain ⟨X, hX0⟩ : ∃ X, X = derK k n p := ⟨_, rfl⟩
  obtain ⟨E, hE0⟩ : ∃ E, E = derE k n p := ⟨_, rfl⟩
  rw [← hX0, ← hE0] at HQ ⊢
  clear hX0 hE0
  rw [hl] at HQ
  have HF := Lib.hid (Row_any k)
  have hdd : (n = 0 ∧ derR k n p = ⟨k.o, k.t, k.c, k.v⟩) ∨ (n = 1 ∧ derR k n p = ⟨k.o, k.t, (p 0), k.v⟩) := by
    rw [hl] at hd
    rcases (show n = 0 ∨ n = 1 by omega) with rfl | rfl
    all_goals (rw [hd]; simp)
  clear hd
  have HA := Lib.hid hA; clear hA
  have Hdd := Lib.hid hdd; clear hdd
  have HLd := Lib.hid (rLevel_any (derR k n p))
  obtain ⟨ld, hld⟩ : ∃ x, x = levI (derR k n p) := ⟨_, rfl⟩
  rw [← hld] at HLd HQ
  clear hld
  obtain ⟨D, hD⟩ : ∃ D, D = derR k n p := ⟨_, rfl⟩
  rw [← hD] at HLd Hdd HQ
  clear hD
  have HL := Lib.hid (rLevel_any k)
  rw [levI_yes hb, hl] at HL
  change Hid (∀ w, Calls Try.prog 17 _ w fun e w' => e = .returned (.int .i64 (2)) ∧ New w w') at HL
  have HH : Hid True := trivial
  clear hb
  obtain ⟨o, t, c, v⟩ := k
  go_enter Try.func10, Try.ntmps10
  go_wp2_with fail
  with_reducible refine (HL.out _).mono ?_
  rintro e w1 ⟨rfl, hN⟩
  have HB := Lib.hid (((Has.new w 23 #[.int .i64 o, .int .i64 t, .int .i64 c, .int .i64 v]).alloc (.cells #[.int .i64 0, .int .i64 0, .int .i64 0, .int .i64 0] 23)).keep hN)
  have HR := Lib.hid ((Has.new_at (w.alloc (.cells #[.int .i64 o, .int .i64 t, .int .i64 c, .int .i64 v] 23)) 23 #[.int .i64 0, .int .i64 0, .int .i64 0, .int .i64 0] (w.heap.size + 1) (by simp)).keep hN)
  have HN := Lib.hid ((((Chg.refl (fun _ => False) w).alloc _).alloc _).then_new hN)
  clear hN
  clear hl
  have c0 : w1.cell? ⟨w.heap.size, 0, none⟩ = some (.int .i64 o) := (HB.out.cell 0).trans rfl
  have c1 : w1.cell? ⟨w.heap.size, 1, none⟩ = some (.int .i64 t) := (HB.out.cell 1).trans rfl
  have c2 : w1.cell? ⟨w.heap.size, 2, none⟩ = some (.int .i64 c) := (HB.out.cell 2).trans rfl
  have c3 : w1.cell? ⟨w.heap.size, 3, none⟩ = some (.int .i64 v) := (HB.out.cell 3).trans rfl
  go_wp2_with fail
  with_reducible refine (HF.out _).mono ?_
  rintro e w2 ⟨rfl, hN⟩
  have HB2 := Lib.hid ((HB.out.keep hN).alloc (.cells #[.int .i64 o, .int .i64 t, .int .i64 c] 48))
  have HR2 := Lib.hid ((HR.out.keep hN).alloc (.cells #[.int .i64 o, .int .i64 t, .int .i64 c] 48))
  have HN2 := Lib.hid ((HN.out.then_new hN).alloc (.cells #[.int .i64 o, .int .i64 t, .int .i64 c] 48))
  have Hlt := Lib.hid (HR.out.keep hN).lt
  clear hN c0 c1 c2 c3 HB HR HN
  go_wp2_with fail
  go_loopg [8] n (fun gk i wr => ∃ j : Nat, j ≤ n ∧ gk = n - j ∧ i = .int .i64 j ∧ ((j = 0 ∧ Has wr w2.heap.size 48 #[.int .i64 o, .int .i64 t, .int .i64 c]) ∨ (j = 1 ∧ Has wr w2.heap.size 48 #[.int .i64 o, .int .i64 t, .int .i64 ((p 0))])) ∧ Has wr w.heap.size 23 #[.int .i64 o, .int .i64 t, .int .i64 c, .int .i64 v] ∧ Has wr (w.heap.size + 1) 23 #[.int .i64 0, .int .i64 0, .int .i64 0, .int .i64 0] ∧ New w wr)
  case atStart => exact ⟨0, by omega, by omega, rfl, Or.inl ⟨rfl, Has.new _ _ _⟩, HB2.out, HR2.out, HN2.out⟩
  case round =>
    clear HB2 HR2 HN2
    obtain ⟨j, hj, rfl, rfl, hX, hB, hR, hN⟩ := hrel
    have HX := Lib.hid hX; clear hX
    have HB := Lib.hid hB; clear hB
    have HR := Lib.hid hR; clear hR
    have HN := Lib.hid hN; clear hN
    by_cases hjn : j = n
    · subst hjn
      obtain ⟨D0, D1, D2, D3⟩ := D
      have HX2 : Hid (Has wr w2.heap.size 48 #[.int .i64 D0, .int .i64 D1, .int .i64 D2] ∧ D3 = v) := by
        rcases HX.out with ⟨e, hx⟩ | ⟨e, hx⟩ <;> rcases Hdd.out with ⟨e', hd⟩ | ⟨e', hd⟩ <;> first | (exfalso; omega) | (rw [Ky.mk.injEq] at hd; obtain ⟨rfl, rfl, rfl, rfl⟩ := hd; exact ⟨hx, rfl⟩)
      obtain rfl := HX2.out.2
      have HX3 := Lib.hid HX2.out.1
      clear HX2 HX
      have hlr := HR.out.lt
      have hlx := HX3.out.lt
      have x0 : wr.cell? ⟨w2.heap.size, 0, none⟩ = some (.int .i64 D0) := (HX3.out.cell 0).trans rfl
      have x1 : wr.cell? ⟨w2.heap.size, 1, none⟩ = some (.int .i64 D1) := (HX3.out.cell 1).trans rfl
      have x2 : wr.cell? ⟨w2.heap.size, 2, none⟩ = some (.int .i64 D2) := (HX3.out.cell 2).trans rfl
      have c0 : wr.cell? ⟨w.heap.size, 0, none⟩ = some (.int .i64 o) := (HB.out.cell 0).trans rfl
      have c1 : wr.cell? ⟨w.heap.size, 1, none⟩ = some (.int .i64 t) := (HB.out.cell 1).trans rfl
      have c2 : wr.cell? ⟨w.heap.size, 2, none⟩ = some (.int .i64 c) := (HB.out.cell 2).trans rfl
      have c3 : wr.cell? ⟨w.heap.size, 3, none⟩ = some (.int .i64 D3) := (HB.out.cell 3).trans rfl
      go_wp2_with fail
      with_reducible refine (HLd.out _).mono ?_
      rintro e w5 ⟨rfl, hN5⟩
      have HR5 := Lib.hid ((HR.out.alloc _).keep hN5)
      have HD5 := Lib.hid ((Has.new wr 23 #[.int .i64 D0, .int .i64 D1, .int .i64 D2, .int .i64 D3]).keep hN5)
      have HN5 := Lib.hid ((HN.out.alloc _).then_new hN5)
      clear hN5
      have d0 : w5.cell? ⟨wr.heap.size, 0, none⟩ = some (.int .i64 D0) := (HD5.out.cell 0).trans rfl
      have d1 : w5.cell? ⟨wr.heap.size, 1, none⟩ = some (.int .i64 D1) := (HD5.out.cell 1).trans rfl
      have d2 : w5.cell? ⟨wr.heap.size, 2, none⟩ = some (.int .i64 D2) := (HD5.out.cell 2).trans rfl
      have d3 : w5.cell? ⟨wr.heap.size, 3, none⟩ = some (.int .i64 D3) := (HD5.out.cell 3).trans rfl
      have r0 : w5.cell? ⟨w.heap.size + 1, 0, none⟩ = some (.int .i64 0) := (HR5.out.cell 0).trans rfl
      have r1 : w5.cell? ⟨w.heap.size + 1, 1, none⟩ = some (.int .i64 0) := (HR5.out.cell 1).trans rfl
      have r2 : w5.cell? ⟨w.heap.size + 1, 2, none⟩ = some (.int .i64 0) := (HR5.out.cell 2).trans rfl
      have r3 : w5.cell? ⟨w.heap.size + 1, 3, none⟩ = some (.int .i64 0) := (HR5.out.cell 3).trans rfl
      have z0 := HR5.out.free 0
      have z1 := HR5.out.free 1
      have z2 := HR5.out.free 2
      have z3 := HR5.out.free 3
      by_cases hq : ld = ((2 + j : Nat) : Int)
      · have HH := Lib.hid (HQ.out.1 hq)
        subst hq
        go_wp2_with fail
        obtain ⟨hX, hGX⟩ := setK HR5.out (.int .i64 D0) (.int .i64 D1) (.int .i64 D2) (.int .i64 D3)
        generalize ((((w5.setCell ⟨w.heap.size + 1, 0, none⟩ (.int .i64 D0)).setCell ⟨w.heap.size + 1, 1, none⟩ (.int .i64 D1)).setCell ⟨w.heap.size + 1, 2, none⟩ (.int .i64 D2)).setCell ⟨w.heap.size + 1, 3, none⟩ (.int .i64 D3)) = wX at hX hGX ⊢
        have g0 := (hX.cell 0).trans rfl
        have g1 := (hX.cell 1).trans rfl
        have g2 := (hX.cell 2).trans rfl
        have g3 := (hX.cell 3).trans rfl
        refine bodyPost_ret (v := .tuple #[.agg #[.int .i64 D0, .int .i64 D1, .int .i64 D2, .int .i64 D3], .int .i64 0]) (by simp [results, Try.results10, go_sem, g0, g1, g2, g3]) rfl ?_
        exact ⟨by first | rfl | (simp only [HH.out]; rfl) | simp [HH.out], New.set HN5.out hGX (by omega)⟩
      · have HH := Lib.hid (HQ.out.2 hq)
        have hq' : (ld != (2 + (j : Int))) = true := bne_iff_ne.2 (by omega)
        go_wp2_with fail
        obtain ⟨hX, hGX⟩ := setK HR5.out (.int .i64 0) (.int .i64 0) (.int .i64 0) (.int .i64 0)
        generalize ((((w5.setCell ⟨w.heap.size + 1, 0, none⟩ (.int .i64 0)).setCell ⟨w.heap.size + 1, 1, none⟩ (.int .i64 0)).setCell ⟨w.heap.size + 1, 2, none⟩ (.int .i64 0)).setCell ⟨w.heap.size + 1, 3, none⟩ (.int .i64 0)) = wX at hX hGX ⊢
        have g0 := (hX.cell 0).trans rfl
        have g1 := (hX.cell 1).trans rfl
        have g2 := (hX.cell 2).trans rfl
        have g3 := (hX.cell 3).trans rfl
        refine bodyPost_ret (v := .tuple #[.agg #[.int .i64 0, .int .i64 0, .int .i64 0, .int .i64 0], .int .i64 2]) (by simp [results, Try.results10, go_sem, g0, g1, g2, g3]) rfl ?_
        exact ⟨by first | rfl | (simp only [HH.out]; rfl) | simp [HH.out], New.set HN5.out hGX (by omega)⟩
    · obtain ⟨a, rfl, _, hc⟩ := (HA.out.new HN.out hF) j (by omega)
      simp only [iV] at hc
      have hlr := HR.out.lt
      have hlb := HB.out.lt
      rcases HX.out with ⟨rfl, hX⟩ | ⟨rfl, hX⟩
      · have HX1 := Lib.hid hX; clear hX HX
        simp [Addr.add] at hc
        have hlx := HX1.out.lt
        have x0 : wr.cell? ⟨w2.heap.size, 0, none⟩ = some (.int .i64 o) := (HX1.out.cell 0).trans rfl
        have x1 : wr.cell? ⟨w2.heap.size, 1, none⟩ = some (.int .i64 t) := (HX1.out.cell 1).trans rfl
        have x2 : wr.cell? ⟨w2.heap.size, 2, none⟩ = some (.int .i64 c) := (HX1.out.cell 2).trans rfl
        have y0 := HX1.out.free 0
        have y1 := HX1.out.free 1
        have y2 := HX1.out.free 2
        go_wp2_with fail
        have hX2 := HX1.out.set 2 (.int .i64 (p 0))
        have hG2 : Chg (· = w2.heap.size) wr (wr.setCell ⟨w2.heap.size, 2, none⟩ (.int .i64 (p 0))) := Chg.setCell (S := (· = w2.heap.size)) (Chg.refl _ _) (fun _ => rfl) _
        go_roundg (n - 1)
        case measure => omega
        case rel => exact ⟨1, by omega, rfl, by go_num, Or.inr (⟨rfl, hX2⟩), HB.out.chg hG2 (by have := Hlt.out; omega), HR.out.chg hG2 (by have := Hlt.out; omega), New.set HN.out hG2 (by have := Hlt.out; omega)⟩
      · exfalso; omega
set_option maxRecDepth 100000 in
set_option maxHeartbeats 4000000 in
theorem rDerive_3 (k : Ky) (A : Option Addr) (n m : Nat) (p : Nat → Int) (F : Nat → Prop) (w : World) (hA : Arr w F A n (fun i => iV (p i))) (hF : ∀ k, F k → k < w.heap.size) (hn : n ≤ 1000000000000000000) (hb : rightB k = true) (hl : lev k = 3) (hnn : n ≤ 0) : Calls Try.prog 10 #[k.V, .slice A n m] w fun e w' => e = .returned (.tuple #[(derK k n p).V, .int .i64 (derE k n p)]) ∧ New w w' := by
  have hd := der_places k n p
  have HQ := Lib.hid (der_ways (p := p) hb (show lev k + n ≤ 3 by omega))
  obtain ⟨X, hX0⟩ : ∃ X, X = derK k n p := ⟨_, rfl⟩
  obtain ⟨E, hE0⟩ : ∃ E, E = derE k n p := ⟨_, rfl⟩
  rw [← hX0, ← hE0] at HQ ⊢
  clear hX0 hE0
  rw [hl] at HQ
  have HF := Lib.hid (Row_any k)
  have hdd : (n = 0 ∧ derR k n p = ⟨k.o, k.t, k.c, k.v⟩) := by
    rw [hl] at hd
    rcases (show n = 0 by omega) with rfl
    all_goals (rw [hd]; simp)
  clear hd
  have HA := Lib.hid hA; clear hA
  have Hdd := Lib.hid hdd; clear hdd
  have HLd := Lib.hid (rLevel_any (derR k n p))
  obtain ⟨ld, hld⟩ : ∃ x, x = levI (derR k n p) := ⟨_, rfl⟩
  rw [← hld] at HLd HQ
  clear hld
  obtain ⟨D, hD⟩ : ∃ D, D = derR k n p := ⟨_, rfl⟩
  rw [← hD] at HLd Hdd HQ
  clear hD
  have HL := Lib.hid (rLevel_any k)
  rw [levI_yes hb, hl] at HL
  change Hid (∀ w, Calls Try.prog 17 _ w fun e w' => e = .returned (.int .i64 (3)) ∧ New w w') at HL
  have HH : Hid True := trivial
  clear hb
  obtain ⟨o, t, c, v⟩ := k
  go_enter Try.func10, Try.ntmps10
  go_wp2_with fail
  with_reducible refine (HL.out _).mono ?_
  rintro e w1 ⟨rfl, hN⟩
  have HB := Lib.hid (((Has.new w 23 #[.int .i64 o, .int .i64 t, .int .i64 c, .int .i64 v]).alloc (.cells #[.int .i64 0, .int .i64 0, .int .i64 0, .int .i64 0] 23)).keep hN)
  have HR := Lib.hid ((Has.new_at (w.alloc (.cells #[.int .i64 o, .int .i64 t, .int .i64 c, .int .i64 v] 23)) 23 #[.int .i64 0, .int .i64 0, .int .i64 0, .int .i64 0] (w.heap.size + 1) (by simp)).keep hN)
  have HN := Lib.hid ((((Chg.refl (fun _ => False) w).alloc _).alloc _).then_new hN)
  clear hN
  clear hl
  have c0 : w1.cell? ⟨w.heap.size, 0, none⟩ = some (.int .i64 o) := (HB.out.cell 0).trans rfl
  have c1 : w1.cell? ⟨w.heap.size, 1, none⟩ = some (.int .i64 t) := (HB.out.cell 1).trans rfl
  have c2 : w1.cell? ⟨w.heap.size, 2, none⟩ = some (.int .i64 c) := (HB.out.cell 2).trans rfl
  have c3 : w1.cell? ⟨w.heap.size, 3, none⟩ = some (.int .i64 v) := (HB.out.cell 3).trans rfl
  go_wp2_with fail
  with_reducible refine (HF.out _).mono ?_
  rintro e w2 ⟨rfl, hN⟩
  have HB2 := Lib.hid ((HB.out.keep hN).alloc (.cells #[.int .i64 o, .int .i64 t, .int .i64 c] 48))
  have HR2 := Lib.hid ((HR.out.keep hN).alloc (.cells #[.int .i64 o, .int .i64 t, .int .i64 c] 48))
  have HN2 := Lib.hid ((HN.out.then_new hN).alloc (.cells #[.int .i64 o, .int .i64 t, .int .i64 c] 48))
  have Hlt := Lib.hid (HR.out.keep hN).lt
  clear hN c0 c1 c2 c3 HB HR HN
  go_wp2_with fail
  go_loopg [8] n (fun gk i wr => ∃ j : Nat, j ≤ n ∧ gk = n - j ∧ i = .int .i64 j ∧ ((j = 0 ∧ Has wr w2.heap.size 48 #[.int .i64 o, .int .i64 t, .int .i64 c])) ∧ Has wr w.heap.size 23 #[.int .i64 o, .int .i64 t, .int .i64 c, .int .i64 v] ∧ Has wr (w.heap.size + 1) 23 #[.int .i64 0, .int .i64 0, .int .i64 0, .int .i64 0] ∧ New w wr)
  case atStart => exact ⟨0, by omega, by omega, rfl, ⟨rfl, Has.new _ _ _⟩, HB2.out, HR2.out, HN2.out⟩
  case round =>
    clear HB2 HR2 HN2
    obtain ⟨j, hj, rfl, rfl, hX, hB, hR, hN⟩ := hrel
    have HX := Lib.hid hX; clear hX
    have HB := Lib.hid hB; clear hB
    have HR := Lib.hid hR; clear hR
    have HN := Lib.hid hN; clear hN
    by_cases hjn : j = n
    · subst hjn
      obtain ⟨D0, D1, D2, D3⟩ := D
      have HX2 : Hid (Has wr w2.heap.size 48 #[.int .i64 D0, .int .i64 D1, .int .i64 D2] ∧ D3 = v) := by
        rcases HX.out with ⟨e, hx⟩ <;> rcases Hdd.out with ⟨e', hd⟩ <;> first | (exfalso; omega) | (rw [Ky.mk.injEq] at hd; obtain ⟨rfl, rfl, rfl, rfl⟩ := hd; exact ⟨hx, rfl⟩)
      obtain rfl := HX2.out.2
      have HX3 := Lib.hid HX2.out.1
      clear HX2 HX
      have hlr := HR.out.lt
      have hlx := HX3.out.lt
      have x0 : wr.cell? ⟨w2.heap.size, 0, none⟩ = some (.int .i64 D0) := (HX3.out.cell 0).trans rfl
      have x1 : wr.cell? ⟨w2.heap.size, 1, none⟩ = some (.int .i64 D1) := (HX3.out.cell 1).trans rfl
      have x2 : wr.cell? ⟨w2.heap.size, 2, none⟩ = some (.int .i64 D2) := (HX3.out.cell 2).trans rfl
      have c0 : wr.cell? ⟨w.heap.size, 0, none⟩ = some (.int .i64 o) := (HB.out.cell 0).trans rfl
      have c1 : wr.cell? ⟨w.heap.size, 1, none⟩ = some (.int .i64 t) := (HB.out.cell 1).trans rfl
      have c2 : wr.cell? ⟨w.heap.size, 2, none⟩ = some (.int .i64 c) := (HB.out.cell 2).trans rfl
      have c3 : wr.cell? ⟨w.heap.size, 3, none⟩ = some (.int .i64 D3) := (HB.out.cell 3).trans rfl
      go_wp2_with fail
      with_reducible refine (HLd.out _).mono ?_
      rintro e w5 ⟨rfl, hN5⟩
      have HR5 := Lib.hid ((HR.out.alloc _).keep hN5)
      have HD5 := Lib.hid ((Has.new wr 23 #[.int .i64 D0, .int .i64 D1, .int .i64 D2, .int .i64 D3]).keep hN5)
      have HN5 := Lib.hid ((HN.out.alloc _).then_new hN5)
      clear hN5
      have d0 : w5.cell? ⟨wr.heap.size, 0, none⟩ = some (.int .i64 D0) := (HD5.out.cell 0).trans rfl
      have d1 : w5.cell? ⟨wr.heap.size, 1, none⟩ = some (.int .i64 D1) := (HD5.out.cell 1).trans rfl
      have d2 : w5.cell? ⟨wr.heap.size, 2, none⟩ = some (.int .i64 D2) := (HD5.out.cell 2).trans rfl
      have d3 : w5.cell? ⟨wr.heap.size, 3, none⟩ = some (.int .i64 D3) := (HD5.out.cell 3).trans rfl
      have r0 : w5.cell? ⟨w.heap.size + 1, 0, none⟩ = some (.int .i64 0) := (HR5.out.cell 0).trans rfl
      have r1 : w5.cell? ⟨w.heap.size + 1, 1, none⟩ = some (.int .i64 0) := (HR5.out.cell 1).trans rfl
      have r2 : w5.cell? ⟨w.heap.size + 1, 2, none⟩ = some (.int .i64 0) := (HR5.out.cell 2).trans rfl
      have r3 : w5.cell? ⟨w.heap.size + 1, 3, none⟩ = some (.int .i64 0) := (HR5.out.cell 3).trans rfl
      have z0 := HR5.out.free 0
      have z1 := HR5.out.free 1
      have z2 := HR5.out.free 2
      have z3 := HR5.out.free 3
      by_cases hq : ld = ((3 + j : Nat) : Int)
      · have HH := Lib.hid (HQ.out.1 hq)
        subst hq
        go_wp2_with fail
        obtain ⟨hX, hGX⟩ := setK HR5.out (.int .i64 D0) (.int .i64 D1) (.int .i64 D2) (.int .i64 D3)
        generalize ((((w5.setCell ⟨w.heap.size + 1, 0, none⟩ (.int .i64 D0)).setCell ⟨w.heap.size + 1, 1, none⟩ (.int .i64 D1)).setCell ⟨w.heap.size + 1, 2, none⟩ (.int .i64 D2)).setCell ⟨w.heap.size + 1, 3, none⟩ (.int .i64 D3)) = wX at hX hGX ⊢
        have g0 := (hX.cell 0).trans rfl
        have g1 := (hX.cell 1).trans rfl
        have g2 := (hX.cell 2).trans rfl
        have g3 := (hX.cell 3).trans rfl
        refine bodyPost_ret (v := .tuple #[.agg #[.int .i64 D0, .int .i64 D1, .int .i64 D2, .int .i64 D3], .int .i64 0]) (by simp [results, Try.results10, go_sem, g0, g1, g2, g3]) rfl ?_
        exact ⟨by first | rfl | (simp only [HH.out]; rfl) | simp [HH.out], New.set HN5.out hGX (by omega)⟩
      · have HH := Lib.hid (HQ.out.2 hq)
        have hq' : (ld != (3 + (j : Int))) = true := bne_iff_ne.2 (by omega)
        go_wp2_with fail
        obtain ⟨hX, hGX⟩ := setK HR5.out (.int .i64 0) (.int .i64 0) (.int .i64 0) (.int .i64 0)
        generalize ((((w5.setCell ⟨w.heap.size + 1, 0, none⟩ (.int .i64 0)).setCell ⟨w.heap.size + 1, 1, none⟩ (.int .i64 0)).setCell ⟨w.heap.size + 1, 2, none⟩ (.int .i64 0)).setCell ⟨w.heap.size + 1, 3, none⟩ (.int .i64 0)) = wX at hX hGX ⊢
        have g0 := (hX.cell 0).trans rfl
        have g1 := (hX.cell 1).trans rfl
        have g2 := (hX.cell 2).trans rfl
        have g3 := (hX.cell 3).trans rfl
        refine bodyPost_ret (v := .tuple #[.agg #[.int .i64 0, .int .i64 0, .int .i64 0, .int .i64 0], .int .i64 2]) (by simp [results, Try.results10, go_sem, g0, g1, g2, g3]) rfl ?_
        exact ⟨by first | rfl | (simp only [HH.out]; rfl) | simp [HH.out], New.set HN5.out hGX (by omega)⟩
    · obtain ⟨a, rfl, _, hc⟩ := (HA.out.new HN.out hF) j (by omega)
      simp only [iV] at hc
      have hlr := HR.out.lt
      have hlb := HB.out.lt
      omega
set_option maxRecDepth 100000 in
set_option maxHeartbeats 1000000 in
theorem rDerive_any (k : Ky) (A : Option Addr) (n m : Nat) (p : Nat → Int) (F : Nat → Prop) (w : World) (hA : Arr w F A n (fun i => iV (p i))) (hF : ∀ k, F k → k < w.heap.size) (hn : n ≤ 1000000000000000000) : Calls Try.prog 10 #[k.V, .slice A n m] w fun e w' => e = .returned (.tuple #[(derK k n p).V, .int .i64 (derE k n p)]) ∧ New w w' := by
  obtain ⟨b, hb⟩ : ∃ b, rightB k = b := ⟨_, rfl⟩
  cases b with
  | false =>
    rw [derK_bad (derE_no n p hb) (by decide), derE_no n p hb]
    have HL := Lib.hid (rLevel_any k)
    rw [levI_no hb] at HL
    change Hid (∀ w, Calls Try.prog 17 _ w fun e w' => e = .returned (.int .i64 (-1)) ∧ New w w') at HL
    have HH : Hid True := trivial
    clear hb
    obtain ⟨o, t, c, v⟩ := k
    go_enter Try.func10, Try.ntmps10
    go_wp2_with fail
    with_reducible refine (HL.out _).mono ?_
    rintro e w1 ⟨rfl, hN⟩
    have HB := Lib.hid (((Has.new w 23 #[.int .i64 o, .int .i64 t, .int .i64 c, .int .i64 v]).alloc (.cells #[.int .i64 0, .int .i64 0, .int .i64 0, .int .i64 0] 23)).keep hN)
    have HR := Lib.hid ((Has.new_at (w.alloc (.cells #[.int .i64 o, .int .i64 t, .int .i64 c, .int .i64 v] 23)) 23 #[.int .i64 0, .int .i64 0, .int .i64 0, .int .i64 0] (w.heap.size + 1) (by simp)).keep hN)
    have HN := Lib.hid ((((Chg.refl (fun _ => False) w).alloc _).alloc _).then_new hN)
    clear hN
    have r0 : w1.cell? ⟨w.heap.size + 1, 0, none⟩ = some (.int .i64 0) := (HR.out.cell 0).trans rfl
    have r1 : w1.cell? ⟨w.heap.size + 1, 1, none⟩ = some (.int .i64 0) := (HR.out.cell 1).trans rfl
    have r2 : w1.cell? ⟨w.heap.size + 1, 2, none⟩ = some (.int .i64 0) := (HR.out.cell 2).trans rfl
    have r3 : w1.cell? ⟨w.heap.size + 1, 3, none⟩ = some (.int .i64 0) := (HR.out.cell 3).trans rfl
    have z0 := HR.out.free 0
    have z1 := HR.out.free 1
    have z2 := HR.out.free 2
    have z3 := HR.out.free 3
    go_wp2_with fail
    obtain ⟨hX, hGX⟩ := setK HR.out (.int .i64 0) (.int .i64 0) (.int .i64 0) (.int .i64 0)
    generalize ((((w1.setCell ⟨w.heap.size + 1, 0, none⟩ (.int .i64 0)).setCell ⟨w.heap.size + 1, 1, none⟩ (.int .i64 0)).setCell ⟨w.heap.size + 1, 2, none⟩ (.int .i64 0)).setCell ⟨w.heap.size + 1, 3, none⟩ (.int .i64 0)) = wX at hX hGX ⊢
    have g0 := (hX.cell 0).trans rfl
    have g1 := (hX.cell 1).trans rfl
    have g2 := (hX.cell 2).trans rfl
    have g3 := (hX.cell 3).trans rfl
    refine bodyPost_ret (v := .tuple #[.agg #[.int .i64 0, .int .i64 0, .int .i64 0, .int .i64 0], .int .i64 2]) (by simp [results, Try.results10, go_sem, g0, g1, g2, g3]) rfl ?_
    exact ⟨by first | rfl | (simp only [HH.out]; rfl) | simp [HH.out], New.set HN.out hGX (by omega)⟩
  | true =>
    have hle := lev_le k
    by_cases hnn : 3 < lev k + n
    · rw [derK_bad (derE_nest p hb hnn) (by decide), derE_nest p hb hnn]
      have HL := Lib.hid (rLevel_any k)
      rw [levI_yes hb] at HL
      generalize lev k = l at HL hnn hle
      have HH : Hid True := trivial
      clear hb
      obtain ⟨o, t, c, v⟩ := k
      go_enter Try.func10, Try.ntmps10
      go_wp2_with fail
      with_reducible refine (HL.out _).mono ?_
      rintro e w1 ⟨rfl, hN⟩
      have HB := Lib.hid (((Has.new w 23 #[.int .i64 o, .int .i64 t, .int .i64 c, .int .i64 v]).alloc (.cells #[.int .i64 0, .int .i64 0, .int .i64 0, .int .i64 0] 23)).keep hN)
      have HR := Lib.hid ((Has.new_at (w.alloc (.cells #[.int .i64 o, .int .i64 t, .int .i64 c, .int .i64 v] 23)) 23 #[.int .i64 0, .int .i64 0, .int .i64 0, .int .i64 0] (w.heap.size + 1) (by simp)).keep hN)
      have HN := Lib.hid ((((Chg.refl (fun _ => False) w).alloc _).alloc _).then_new hN)
      clear hN
      have r0 : w1.cell? ⟨w.heap.size + 1, 0, none⟩ = some (.int .i64 0) := (HR.out.cell 0).trans rfl
      have r1 : w1.cell? ⟨w.heap.size + 1, 1, none⟩ = some (.int .i64 0) := (HR.out.cell 1).trans rfl
      have r2 : w1.cell? ⟨w.heap.size + 1, 2, none⟩ = some (.int .i64 0) := (HR.out.cell 2).trans rfl
      have r3 : w1.cell? ⟨w.heap.size + 1, 3, none⟩ = some (.int .i64 0) := (HR.out.cell 3).trans rfl
      have z0 := HR.out.free 0
      have z1 := HR.out.free 1
      have z2 := HR.out.free 2
      have z3 := HR.out.free 3
      go_wp2_with fail
      obtain ⟨hX, hGX⟩ := setK HR.out (.int .i64 0) (.int .i64 0) (.int .i64 0) (.int .i64 0)
      generalize ((((w1.setCell ⟨w.heap.size + 1, 0, none⟩ (.int .i64 0)).setCell ⟨w.heap.size + 1, 1, none⟩ (.int .i64 0)).setCell ⟨w.heap.size + 1, 2, none⟩ (.int .i64 0)).setCell ⟨w.heap.size + 1, 3, none⟩ (.int .i64 0)) = wX at hX hGX ⊢
      have g0 := (hX.cell 0).trans rfl
      have g1 := (hX.cell 1).trans rfl
      have g2 := (hX.cell 2).trans rfl
      have g3 := (hX.cell 3).trans rfl
      refine bodyPost_ret (v := .tuple #[.agg #[.int .i64 0, .int .i64 0, .int .i64 0, .int .i64 0], .int .i64 15]) (by simp [results, Try.results10, go_sem, g0, g1, g2, g3]) rfl ?_
      exact ⟨by first | rfl | (simp only [HH.out]; rfl) | simp [HH.out], New.set HN.out hGX (by omega)⟩
    · rcases lev_parts k with hl | hl | hl | hl
      · exact rDerive_0 k A n m p F w hA hF hn hb hl (by omega)
      · exact rDerive_1 k A n m p F w hA hF hn hb hl (by omega)
      · exact rDerive_2 k A n m p F w hA hF hn hb hl (by omega)
      · exact rDerive_3 k A n m p F w hA hF hn hb hl (by omega)
end Go.Proofs.Ytkegafkmcdkphaa
