/-
  The law KeysApart, walked.
-/
import Derived.Test.YtkegafkmcdkphaaKyW
import Derived.Test.YtkegafkmcdkphaaKyT
import Derived.Deep.RegionHeldLaw
namespace Go.Proofs.Ytkegafkmcdkphaa
open Go.RowKit
theorem From_one (k a : Ky) (g m : Nat) (w : World) (h : Has w g 23 #[.int .i64 a.o, .int .i64 a.t, .int .i64 a.c, .int .i64 a.v]) :
    Calls Try.prog 18 #[k.V, .slice (some ⟨g, 0, none⟩) 1 m] w fun e w' => e = .returned (.bool (fromB k a)) ∧ New w w' := by
  have hh := From_any k _ 1 m _ _ w (Kys.one (k := a) h) (fun x hx => by rw [hx]; exact h.lt) (by omega)
  rw [frB_one] at hh
  exact hh
theorem From_none (k : Ky) (w : World) : Calls Try.prog 18 #[k.V, .slice none 0 0] w fun e w' => e = .returned (.bool (rightB k)) ∧ New w w' := by
  have hh := From_any k none 0 0 (fun _ => kz) (fun _ => False) w (fun j hj => by omega) (fun _ hx => hx.elim) (by omega)
  have e : frB k 0 (fun _ => kz) = rightB k := by
    cases hb : rightB k with
    | true => exact frB_yes ⟨rightB_yes hb, fun j hj => by omega⟩
    | false => exact frB_no fun h => by have := rightB_of h.1; rw [hb] at this; cases this
  rw [e] at hh
  exact hh
theorem ap_lev {a b : Ky} (h : fromB a b = true) : decide (levI a < levI b) = false := by
  have h' := (fromB_iff _ _).1 h
  rw [levI_yes (rightB_of h'.1), levI_yes (rightB_of h'.2.1)]
  have := h'.2.2.1
  exact decide_eq_false (by omega)
theorem ap_back {a b : Ky} (h : fromB a b = true) (hne : ¬ (a.o = b.o ∧ a.t = b.t ∧ a.c = b.c ∧ a.v = b.v)) : fromB b a = false := fromB_not fun hb => by
  have h' := (fromB_iff _ _).1 h
  exact hne (from_same h' (by have := h'.2.2.1; have := hb.2.2.1; omega))
theorem ap_roll {a : Ky} (h : rightB a = true) (hv : a.v ≠ 255) : rightB ⟨a.o, a.t, a.c, a.v + 1⟩ = true ∧ levI ⟨a.o, a.t, a.c, a.v + 1⟩ = levI a := by
  have hr := rightB_yes h
  have hr' : KRight ⟨a.o, a.t, a.c, a.v + 1⟩ := by unfold KRight at hr ⊢; simp only; omega
  exact ⟨rightB_of hr', by rw [levI_yes (rightB_of hr'), levI_yes h]; rfl⟩
theorem ap_roll_no {a b : Ky} (h : fromB a b = true) : fromB ⟨a.o, a.t, a.c, a.v + 1⟩ b = false := fromB_not fun hb => by
  have h' := (fromB_iff _ _).1 h
  have h1 := h'.2.2.2.1
  have h2 := hb.2.2.2.1
  simp only at h2
  omega
theorem rol_fine {k : Ky} (h : rightB k = true) (hv : k.v ≠ 255) : rolK k = ⟨k.o, k.t, k.c, k.v + 1⟩ ∧ rolE k = 0 := by unfold rolK rolE; rw [if_pos h, if_pos h, if_neg hv, if_neg hv]; exact ⟨rfl, rfl⟩
theorem rol_last {k : Ky} (h : rightB k = true) (hv : k.v = 255) : rolK k = kz ∧ rolE k = 29 := by unfold rolK rolE; rw [if_pos h, if_pos h, if_pos hv, if_pos hv]; exact ⟨rfl, rfl⟩
set_option maxRecDepth 100000 in
set_option maxHeartbeats 4000000 in
theorem apart_walk (a : Ky) (_ha : I64 a.o ∧ I64 a.t ∧ I64 a.c ∧ I64 a.v) (b : Ky) (_hb : I64 b.o ∧ I64 b.t ∧ I64 b.c ∧ I64 b.v) (w : World) : Calls Try.prog 6 #[a.V, b.V] w fun e w' => e = .returned (.bool true) ∧ New w w' := by
  clear _ha _hb
  have HRa := Lib.hid (Right_any a)
  have HRb := Lib.hid (Right_any b)
  obtain ⟨ra, hra⟩ : ∃ r, rightB a = r := ⟨_, rfl⟩
  obtain ⟨rb, hrb⟩ : ∃ r, rightB b = r := ⟨_, rfl⟩
  rw [hra] at HRa
  rw [hrb] at HRb
  cases ra with
  | false =>
    clear hra hrb HRb
    obtain ⟨o, t, c, v⟩ := a
    obtain ⟨p, q, d, u⟩ := b
    go_enter Try.func6, Try.ntmps6
    go_wp2_with fail
    with_reducible refine (awake_any _).mono ?_
    rintro e w1 ⟨rfl, hN⟩
    have HA_1 := Lib.hid (((Has.new_at w 23 #[.int .i64 o, .int .i64 t, .int .i64 c, .int .i64 v] (w.heap.size) (by simp)).alloc (.cells #[.int .i64 p, .int .i64 q, .int .i64 d, .int .i64 u] 23)).keep hN)
    have HB_1 := Lib.hid ((Has.new_at (w.alloc (.cells #[.int .i64 o, .int .i64 t, .int .i64 c, .int .i64 v] 23)) 23 #[.int .i64 p, .int .i64 q, .int .i64 d, .int .i64 u] (w.heap.size + 1) (by simp)).keep hN)
    have HN_1 := Lib.hid ((((Chg.refl (fun _ => False) w).alloc (.cells #[.int .i64 o, .int .i64 t, .int .i64 c, .int .i64 v] 23)).alloc (.cells #[.int .i64 p, .int .i64 q, .int .i64 d, .int .i64 u] 23)).then_new hN)
    clear hN
    have cA0 : w1.cell? ⟨w.heap.size, 0, none⟩ = some (.int .i64 o) := (HA_1.out.cell 0).trans rfl
    have cA1 : w1.cell? ⟨w.heap.size, 1, none⟩ = some (.int .i64 t) := (HA_1.out.cell 1).trans rfl
    have cA2 : w1.cell? ⟨w.heap.size, 2, none⟩ = some (.int .i64 c) := (HA_1.out.cell 2).trans rfl
    have cA3 : w1.cell? ⟨w.heap.size, 3, none⟩ = some (.int .i64 v) := (HA_1.out.cell 3).trans rfl
    have lA := HA_1.out.lt
    have cB0 : w1.cell? ⟨w.heap.size + 1, 0, none⟩ = some (.int .i64 p) := (HB_1.out.cell 0).trans rfl
    have cB1 : w1.cell? ⟨w.heap.size + 1, 1, none⟩ = some (.int .i64 q) := (HB_1.out.cell 1).trans rfl
    have cB2 : w1.cell? ⟨w.heap.size + 1, 2, none⟩ = some (.int .i64 d) := (HB_1.out.cell 2).trans rfl
    have cB3 : w1.cell? ⟨w.heap.size + 1, 3, none⟩ = some (.int .i64 u) := (HB_1.out.cell 3).trans rfl
    have lB := HB_1.out.lt
    go_wp2_with fail
    with_reducible refine (HRa.out _).mono ?_
    rintro e w2 ⟨rfl, hN⟩
    have HA_2 := Lib.hid (HA_1.out.keep hN)
    have HB_2 := Lib.hid (HB_1.out.keep hN)
    have HN_2 := Lib.hid (HN_1.out.then_new hN)
    clear HA_1 HB_1 HN_1 cA0 cA1 cA2 cA3 lA cB0 cB1 cB2 cB3 lB hN
    have cA0 : w2.cell? ⟨w.heap.size, 0, none⟩ = some (.int .i64 o) := (HA_2.out.cell 0).trans rfl
    have cA1 : w2.cell? ⟨w.heap.size, 1, none⟩ = some (.int .i64 t) := (HA_2.out.cell 1).trans rfl
    have cA2 : w2.cell? ⟨w.heap.size, 2, none⟩ = some (.int .i64 c) := (HA_2.out.cell 2).trans rfl
    have cA3 : w2.cell? ⟨w.heap.size, 3, none⟩ = some (.int .i64 v) := (HA_2.out.cell 3).trans rfl
    have lA := HA_2.out.lt
    have cB0 : w2.cell? ⟨w.heap.size + 1, 0, none⟩ = some (.int .i64 p) := (HB_2.out.cell 0).trans rfl
    have cB1 : w2.cell? ⟨w.heap.size + 1, 1, none⟩ = some (.int .i64 q) := (HB_2.out.cell 1).trans rfl
    have cB2 : w2.cell? ⟨w.heap.size + 1, 2, none⟩ = some (.int .i64 d) := (HB_2.out.cell 2).trans rfl
    have cB3 : w2.cell? ⟨w.heap.size + 1, 3, none⟩ = some (.int .i64 u) := (HB_2.out.cell 3).trans rfl
    have lB := HB_2.out.lt
    go_wp2_with fail
    with_reducible refine (awake_any _).mono ?_
    rintro e w3 ⟨rfl, hN⟩
    have HA_3 := Lib.hid (HA_2.out.keep hN)
    have HB_3 := Lib.hid (HB_2.out.keep hN)
    have HN_3 := Lib.hid (HN_2.out.then_new hN)
    clear HA_2 HB_2 HN_2 cA0 cA1 cA2 cA3 lA cB0 cB1 cB2 cB3 lB hN
    have cA0 : w3.cell? ⟨w.heap.size, 0, none⟩ = some (.int .i64 o) := (HA_3.out.cell 0).trans rfl
    have cA1 : w3.cell? ⟨w.heap.size, 1, none⟩ = some (.int .i64 t) := (HA_3.out.cell 1).trans rfl
    have cA2 : w3.cell? ⟨w.heap.size, 2, none⟩ = some (.int .i64 c) := (HA_3.out.cell 2).trans rfl
    have cA3 : w3.cell? ⟨w.heap.size, 3, none⟩ = some (.int .i64 v) := (HA_3.out.cell 3).trans rfl
    have lA := HA_3.out.lt
    have cB0 : w3.cell? ⟨w.heap.size + 1, 0, none⟩ = some (.int .i64 p) := (HB_3.out.cell 0).trans rfl
    have cB1 : w3.cell? ⟨w.heap.size + 1, 1, none⟩ = some (.int .i64 q) := (HB_3.out.cell 1).trans rfl
    have cB2 : w3.cell? ⟨w.heap.size + 1, 2, none⟩ = some (.int .i64 d) := (HB_3.out.cell 2).trans rfl
    have cB3 : w3.cell? ⟨w.heap.size + 1, 3, none⟩ = some (.int .i64 u) := (HB_3.out.cell 3).trans rfl
    have lB := HB_3.out.lt
    go_wp2_with fail
    go_ret
    exact ⟨rfl, HN_3.out⟩
  | true =>
    cases rb with
    | false =>
      clear hra hrb
      obtain ⟨o, t, c, v⟩ := a
      obtain ⟨p, q, d, u⟩ := b
      go_enter Try.func6, Try.ntmps6
      go_wp2_with fail
      with_reducible refine (awake_any _).mono ?_
      rintro e w1 ⟨rfl, hN⟩
      have HA_1 := Lib.hid (((Has.new_at w 23 #[.int .i64 o, .int .i64 t, .int .i64 c, .int .i64 v] (w.heap.size) (by simp)).alloc (.cells #[.int .i64 p, .int .i64 q, .int .i64 d, .int .i64 u] 23)).keep hN)
      have HB_1 := Lib.hid ((Has.new_at (w.alloc (.cells #[.int .i64 o, .int .i64 t, .int .i64 c, .int .i64 v] 23)) 23 #[.int .i64 p, .int .i64 q, .int .i64 d, .int .i64 u] (w.heap.size + 1) (by simp)).keep hN)
      have HN_1 := Lib.hid ((((Chg.refl (fun _ => False) w).alloc (.cells #[.int .i64 o, .int .i64 t, .int .i64 c, .int .i64 v] 23)).alloc (.cells #[.int .i64 p, .int .i64 q, .int .i64 d, .int .i64 u] 23)).then_new hN)
      clear hN
      have cA0 : w1.cell? ⟨w.heap.size, 0, none⟩ = some (.int .i64 o) := (HA_1.out.cell 0).trans rfl
      have cA1 : w1.cell? ⟨w.heap.size, 1, none⟩ = some (.int .i64 t) := (HA_1.out.cell 1).trans rfl
      have cA2 : w1.cell? ⟨w.heap.size, 2, none⟩ = some (.int .i64 c) := (HA_1.out.cell 2).trans rfl
      have cA3 : w1.cell? ⟨w.heap.size, 3, none⟩ = some (.int .i64 v) := (HA_1.out.cell 3).trans rfl
      have lA := HA_1.out.lt
      have cB0 : w1.cell? ⟨w.heap.size + 1, 0, none⟩ = some (.int .i64 p) := (HB_1.out.cell 0).trans rfl
      have cB1 : w1.cell? ⟨w.heap.size + 1, 1, none⟩ = some (.int .i64 q) := (HB_1.out.cell 1).trans rfl
      have cB2 : w1.cell? ⟨w.heap.size + 1, 2, none⟩ = some (.int .i64 d) := (HB_1.out.cell 2).trans rfl
      have cB3 : w1.cell? ⟨w.heap.size + 1, 3, none⟩ = some (.int .i64 u) := (HB_1.out.cell 3).trans rfl
      have lB := HB_1.out.lt
      go_wp2_with fail
      with_reducible refine (HRa.out _).mono ?_
      rintro e w2 ⟨rfl, hN⟩
      have HA_2 := Lib.hid (HA_1.out.keep hN)
      have HB_2 := Lib.hid (HB_1.out.keep hN)
      have HN_2 := Lib.hid (HN_1.out.then_new hN)
      clear HA_1 HB_1 HN_1 cA0 cA1 cA2 cA3 lA cB0 cB1 cB2 cB3 lB hN
      have cA0 : w2.cell? ⟨w.heap.size, 0, none⟩ = some (.int .i64 o) := (HA_2.out.cell 0).trans rfl
      have cA1 : w2.cell? ⟨w.heap.size, 1, none⟩ = some (.int .i64 t) := (HA_2.out.cell 1).trans rfl
      have cA2 : w2.cell? ⟨w.heap.size, 2, none⟩ = some (.int .i64 c) := (HA_2.out.cell 2).trans rfl
      have cA3 : w2.cell? ⟨w.heap.size, 3, none⟩ = some (.int .i64 v) := (HA_2.out.cell 3).trans rfl
      have lA := HA_2.out.lt
      have cB0 : w2.cell? ⟨w.heap.size + 1, 0, none⟩ = some (.int .i64 p) := (HB_2.out.cell 0).trans rfl
      have cB1 : w2.cell? ⟨w.heap.size + 1, 1, none⟩ = some (.int .i64 q) := (HB_2.out.cell 1).trans rfl
      have cB2 : w2.cell? ⟨w.heap.size + 1, 2, none⟩ = some (.int .i64 d) := (HB_2.out.cell 2).trans rfl
      have cB3 : w2.cell? ⟨w.heap.size + 1, 3, none⟩ = some (.int .i64 u) := (HB_2.out.cell 3).trans rfl
      have lB := HB_2.out.lt
      go_wp2_with fail
      with_reducible refine (HRb.out _).mono ?_
      rintro e w3 ⟨rfl, hN⟩
      have HA_3 := Lib.hid (HA_2.out.keep hN)
      have HB_3 := Lib.hid (HB_2.out.keep hN)
      have HN_3 := Lib.hid (HN_2.out.then_new hN)
      clear HA_2 HB_2 HN_2 cA0 cA1 cA2 cA3 lA cB0 cB1 cB2 cB3 lB hN
      have cA0 : w3.cell? ⟨w.heap.size, 0, none⟩ = some (.int .i64 o) := (HA_3.out.cell 0).trans rfl
      have cA1 : w3.cell? ⟨w.heap.size, 1, none⟩ = some (.int .i64 t) := (HA_3.out.cell 1).trans rfl
      have cA2 : w3.cell? ⟨w.heap.size, 2, none⟩ = some (.int .i64 c) := (HA_3.out.cell 2).trans rfl
      have cA3 : w3.cell? ⟨w.heap.size, 3, none⟩ = some (.int .i64 v) := (HA_3.out.cell 3).trans rfl
      have lA := HA_3.out.lt
      have cB0 : w3.cell? ⟨w.heap.size + 1, 0, none⟩ = some (.int .i64 p) := (HB_3.out.cell 0).trans rfl
      have cB1 : w3.cell? ⟨w.heap.size + 1, 1, none⟩ = some (.int .i64 q) := (HB_3.out.cell 1).trans rfl
      have cB2 : w3.cell? ⟨w.heap.size + 1, 2, none⟩ = some (.int .i64 d) := (HB_3.out.cell 2).trans rfl
      have cB3 : w3.cell? ⟨w.heap.size + 1, 3, none⟩ = some (.int .i64 u) := (HB_3.out.cell 3).trans rfl
      have lB := HB_3.out.lt
      go_wp2_with fail
      with_reducible refine (awake_any _).mono ?_
      rintro e w4 ⟨rfl, hN⟩
      have HA_4 := Lib.hid (HA_3.out.keep hN)
      have HB_4 := Lib.hid (HB_3.out.keep hN)
      have HN_4 := Lib.hid (HN_3.out.then_new hN)
      clear HA_3 HB_3 HN_3 cA0 cA1 cA2 cA3 lA cB0 cB1 cB2 cB3 lB hN
      have cA0 : w4.cell? ⟨w.heap.size, 0, none⟩ = some (.int .i64 o) := (HA_4.out.cell 0).trans rfl
      have cA1 : w4.cell? ⟨w.heap.size, 1, none⟩ = some (.int .i64 t) := (HA_4.out.cell 1).trans rfl
      have cA2 : w4.cell? ⟨w.heap.size, 2, none⟩ = some (.int .i64 c) := (HA_4.out.cell 2).trans rfl
      have cA3 : w4.cell? ⟨w.heap.size, 3, none⟩ = some (.int .i64 v) := (HA_4.out.cell 3).trans rfl
      have lA := HA_4.out.lt
      have cB0 : w4.cell? ⟨w.heap.size + 1, 0, none⟩ = some (.int .i64 p) := (HB_4.out.cell 0).trans rfl
      have cB1 : w4.cell? ⟨w.heap.size + 1, 1, none⟩ = some (.int .i64 q) := (HB_4.out.cell 1).trans rfl
      have cB2 : w4.cell? ⟨w.heap.size + 1, 2, none⟩ = some (.int .i64 d) := (HB_4.out.cell 2).trans rfl
      have cB3 : w4.cell? ⟨w.heap.size + 1, 3, none⟩ = some (.int .i64 u) := (HB_4.out.cell 3).trans rfl
      have lB := HB_4.out.lt
      go_wp2_with fail
      go_ret
      exact ⟨rfl, HN_4.out⟩
    | true =>
      have HRo := Lib.hid (Roll_any a)
      have HLa := Lib.hid (Level_any a)
      have HLb := Lib.hid (Level_any b)
      have HLr := Lib.hid (Level_any ⟨a.o, a.t, a.c, a.v + 1⟩)
      have HFa := Lib.hid (From_none a)
      have HFr := Lib.hid (From_none ⟨a.o, a.t, a.c, a.v + 1⟩)
      rw [hra] at HFa
      have Hab0 := Lib.hid (From_one a b)
      have Hba0 := Lib.hid (From_one b a)
      have Hlev : Hid (fromB a b = true → decide (levI a < levI b) = false) := ap_lev
      have Hsame : Hid ((a.o = b.o ∧ a.t = b.t ∧ a.c = b.c ∧ a.v = b.v) → fromB b a = true) := fun h => by obtain rfl : a = b := eqK.eq h; exact from_self (rightB_yes hra)
      have Hdiff : Hid (fromB a b = true → ¬ (a.o = b.o ∧ a.t = b.t ∧ a.c = b.c ∧ a.v = b.v) → fromB b a = false) := ap_back
      have Hrol : Hid (a.v ≠ 255 → rightB ⟨a.o, a.t, a.c, a.v + 1⟩ = true ∧ levI ⟨a.o, a.t, a.c, a.v + 1⟩ = levI a) := ap_roll hra
      have HrolB : Hid (fromB a b = true → fromB ⟨a.o, a.t, a.c, a.v + 1⟩ b = false) := ap_roll_no
      have Hra := Lib.hid hra
      clear hra hrb
      generalize fromB a b = x at Hab0 Hlev Hdiff HrolB
      generalize fromB b a = y at Hba0 Hsame Hdiff
      generalize levI b = lb at HLb Hlev
      obtain ⟨la, hla⟩ : ∃ la, levI a = la := ⟨_, rfl⟩
      rw [hla] at HLa Hlev Hrol
      clear hla
      obtain ⟨o, t, c, v⟩ := a
      obtain ⟨p, q, d, u⟩ := b
      have Hab : Hid (∀ (g m : Nat) w, Has w g 23 #[.int .i64 p, .int .i64 q, .int .i64 d, .int .i64 u] → Calls Try.prog 18 #[.agg #[.int .i64 o, .int .i64 t, .int .i64 c, .int .i64 v], .slice (some ⟨g, 0, none⟩) 1 m] w fun e w' => e = .returned (.bool x) ∧ New w w') := Hab0.out
      have Hba : Hid (∀ (g m : Nat) w, Has w g 23 #[.int .i64 o, .int .i64 t, .int .i64 c, .int .i64 v] → Calls Try.prog 18 #[.agg #[.int .i64 p, .int .i64 q, .int .i64 d, .int .i64 u], .slice (some ⟨g, 0, none⟩) 1 m] w fun e w' => e = .returned (.bool y) ∧ New w w') := Hba0.out
      clear Hab0 Hba0
      go_enter Try.func6, Try.ntmps6
      go_wp2_with fail
      with_reducible refine (awake_any _).mono ?_
      rintro e w1 ⟨rfl, hN⟩
      have HA_1 := Lib.hid (((Has.new_at w 23 #[.int .i64 o, .int .i64 t, .int .i64 c, .int .i64 v] (w.heap.size) (by simp)).alloc (.cells #[.int .i64 p, .int .i64 q, .int .i64 d, .int .i64 u] 23)).keep hN)
      have HB_1 := Lib.hid ((Has.new_at (w.alloc (.cells #[.int .i64 o, .int .i64 t, .int .i64 c, .int .i64 v] 23)) 23 #[.int .i64 p, .int .i64 q, .int .i64 d, .int .i64 u] (w.heap.size + 1) (by simp)).keep hN)
      have HN_1 := Lib.hid ((((Chg.refl (fun _ => False) w).alloc (.cells #[.int .i64 o, .int .i64 t, .int .i64 c, .int .i64 v] 23)).alloc (.cells #[.int .i64 p, .int .i64 q, .int .i64 d, .int .i64 u] 23)).then_new hN)
      clear hN
      have cA0 : w1.cell? ⟨w.heap.size, 0, none⟩ = some (.int .i64 o) := (HA_1.out.cell 0).trans rfl
      have cA1 : w1.cell? ⟨w.heap.size, 1, none⟩ = some (.int .i64 t) := (HA_1.out.cell 1).trans rfl
      have cA2 : w1.cell? ⟨w.heap.size, 2, none⟩ = some (.int .i64 c) := (HA_1.out.cell 2).trans rfl
      have cA3 : w1.cell? ⟨w.heap.size, 3, none⟩ = some (.int .i64 v) := (HA_1.out.cell 3).trans rfl
      have lA := HA_1.out.lt
      have cB0 : w1.cell? ⟨w.heap.size + 1, 0, none⟩ = some (.int .i64 p) := (HB_1.out.cell 0).trans rfl
      have cB1 : w1.cell? ⟨w.heap.size + 1, 1, none⟩ = some (.int .i64 q) := (HB_1.out.cell 1).trans rfl
      have cB2 : w1.cell? ⟨w.heap.size + 1, 2, none⟩ = some (.int .i64 d) := (HB_1.out.cell 2).trans rfl
      have cB3 : w1.cell? ⟨w.heap.size + 1, 3, none⟩ = some (.int .i64 u) := (HB_1.out.cell 3).trans rfl
      have lB := HB_1.out.lt
      go_wp2_with fail
      with_reducible refine (HRa.out _).mono ?_
      rintro e w2 ⟨rfl, hN⟩
      have HA_2 := Lib.hid (HA_1.out.keep hN)
      have HB_2 := Lib.hid (HB_1.out.keep hN)
      have HN_2 := Lib.hid (HN_1.out.then_new hN)
      clear HA_1 HB_1 HN_1 cA0 cA1 cA2 cA3 lA cB0 cB1 cB2 cB3 lB hN
      have cA0 : w2.cell? ⟨w.heap.size, 0, none⟩ = some (.int .i64 o) := (HA_2.out.cell 0).trans rfl
      have cA1 : w2.cell? ⟨w.heap.size, 1, none⟩ = some (.int .i64 t) := (HA_2.out.cell 1).trans rfl
      have cA2 : w2.cell? ⟨w.heap.size, 2, none⟩ = some (.int .i64 c) := (HA_2.out.cell 2).trans rfl
      have cA3 : w2.cell? ⟨w.heap.size, 3, none⟩ = some (.int .i64 v) := (HA_2.out.cell 3).trans rfl
      have lA := HA_2.out.lt
      have cB0 : w2.cell? ⟨w.heap.size + 1, 0, none⟩ = some (.int .i64 p) := (HB_2.out.cell 0).trans rfl
      have cB1 : w2.cell? ⟨w.heap.size + 1, 1, none⟩ = some (.int .i64 q) := (HB_2.out.cell 1).trans rfl
      have cB2 : w2.cell? ⟨w.heap.size + 1, 2, none⟩ = some (.int .i64 d) := (HB_2.out.cell 2).trans rfl
      have cB3 : w2.cell? ⟨w.heap.size + 1, 3, none⟩ = some (.int .i64 u) := (HB_2.out.cell 3).trans rfl
      have lB := HB_2.out.lt
      go_wp2_with fail
      with_reducible refine (HRb.out _).mono ?_
      rintro e w3 ⟨rfl, hN⟩
      have HA_3 := Lib.hid (HA_2.out.keep hN)
      have HB_3 := Lib.hid (HB_2.out.keep hN)
      have HN_3 := Lib.hid (HN_2.out.then_new hN)
      clear HA_2 HB_2 HN_2 cA0 cA1 cA2 cA3 lA cB0 cB1 cB2 cB3 lB hN
      have cA0 : w3.cell? ⟨w.heap.size, 0, none⟩ = some (.int .i64 o) := (HA_3.out.cell 0).trans rfl
      have cA1 : w3.cell? ⟨w.heap.size, 1, none⟩ = some (.int .i64 t) := (HA_3.out.cell 1).trans rfl
      have cA2 : w3.cell? ⟨w.heap.size, 2, none⟩ = some (.int .i64 c) := (HA_3.out.cell 2).trans rfl
      have cA3 : w3.cell? ⟨w.heap.size, 3, none⟩ = some (.int .i64 v) := (HA_3.out.cell 3).trans rfl
      have lA := HA_3.out.lt
      have cB0 : w3.cell? ⟨w.heap.size + 1, 0, none⟩ = some (.int .i64 p) := (HB_3.out.cell 0).trans rfl
      have cB1 : w3.cell? ⟨w.heap.size + 1, 1, none⟩ = some (.int .i64 q) := (HB_3.out.cell 1).trans rfl
      have cB2 : w3.cell? ⟨w.heap.size + 1, 2, none⟩ = some (.int .i64 d) := (HB_3.out.cell 2).trans rfl
      have cB3 : w3.cell? ⟨w.heap.size + 1, 3, none⟩ = some (.int .i64 u) := (HB_3.out.cell 3).trans rfl
      have lB := HB_3.out.lt
      go_upto_region 3 with (fail)
      go_cut [5, 6] (fun s5 s6 wx => s5 = .bool x ∧ s6 = .bool y ∧ New w3 wx)
      case first =>
        have HK : Hid (∀ wx, New w3 wx → (wx.cell? ⟨w.heap.size, 0, none⟩ = some (.int .i64 o) ∧ wx.cell? ⟨w.heap.size, 1, none⟩ = some (.int .i64 t) ∧ wx.cell? ⟨w.heap.size, 2, none⟩ = some (.int .i64 c) ∧ wx.cell? ⟨w.heap.size, 3, none⟩ = some (.int .i64 v) ∧ wx.cell? ⟨w.heap.size + 1, 0, none⟩ = some (.int .i64 p) ∧ wx.cell? ⟨w.heap.size + 1, 1, none⟩ = some (.int .i64 q) ∧ wx.cell? ⟨w.heap.size + 1, 2, none⟩ = some (.int .i64 d) ∧ wx.cell? ⟨w.heap.size + 1, 3, none⟩ = some (.int .i64 u))) := fun wx h => ⟨((HA_3.out.keep h).cell 0).trans rfl, ((HA_3.out.keep h).cell 1).trans rfl, ((HA_3.out.keep h).cell 2).trans rfl, ((HA_3.out.keep h).cell 3).trans rfl, ((HB_3.out.keep h).cell 0).trans rfl, ((HB_3.out.keep h).cell 1).trans rfl, ((HB_3.out.keep h).cell 2).trans rfl, ((HB_3.out.keep h).cell 3).trans rfl⟩
        go_wp2_with fail
        go_region_held_law (fun wx => wx.cell? ⟨w.heap.size, 0, none⟩ = some (.int .i64 o) ∧ wx.cell? ⟨w.heap.size, 1, none⟩ = some (.int .i64 t) ∧ wx.cell? ⟨w.heap.size, 2, none⟩ = some (.int .i64 c) ∧ wx.cell? ⟨w.heap.size, 3, none⟩ = some (.int .i64 v) ∧ wx.cell? ⟨w.heap.size + 1, 0, none⟩ = some (.int .i64 p) ∧ wx.cell? ⟨w.heap.size + 1, 1, none⟩ = some (.int .i64 q) ∧ wx.cell? ⟨w.heap.size + 1, 2, none⟩ = some (.int .i64 d) ∧ wx.cell? ⟨w.heap.size + 1, 3, none⟩ = some (.int .i64 u))
          (with_reducible refine HK.out _ ?_; (with_reducible repeat (first | exact Chg.refl _ _ | refine Chg.drew ?_ | refine Chg.alloc ?_ _ | refine Chg.then_new ?_ HN_wX.out | refine Chg.then_new ?_ HN_wY.out)))
          (first
            | (go_at_call 18
               with_reducible refine (Hab.out _ _ _ ?hH).mono ?_
               case hH => ((with_reducible repeat (first | exact Has.new_at _ _ _ _ rfl | exact Has.new_at _ _ _ _ (World.size_alloc _ _) | refine Has.drew ?_ | refine Has.keep ?_ HN_wX.out | refine Has.keep ?_ HN_wY.out | refine Has.alloc ?_ _)); fail_if_success (have := True.intro))
               rintro e wX ⟨rfl, hNwX⟩
               have HN_wX := Lib.hid hNwX
               clear hNwX)
            | (go_at_call 18
               with_reducible refine (Hba.out _ _ _ ?hH).mono ?_
               case hH => ((with_reducible repeat (first | exact Has.new_at _ _ _ _ rfl | exact Has.new_at _ _ _ _ (World.size_alloc _ _) | refine Has.drew ?_ | refine Has.keep ?_ HN_wX.out | refine Has.keep ?_ HN_wY.out | refine Has.alloc ?_ _)); fail_if_success (have := True.intro))
               rintro e wY ⟨rfl, hNwY⟩
               have HN_wY := Lib.hid hNwY
               clear hNwY))
        all_goals
          go_wp2_with fail
          go_meet
          case rel => exact ⟨rfl, rfl, by ((with_reducible repeat (first | exact Chg.refl _ _ | refine Chg.drew ?_ | refine Chg.alloc ?_ _ | refine Chg.then_new ?_ HN_wX.out | refine Chg.then_new ?_ HN_wY.out)); fail_if_success (have := True.intro))⟩
      case rest =>
      obtain ⟨rfl, rfl, hN⟩ := hcut
      obtain ⟨w4, rfl⟩ : ∃ w4, w4 = wc := ⟨_, rfl⟩
      have HA_4 := Lib.hid (HA_3.out.keep hN)
      have HB_4 := Lib.hid (HB_3.out.keep hN)
      have HN_4 := Lib.hid (HN_3.out.then_new hN)
      clear HA_3 HB_3 HN_3 cA0 cA1 cA2 cA3 lA cB0 cB1 cB2 cB3 lB hN
      go_upto_region 4 with (fail)
      go_cut [47] (fun s47 wx => s47 = .bool false ∧ New w4 wx)
      case first =>
        cases x with
        | false =>
          have cA0 : w4.cell? ⟨w.heap.size, 0, none⟩ = some (.int .i64 o) := (HA_4.out.cell 0).trans rfl
          have cA1 : w4.cell? ⟨w.heap.size, 1, none⟩ = some (.int .i64 t) := (HA_4.out.cell 1).trans rfl
          have cA2 : w4.cell? ⟨w.heap.size, 2, none⟩ = some (.int .i64 c) := (HA_4.out.cell 2).trans rfl
          have cA3 : w4.cell? ⟨w.heap.size, 3, none⟩ = some (.int .i64 v) := (HA_4.out.cell 3).trans rfl
          have lA := HA_4.out.lt
          have cB0 : w4.cell? ⟨w.heap.size + 1, 0, none⟩ = some (.int .i64 p) := (HB_4.out.cell 0).trans rfl
          have cB1 : w4.cell? ⟨w.heap.size + 1, 1, none⟩ = some (.int .i64 q) := (HB_4.out.cell 1).trans rfl
          have cB2 : w4.cell? ⟨w.heap.size + 1, 2, none⟩ = some (.int .i64 d) := (HB_4.out.cell 2).trans rfl
          have cB3 : w4.cell? ⟨w.heap.size + 1, 3, none⟩ = some (.int .i64 u) := (HB_4.out.cell 3).trans rfl
          have lB := HB_4.out.lt
          first
          | go_region
          | fail
          all_goals
            go_wp2_with fail
            go_meet
            case rel => exact ⟨rfl, by ((with_reducible repeat (first | exact Chg.refl _ _ | refine Chg.drew ?_ | refine Chg.alloc ?_ _)); fail_if_success (have := True.intro))⟩
        | true =>
          have Hl := (Hlev.out rfl)
          by_cases hall : o = p ∧ t = q ∧ c = d ∧ v = u
          · obtain ⟨rfl, rfl, rfl, rfl⟩ := hall
            obtain rfl : y = true := Hsame.out ⟨rfl, rfl, rfl, rfl⟩
            have cA0 : w4.cell? ⟨w.heap.size, 0, none⟩ = some (.int .i64 o) := (HA_4.out.cell 0).trans rfl
            have cA1 : w4.cell? ⟨w.heap.size, 1, none⟩ = some (.int .i64 t) := (HA_4.out.cell 1).trans rfl
            have cA2 : w4.cell? ⟨w.heap.size, 2, none⟩ = some (.int .i64 c) := (HA_4.out.cell 2).trans rfl
            have cA3 : w4.cell? ⟨w.heap.size, 3, none⟩ = some (.int .i64 v) := (HA_4.out.cell 3).trans rfl
            have lA := HA_4.out.lt
            have cB0 : w4.cell? ⟨w.heap.size + 1, 0, none⟩ = some (.int .i64 o) := (HB_4.out.cell 0).trans rfl
            have cB1 : w4.cell? ⟨w.heap.size + 1, 1, none⟩ = some (.int .i64 t) := (HB_4.out.cell 1).trans rfl
            have cB2 : w4.cell? ⟨w.heap.size + 1, 2, none⟩ = some (.int .i64 c) := (HB_4.out.cell 2).trans rfl
            have cB3 : w4.cell? ⟨w.heap.size + 1, 3, none⟩ = some (.int .i64 v) := (HB_4.out.cell 3).trans rfl
            have lB := HB_4.out.lt
            have HK : Hid (∀ wx, New w4 wx → (wx.cell? ⟨w.heap.size, 0, none⟩ = some (.int .i64 o) ∧ wx.cell? ⟨w.heap.size, 1, none⟩ = some (.int .i64 t) ∧ wx.cell? ⟨w.heap.size, 2, none⟩ = some (.int .i64 c) ∧ wx.cell? ⟨w.heap.size, 3, none⟩ = some (.int .i64 v) ∧ wx.cell? ⟨w.heap.size + 1, 0, none⟩ = some (.int .i64 o) ∧ wx.cell? ⟨w.heap.size + 1, 1, none⟩ = some (.int .i64 t) ∧ wx.cell? ⟨w.heap.size + 1, 2, none⟩ = some (.int .i64 c) ∧ wx.cell? ⟨w.heap.size + 1, 3, none⟩ = some (.int .i64 v))) := fun wx h => ⟨((HA_4.out.keep h).cell 0).trans rfl, ((HA_4.out.keep h).cell 1).trans rfl, ((HA_4.out.keep h).cell 2).trans rfl, ((HA_4.out.keep h).cell 3).trans rfl, ((HB_4.out.keep h).cell 0).trans rfl, ((HB_4.out.keep h).cell 1).trans rfl, ((HB_4.out.keep h).cell 2).trans rfl, ((HB_4.out.keep h).cell 3).trans rfl⟩
            go_wp2_with fail
            go_region_held_law (fun wx => wx.cell? ⟨w.heap.size, 0, none⟩ = some (.int .i64 o) ∧ wx.cell? ⟨w.heap.size, 1, none⟩ = some (.int .i64 t) ∧ wx.cell? ⟨w.heap.size, 2, none⟩ = some (.int .i64 c) ∧ wx.cell? ⟨w.heap.size, 3, none⟩ = some (.int .i64 v) ∧ wx.cell? ⟨w.heap.size + 1, 0, none⟩ = some (.int .i64 o) ∧ wx.cell? ⟨w.heap.size + 1, 1, none⟩ = some (.int .i64 t) ∧ wx.cell? ⟨w.heap.size + 1, 2, none⟩ = some (.int .i64 c) ∧ wx.cell? ⟨w.heap.size + 1, 3, none⟩ = some (.int .i64 v))
              (with_reducible refine HK.out _ ?_; (with_reducible repeat (first | exact Chg.refl _ _ | refine Chg.drew ?_ | refine Chg.alloc ?_ _ | refine Chg.then_new ?_ HN_wL.out | refine Chg.then_new ?_ HN_wM.out)))
              (first
                | (go_at_call 16
                   have hq := HN_wL
                   clear hq
                   with_reducible refine (HLa.out _).mono ?_
                   rintro e wM ⟨rfl, hNwM⟩
                   have HN_wM := Lib.hid hNwM
                   clear hNwM)
                | (go_at_call 16
                   with_reducible refine (HLa.out _).mono ?_
                   rintro e wL ⟨rfl, hNwL⟩
                   have HN_wL := Lib.hid hNwL
                   clear hNwL))
            all_goals
              go_wp2_with fail
              go_meet
              case rel => exact ⟨rfl, by ((with_reducible repeat (first | exact Chg.refl _ _ | refine Chg.drew ?_ | refine Chg.alloc ?_ _ | refine Chg.then_new ?_ HN_wL.out | refine Chg.then_new ?_ HN_wM.out)); fail_if_success (have := True.intro))⟩
          · obtain rfl : y = false := Hdiff.out rfl hall
            have hd := key_ways hall
            clear hall
            rcases hd with hd | hd
            · have cA0 : w4.cell? ⟨w.heap.size, 0, none⟩ = some (.int .i64 o) := (HA_4.out.cell 0).trans rfl
              have cA1 : w4.cell? ⟨w.heap.size, 1, none⟩ = some (.int .i64 t) := (HA_4.out.cell 1).trans rfl
              have cA2 : w4.cell? ⟨w.heap.size, 2, none⟩ = some (.int .i64 c) := (HA_4.out.cell 2).trans rfl
              have cA3 : w4.cell? ⟨w.heap.size, 3, none⟩ = some (.int .i64 v) := (HA_4.out.cell 3).trans rfl
              have lA := HA_4.out.lt
              have cB0 : w4.cell? ⟨w.heap.size + 1, 0, none⟩ = some (.int .i64 p) := (HB_4.out.cell 0).trans rfl
              have cB1 : w4.cell? ⟨w.heap.size + 1, 1, none⟩ = some (.int .i64 q) := (HB_4.out.cell 1).trans rfl
              have cB2 : w4.cell? ⟨w.heap.size + 1, 2, none⟩ = some (.int .i64 d) := (HB_4.out.cell 2).trans rfl
              have cB3 : w4.cell? ⟨w.heap.size + 1, 3, none⟩ = some (.int .i64 u) := (HB_4.out.cell 3).trans rfl
              have lB := HB_4.out.lt
              have HK : Hid (∀ wx, New w4 wx → (wx.cell? ⟨w.heap.size, 0, none⟩ = some (.int .i64 o) ∧ wx.cell? ⟨w.heap.size, 1, none⟩ = some (.int .i64 t) ∧ wx.cell? ⟨w.heap.size, 2, none⟩ = some (.int .i64 c) ∧ wx.cell? ⟨w.heap.size, 3, none⟩ = some (.int .i64 v) ∧ wx.cell? ⟨w.heap.size + 1, 0, none⟩ = some (.int .i64 p) ∧ wx.cell? ⟨w.heap.size + 1, 1, none⟩ = some (.int .i64 q) ∧ wx.cell? ⟨w.heap.size + 1, 2, none⟩ = some (.int .i64 d) ∧ wx.cell? ⟨w.heap.size + 1, 3, none⟩ = some (.int .i64 u))) := fun wx h => ⟨((HA_4.out.keep h).cell 0).trans rfl, ((HA_4.out.keep h).cell 1).trans rfl, ((HA_4.out.keep h).cell 2).trans rfl, ((HA_4.out.keep h).cell 3).trans rfl, ((HB_4.out.keep h).cell 0).trans rfl, ((HB_4.out.keep h).cell 1).trans rfl, ((HB_4.out.keep h).cell 2).trans rfl, ((HB_4.out.keep h).cell 3).trans rfl⟩
              go_wp2_with fail
              go_region_held_law (fun wx => wx.cell? ⟨w.heap.size, 0, none⟩ = some (.int .i64 o) ∧ wx.cell? ⟨w.heap.size, 1, none⟩ = some (.int .i64 t) ∧ wx.cell? ⟨w.heap.size, 2, none⟩ = some (.int .i64 c) ∧ wx.cell? ⟨w.heap.size, 3, none⟩ = some (.int .i64 v) ∧ wx.cell? ⟨w.heap.size + 1, 0, none⟩ = some (.int .i64 p) ∧ wx.cell? ⟨w.heap.size + 1, 1, none⟩ = some (.int .i64 q) ∧ wx.cell? ⟨w.heap.size + 1, 2, none⟩ = some (.int .i64 d) ∧ wx.cell? ⟨w.heap.size + 1, 3, none⟩ = some (.int .i64 u))
                (with_reducible refine HK.out _ ?_; (with_reducible repeat (first | exact Chg.refl _ _ | refine Chg.drew ?_ | refine Chg.alloc ?_ _ | refine Chg.then_new ?_ HN_wL.out | refine Chg.then_new ?_ HN_wM.out)))
                (first
                  | (go_at_call 16
                     with_reducible refine (HLa.out _).mono ?_
                     rintro e wL ⟨rfl, hNwL⟩
                     have HN_wL := Lib.hid hNwL
                     clear hNwL)
                  | (go_at_call 16
                     with_reducible refine (HLb.out _).mono ?_
                     rintro e wM ⟨rfl, hNwM⟩
                     have HN_wM := Lib.hid hNwM
                     clear hNwM))
              all_goals
                go_wp2_with fail
                go_meet
                case rel => exact ⟨rfl, by ((with_reducible repeat (first | exact Chg.refl _ _ | refine Chg.drew ?_ | refine Chg.alloc ?_ _ | refine Chg.then_new ?_ HN_wL.out | refine Chg.then_new ?_ HN_wM.out)); fail_if_success (have := True.intro))⟩
            rcases hd with ⟨rfl, hd⟩ | hd
            · have cA0 : w4.cell? ⟨w.heap.size, 0, none⟩ = some (.int .i64 o) := (HA_4.out.cell 0).trans rfl
              have cA1 : w4.cell? ⟨w.heap.size, 1, none⟩ = some (.int .i64 t) := (HA_4.out.cell 1).trans rfl
              have cA2 : w4.cell? ⟨w.heap.size, 2, none⟩ = some (.int .i64 c) := (HA_4.out.cell 2).trans rfl
              have cA3 : w4.cell? ⟨w.heap.size, 3, none⟩ = some (.int .i64 v) := (HA_4.out.cell 3).trans rfl
              have lA := HA_4.out.lt
              have cB0 : w4.cell? ⟨w.heap.size + 1, 0, none⟩ = some (.int .i64 o) := (HB_4.out.cell 0).trans rfl
              have cB1 : w4.cell? ⟨w.heap.size + 1, 1, none⟩ = some (.int .i64 q) := (HB_4.out.cell 1).trans rfl
              have cB2 : w4.cell? ⟨w.heap.size + 1, 2, none⟩ = some (.int .i64 d) := (HB_4.out.cell 2).trans rfl
              have cB3 : w4.cell? ⟨w.heap.size + 1, 3, none⟩ = some (.int .i64 u) := (HB_4.out.cell 3).trans rfl
              have lB := HB_4.out.lt
              have HK : Hid (∀ wx, New w4 wx → (wx.cell? ⟨w.heap.size, 0, none⟩ = some (.int .i64 o) ∧ wx.cell? ⟨w.heap.size, 1, none⟩ = some (.int .i64 t) ∧ wx.cell? ⟨w.heap.size, 2, none⟩ = some (.int .i64 c) ∧ wx.cell? ⟨w.heap.size, 3, none⟩ = some (.int .i64 v) ∧ wx.cell? ⟨w.heap.size + 1, 0, none⟩ = some (.int .i64 o) ∧ wx.cell? ⟨w.heap.size + 1, 1, none⟩ = some (.int .i64 q) ∧ wx.cell? ⟨w.heap.size + 1, 2, none⟩ = some (.int .i64 d) ∧ wx.cell? ⟨w.heap.size + 1, 3, none⟩ = some (.int .i64 u))) := fun wx h => ⟨((HA_4.out.keep h).cell 0).trans rfl, ((HA_4.out.keep h).cell 1).trans rfl, ((HA_4.out.keep h).cell 2).trans rfl, ((HA_4.out.keep h).cell 3).trans rfl, ((HB_4.out.keep h).cell 0).trans rfl, ((HB_4.out.keep h).cell 1).trans rfl, ((HB_4.out.keep h).cell 2).trans rfl, ((HB_4.out.keep h).cell 3).trans rfl⟩
              go_wp2_with fail
              go_region_held_law (fun wx => wx.cell? ⟨w.heap.size, 0, none⟩ = some (.int .i64 o) ∧ wx.cell? ⟨w.heap.size, 1, none⟩ = some (.int .i64 t) ∧ wx.cell? ⟨w.heap.size, 2, none⟩ = some (.int .i64 c) ∧ wx.cell? ⟨w.heap.size, 3, none⟩ = some (.int .i64 v) ∧ wx.cell? ⟨w.heap.size + 1, 0, none⟩ = some (.int .i64 o) ∧ wx.cell? ⟨w.heap.size + 1, 1, none⟩ = some (.int .i64 q) ∧ wx.cell? ⟨w.heap.size + 1, 2, none⟩ = some (.int .i64 d) ∧ wx.cell? ⟨w.heap.size + 1, 3, none⟩ = some (.int .i64 u))
                (with_reducible refine HK.out _ ?_; (with_reducible repeat (first | exact Chg.refl _ _ | refine Chg.drew ?_ | refine Chg.alloc ?_ _ | refine Chg.then_new ?_ HN_wL.out | refine Chg.then_new ?_ HN_wM.out)))
                (first
                  | (go_at_call 16
                     with_reducible refine (HLa.out _).mono ?_
                     rintro e wL ⟨rfl, hNwL⟩
                     have HN_wL := Lib.hid hNwL
                     clear hNwL)
                  | (go_at_call 16
                     with_reducible refine (HLb.out _).mono ?_
                     rintro e wM ⟨rfl, hNwM⟩
                     have HN_wM := Lib.hid hNwM
                     clear hNwM))
              all_goals
                go_wp2_with fail
                go_meet
                case rel => exact ⟨rfl, by ((with_reducible repeat (first | exact Chg.refl _ _ | refine Chg.drew ?_ | refine Chg.alloc ?_ _ | refine Chg.then_new ?_ HN_wL.out | refine Chg.then_new ?_ HN_wM.out)); fail_if_success (have := True.intro))⟩
            rcases hd with ⟨rfl, rfl, hd⟩ | hd
            · have cA0 : w4.cell? ⟨w.heap.size, 0, none⟩ = some (.int .i64 o) := (HA_4.out.cell 0).trans rfl
              have cA1 : w4.cell? ⟨w.heap.size, 1, none⟩ = some (.int .i64 t) := (HA_4.out.cell 1).trans rfl
              have cA2 : w4.cell? ⟨w.heap.size, 2, none⟩ = some (.int .i64 c) := (HA_4.out.cell 2).trans rfl
              have cA3 : w4.cell? ⟨w.heap.size, 3, none⟩ = some (.int .i64 v) := (HA_4.out.cell 3).trans rfl
              have lA := HA_4.out.lt
              have cB0 : w4.cell? ⟨w.heap.size + 1, 0, none⟩ = some (.int .i64 o) := (HB_4.out.cell 0).trans rfl
              have cB1 : w4.cell? ⟨w.heap.size + 1, 1, none⟩ = some (.int .i64 t) := (HB_4.out.cell 1).trans rfl
              have cB2 : w4.cell? ⟨w.heap.size + 1, 2, none⟩ = some (.int .i64 d) := (HB_4.out.cell 2).trans rfl
              have cB3 : w4.cell? ⟨w.heap.size + 1, 3, none⟩ = some (.int .i64 u) := (HB_4.out.cell 3).trans rfl
              have lB := HB_4.out.lt
              have HK : Hid (∀ wx, New w4 wx → (wx.cell? ⟨w.heap.size, 0, none⟩ = some (.int .i64 o) ∧ wx.cell? ⟨w.heap.size, 1, none⟩ = some (.int .i64 t) ∧ wx.cell? ⟨w.heap.size, 2, none⟩ = some (.int .i64 c) ∧ wx.cell? ⟨w.heap.size, 3, none⟩ = some (.int .i64 v) ∧ wx.cell? ⟨w.heap.size + 1, 0, none⟩ = some (.int .i64 o) ∧ wx.cell? ⟨w.heap.size + 1, 1, none⟩ = some (.int .i64 t) ∧ wx.cell? ⟨w.heap.size + 1, 2, none⟩ = some (.int .i64 d) ∧ wx.cell? ⟨w.heap.size + 1, 3, none⟩ = some (.int .i64 u))) := fun wx h => ⟨((HA_4.out.keep h).cell 0).trans rfl, ((HA_4.out.keep h).cell 1).trans rfl, ((HA_4.out.keep h).cell 2).trans rfl, ((HA_4.out.keep h).cell 3).trans rfl, ((HB_4.out.keep h).cell 0).trans rfl, ((HB_4.out.keep h).cell 1).trans rfl, ((HB_4.out.keep h).cell 2).trans rfl, ((HB_4.out.keep h).cell 3).trans rfl⟩
              go_wp2_with fail
              go_region_held_law (fun wx => wx.cell? ⟨w.heap.size, 0, none⟩ = some (.int .i64 o) ∧ wx.cell? ⟨w.heap.size, 1, none⟩ = some (.int .i64 t) ∧ wx.cell? ⟨w.heap.size, 2, none⟩ = some (.int .i64 c) ∧ wx.cell? ⟨w.heap.size, 3, none⟩ = some (.int .i64 v) ∧ wx.cell? ⟨w.heap.size + 1, 0, none⟩ = some (.int .i64 o) ∧ wx.cell? ⟨w.heap.size + 1, 1, none⟩ = some (.int .i64 t) ∧ wx.cell? ⟨w.heap.size + 1, 2, none⟩ = some (.int .i64 d) ∧ wx.cell? ⟨w.heap.size + 1, 3, none⟩ = some (.int .i64 u))
                (with_reducible refine HK.out _ ?_; (with_reducible repeat (first | exact Chg.refl _ _ | refine Chg.drew ?_ | refine Chg.alloc ?_ _ | refine Chg.then_new ?_ HN_wL.out | refine Chg.then_new ?_ HN_wM.out)))
                (first
                  | (go_at_call 16
                     with_reducible refine (HLa.out _).mono ?_
                     rintro e wL ⟨rfl, hNwL⟩
                     have HN_wL := Lib.hid hNwL
                     clear hNwL)
                  | (go_at_call 16
                     with_reducible refine (HLb.out _).mono ?_
                     rintro e wM ⟨rfl, hNwM⟩
                     have HN_wM := Lib.hid hNwM
                     clear hNwM))
              all_goals
                go_wp2_with fail
                go_meet
                case rel => exact ⟨rfl, by ((with_reducible repeat (first | exact Chg.refl _ _ | refine Chg.drew ?_ | refine Chg.alloc ?_ _ | refine Chg.then_new ?_ HN_wL.out | refine Chg.then_new ?_ HN_wM.out)); fail_if_success (have := True.intro))⟩
            obtain ⟨rfl, rfl, rfl, hd⟩ := hd
            have cA0 : w4.cell? ⟨w.heap.size, 0, none⟩ = some (.int .i64 o) := (HA_4.out.cell 0).trans rfl
            have cA1 : w4.cell? ⟨w.heap.size, 1, none⟩ = some (.int .i64 t) := (HA_4.out.cell 1).trans rfl
            have cA2 : w4.cell? ⟨w.heap.size, 2, none⟩ = some (.int .i64 c) := (HA_4.out.cell 2).trans rfl
            have cA3 : w4.cell? ⟨w.heap.size, 3, none⟩ = some (.int .i64 v) := (HA_4.out.cell 3).trans rfl
            have lA := HA_4.out.lt
            have cB0 : w4.cell? ⟨w.heap.size + 1, 0, none⟩ = some (.int .i64 o) := (HB_4.out.cell 0).trans rfl
            have cB1 : w4.cell? ⟨w.heap.size + 1, 1, none⟩ = some (.int .i64 t) := (HB_4.out.cell 1).trans rfl
            have cB2 : w4.cell? ⟨w.heap.size + 1, 2, none⟩ = some (.int .i64 c) := (HB_4.out.cell 2).trans rfl
            have cB3 : w4.cell? ⟨w.heap.size + 1, 3, none⟩ = some (.int .i64 u) := (HB_4.out.cell 3).trans rfl
            have lB := HB_4.out.lt
            have HK : Hid (∀ wx, New w4 wx → (wx.cell? ⟨w.heap.size, 0, none⟩ = some (.int .i64 o) ∧ wx.cell? ⟨w.heap.size, 1, none⟩ = some (.int .i64 t) ∧ wx.cell? ⟨w.heap.size, 2, none⟩ = some (.int .i64 c) ∧ wx.cell? ⟨w.heap.size, 3, none⟩ = some (.int .i64 v) ∧ wx.cell? ⟨w.heap.size + 1, 0, none⟩ = some (.int .i64 o) ∧ wx.cell? ⟨w.heap.size + 1, 1, none⟩ = some (.int .i64 t) ∧ wx.cell? ⟨w.heap.size + 1, 2, none⟩ = some (.int .i64 c) ∧ wx.cell? ⟨w.heap.size + 1, 3, none⟩ = some (.int .i64 u))) := fun wx h => ⟨((HA_4.out.keep h).cell 0).trans rfl, ((HA_4.out.keep h).cell 1).trans rfl, ((HA_4.out.keep h).cell 2).trans rfl, ((HA_4.out.keep h).cell 3).trans rfl, ((HB_4.out.keep h).cell 0).trans rfl, ((HB_4.out.keep h).cell 1).trans rfl, ((HB_4.out.keep h).cell 2).trans rfl, ((HB_4.out.keep h).cell 3).trans rfl⟩
            go_wp2_with fail
            go_region_held_law (fun wx => wx.cell? ⟨w.heap.size, 0, none⟩ = some (.int .i64 o) ∧ wx.cell? ⟨w.heap.size, 1, none⟩ = some (.int .i64 t) ∧ wx.cell? ⟨w.heap.size, 2, none⟩ = some (.int .i64 c) ∧ wx.cell? ⟨w.heap.size, 3, none⟩ = some (.int .i64 v) ∧ wx.cell? ⟨w.heap.size + 1, 0, none⟩ = some (.int .i64 o) ∧ wx.cell? ⟨w.heap.size + 1, 1, none⟩ = some (.int .i64 t) ∧ wx.cell? ⟨w.heap.size + 1, 2, none⟩ = some (.int .i64 c) ∧ wx.cell? ⟨w.heap.size + 1, 3, none⟩ = some (.int .i64 u))
              (with_reducible refine HK.out _ ?_; (with_reducible repeat (first | exact Chg.refl _ _ | refine Chg.drew ?_ | refine Chg.alloc ?_ _ | refine Chg.then_new ?_ HN_wL.out | refine Chg.then_new ?_ HN_wM.out)))
              (first
                | (go_at_call 16
                   with_reducible refine (HLa.out _).mono ?_
                   rintro e wL ⟨rfl, hNwL⟩
                   have HN_wL := Lib.hid hNwL
                   clear hNwL)
                | (go_at_call 16
                   with_reducible refine (HLb.out _).mono ?_
                   rintro e wM ⟨rfl, hNwM⟩
                   have HN_wM := Lib.hid hNwM
                   clear hNwM))
            all_goals
              go_wp2_with fail
              go_meet
              case rel => exact ⟨rfl, by ((with_reducible repeat (first | exact Chg.refl _ _ | refine Chg.drew ?_ | refine Chg.alloc ?_ _ | refine Chg.then_new ?_ HN_wL.out | refine Chg.then_new ?_ HN_wM.out)); fail_if_success (have := True.intro))⟩
      case rest =>
      obtain ⟨rfl, hN⟩ := hcut
      obtain ⟨w5, rfl⟩ : ∃ w5, w5 = wc := ⟨_, rfl⟩
      have HA_5 := Lib.hid (HA_4.out.keep hN)
      have HB_5 := Lib.hid (HB_4.out.keep hN)
      have HN_5 := Lib.hid (HN_4.out.then_new hN)
      clear HA_4 HB_4 HN_4 hN
      clear Hlev Hsame Hdiff HLb
      by_cases h255 : v = 255
      · obtain ⟨e1, e2⟩ := rol_last (k := ⟨o, t, c, v⟩) Hra.out h255
        rw [e1, e2] at HRo
        clear e1 e2
        have h' : (v == 255) = true := beq_iff_eq.2 h255
        clear h255
        change Hid (∀ w, Calls Try.prog 19 _ w fun e w' => e = .returned (.tuple #[.agg #[.int .i64 0, .int .i64 0, .int .i64 0, .int .i64 0], .int .i64 29]) ∧ New w w') at HRo
        have cA0 : w5.cell? ⟨w.heap.size, 0, none⟩ = some (.int .i64 o) := (HA_5.out.cell 0).trans rfl
        have cA1 : w5.cell? ⟨w.heap.size, 1, none⟩ = some (.int .i64 t) := (HA_5.out.cell 1).trans rfl
        have cA2 : w5.cell? ⟨w.heap.size, 2, none⟩ = some (.int .i64 c) := (HA_5.out.cell 2).trans rfl
        have cA3 : w5.cell? ⟨w.heap.size, 3, none⟩ = some (.int .i64 v) := (HA_5.out.cell 3).trans rfl
        have lA := HA_5.out.lt
        have cB0 : w5.cell? ⟨w.heap.size + 1, 0, none⟩ = some (.int .i64 p) := (HB_5.out.cell 0).trans rfl
        have cB1 : w5.cell? ⟨w.heap.size + 1, 1, none⟩ = some (.int .i64 q) := (HB_5.out.cell 1).trans rfl
        have cB2 : w5.cell? ⟨w.heap.size + 1, 2, none⟩ = some (.int .i64 d) := (HB_5.out.cell 2).trans rfl
        have cB3 : w5.cell? ⟨w.heap.size + 1, 3, none⟩ = some (.int .i64 u) := (HB_5.out.cell 3).trans rfl
        have lB := HB_5.out.lt
        go_wp2_with fail
        with_reducible refine (HRo.out _).mono ?_
        rintro e w6 ⟨rfl, hN⟩
        have HA_6 := Lib.hid (HA_5.out.keep hN)
        have HB_6 := Lib.hid (HB_5.out.keep hN)
        have HN_6 := Lib.hid (HN_5.out.then_new hN)
        clear HA_5 HB_5 HN_5 cA0 cA1 cA2 cA3 lA cB0 cB1 cB2 cB3 lB hN
        have cA0 : w6.cell? ⟨w.heap.size, 0, none⟩ = some (.int .i64 o) := (HA_6.out.cell 0).trans rfl
        have cA1 : w6.cell? ⟨w.heap.size, 1, none⟩ = some (.int .i64 t) := (HA_6.out.cell 1).trans rfl
        have cA2 : w6.cell? ⟨w.heap.size, 2, none⟩ = some (.int .i64 c) := (HA_6.out.cell 2).trans rfl
        have cA3 : w6.cell? ⟨w.heap.size, 3, none⟩ = some (.int .i64 v) := (HA_6.out.cell 3).trans rfl
        have lA := HA_6.out.lt
        have cB0 : w6.cell? ⟨w.heap.size + 1, 0, none⟩ = some (.int .i64 p) := (HB_6.out.cell 0).trans rfl
        have cB1 : w6.cell? ⟨w.heap.size + 1, 1, none⟩ = some (.int .i64 q) := (HB_6.out.cell 1).trans rfl
        have cB2 : w6.cell? ⟨w.heap.size + 1, 2, none⟩ = some (.int .i64 d) := (HB_6.out.cell 2).trans rfl
        have cB3 : w6.cell? ⟨w.heap.size + 1, 3, none⟩ = some (.int .i64 u) := (HB_6.out.cell 3).trans rfl
        have lB := HB_6.out.lt
        go_wp2_with fail
        go_ret
        exact ⟨rfl, (HN_6.out.alloc (.cells #[.int .i64 0, .int .i64 0, .int .i64 0, .int .i64 0] 23))⟩
      · obtain ⟨e1, e2⟩ := rol_fine (k := ⟨o, t, c, v⟩) Hra.out h255
        rw [e1, e2] at HRo
        clear e1 e2
        obtain ⟨hr1, hr2⟩ := Hrol.out h255
        rw [hr1] at HFr
        rw [hr2] at HLr
        clear hr1 hr2 h255
        change Hid (∀ w, Calls Try.prog 19 _ w fun e w' => e = .returned (.tuple #[.agg #[.int .i64 o, .int .i64 t, .int .i64 c, .int .i64 (v + 1)], .int .i64 0]) ∧ New w w') at HRo
        have cA0 : w5.cell? ⟨w.heap.size, 0, none⟩ = some (.int .i64 o) := (HA_5.out.cell 0).trans rfl
        have cA1 : w5.cell? ⟨w.heap.size, 1, none⟩ = some (.int .i64 t) := (HA_5.out.cell 1).trans rfl
        have cA2 : w5.cell? ⟨w.heap.size, 2, none⟩ = some (.int .i64 c) := (HA_5.out.cell 2).trans rfl
        have cA3 : w5.cell? ⟨w.heap.size, 3, none⟩ = some (.int .i64 v) := (HA_5.out.cell 3).trans rfl
        have lA := HA_5.out.lt
        have cB0 : w5.cell? ⟨w.heap.size + 1, 0, none⟩ = some (.int .i64 p) := (HB_5.out.cell 0).trans rfl
        have cB1 : w5.cell? ⟨w.heap.size + 1, 1, none⟩ = some (.int .i64 q) := (HB_5.out.cell 1).trans rfl
        have cB2 : w5.cell? ⟨w.heap.size + 1, 2, none⟩ = some (.int .i64 d) := (HB_5.out.cell 2).trans rfl
        have cB3 : w5.cell? ⟨w.heap.size + 1, 3, none⟩ = some (.int .i64 u) := (HB_5.out.cell 3).trans rfl
        have lB := HB_5.out.lt
        go_wp2_with fail
        with_reducible refine (HRo.out _).mono ?_
        rintro e w6 ⟨rfl, hN⟩
        have HA_6 := Lib.hid (HA_5.out.keep hN)
        have HB_6 := Lib.hid (HB_5.out.keep hN)
        have HN_6 := Lib.hid (HN_5.out.then_new hN)
        clear HA_5 HB_5 HN_5 cA0 cA1 cA2 cA3 lA cB0 cB1 cB2 cB3 lB hN
        have cA0 : w6.cell? ⟨w.heap.size, 0, none⟩ = some (.int .i64 o) := (HA_6.out.cell 0).trans rfl
        have cA1 : w6.cell? ⟨w.heap.size, 1, none⟩ = some (.int .i64 t) := (HA_6.out.cell 1).trans rfl
        have cA2 : w6.cell? ⟨w.heap.size, 2, none⟩ = some (.int .i64 c) := (HA_6.out.cell 2).trans rfl
        have cA3 : w6.cell? ⟨w.heap.size, 3, none⟩ = some (.int .i64 v) := (HA_6.out.cell 3).trans rfl
        have lA := HA_6.out.lt
        have cB0 : w6.cell? ⟨w.heap.size + 1, 0, none⟩ = some (.int .i64 p) := (HB_6.out.cell 0).trans rfl
        have cB1 : w6.cell? ⟨w.heap.size + 1, 1, none⟩ = some (.int .i64 q) := (HB_6.out.cell 1).trans rfl
        have cB2 : w6.cell? ⟨w.heap.size + 1, 2, none⟩ = some (.int .i64 d) := (HB_6.out.cell 2).trans rfl
        have cB3 : w6.cell? ⟨w.heap.size + 1, 3, none⟩ = some (.int .i64 u) := (HB_6.out.cell 3).trans rfl
        have lB := HB_6.out.lt
        go_upto_region 9 with (fail)
        obtain ⟨w7, hw7⟩ : ∃ w7, w7 = (w6.alloc (.cells #[.int .i64 o, .int .i64 t, .int .i64 c, .int .i64 (v + 1)] 23)) := ⟨_, rfl⟩
        have hN : New (w6.alloc (.cells #[.int .i64 o, .int .i64 t, .int .i64 c, .int .i64 (v + 1)] 23)) w7 := by rw [hw7]; exact Chg.refl _ _
        rw [← hw7]
        clear hw7
        have HA_7 := Lib.hid ((HA_6.out.alloc (.cells #[.int .i64 o, .int .i64 t, .int .i64 c, .int .i64 (v + 1)] 23)).keep hN)
        have HB_7 := Lib.hid ((HB_6.out.alloc (.cells #[.int .i64 o, .int .i64 t, .int .i64 c, .int .i64 (v + 1)] 23)).keep hN)
        have HR_7 := Lib.hid ((Has.new_at w6 23 #[.int .i64 o, .int .i64 t, .int .i64 c, .int .i64 (v + 1)] (w6.heap.size) (by simp)).keep hN)
        have HN_7 := Lib.hid ((HN_6.out.alloc (.cells #[.int .i64 o, .int .i64 t, .int .i64 c, .int .i64 (v + 1)] 23)).then_new hN)
        clear HA_6 HB_6 HN_6 cA0 cA1 cA2 cA3 lA cB0 cB1 cB2 cB3 lB hN
        cases x with
        | true =>
          have cA0 : w7.cell? ⟨w.heap.size, 0, none⟩ = some (.int .i64 o) := (HA_7.out.cell 0).trans rfl
          have cA1 : w7.cell? ⟨w.heap.size, 1, none⟩ = some (.int .i64 t) := (HA_7.out.cell 1).trans rfl
          have cA2 : w7.cell? ⟨w.heap.size, 2, none⟩ = some (.int .i64 c) := (HA_7.out.cell 2).trans rfl
          have cA3 : w7.cell? ⟨w.heap.size, 3, none⟩ = some (.int .i64 v) := (HA_7.out.cell 3).trans rfl
          have lA := HA_7.out.lt
          have cB0 : w7.cell? ⟨w.heap.size + 1, 0, none⟩ = some (.int .i64 p) := (HB_7.out.cell 0).trans rfl
          have cB1 : w7.cell? ⟨w.heap.size + 1, 1, none⟩ = some (.int .i64 q) := (HB_7.out.cell 1).trans rfl
          have cB2 : w7.cell? ⟨w.heap.size + 1, 2, none⟩ = some (.int .i64 d) := (HB_7.out.cell 2).trans rfl
          have cB3 : w7.cell? ⟨w.heap.size + 1, 3, none⟩ = some (.int .i64 u) := (HB_7.out.cell 3).trans rfl
          have lB := HB_7.out.lt
          have cR0 : w7.cell? ⟨w6.heap.size, 0, none⟩ = some (.int .i64 o) := (HR_7.out.cell 0).trans rfl
          have cR1 : w7.cell? ⟨w6.heap.size, 1, none⟩ = some (.int .i64 t) := (HR_7.out.cell 1).trans rfl
          have cR2 : w7.cell? ⟨w6.heap.size, 2, none⟩ = some (.int .i64 c) := (HR_7.out.cell 2).trans rfl
          have cR3 : w7.cell? ⟨w6.heap.size, 3, none⟩ = some (.int .i64 (v + 1)) := (HR_7.out.cell 3).trans rfl
          have lR := HR_7.out.lt
          have Hno := HrolB.out rfl
          have Hrb : Hid (∀ (g m : Nat) w, Has w g 23 #[.int .i64 p, .int .i64 q, .int .i64 d, .int .i64 u] → Calls Try.prog 18 #[.agg #[.int .i64 o, .int .i64 t, .int .i64 c, .int .i64 (v + 1)], .slice (some ⟨g, 0, none⟩) 1 m] w fun e w' => e = .returned (.bool false) ∧ New w w') := fun g m w h => by have hh := From_one ⟨o, t, c, v + 1⟩ ⟨p, q, d, u⟩ g m w h; rw [Hno] at hh; exact hh
          have HK : Hid (∀ wx, New w7 wx → (wx.cell? ⟨w.heap.size, 0, none⟩ = some (.int .i64 o) ∧ wx.cell? ⟨w.heap.size, 1, none⟩ = some (.int .i64 t) ∧ wx.cell? ⟨w.heap.size, 2, none⟩ = some (.int .i64 c) ∧ wx.cell? ⟨w.heap.size, 3, none⟩ = some (.int .i64 v) ∧ wx.cell? ⟨w.heap.size + 1, 0, none⟩ = some (.int .i64 p) ∧ wx.cell? ⟨w.heap.size + 1, 1, none⟩ = some (.int .i64 q) ∧ wx.cell? ⟨w.heap.size + 1, 2, none⟩ = some (.int .i64 d) ∧ wx.cell? ⟨w.heap.size + 1, 3, none⟩ = some (.int .i64 u) ∧ wx.cell? ⟨w6.heap.size, 0, none⟩ = some (.int .i64 o) ∧ wx.cell? ⟨w6.heap.size, 1, none⟩ = some (.int .i64 t) ∧ wx.cell? ⟨w6.heap.size, 2, none⟩ = some (.int .i64 c) ∧ wx.cell? ⟨w6.heap.size, 3, none⟩ = some (.int .i64 (v + 1)))) := fun wx h => ⟨((HA_7.out.keep h).cell 0).trans rfl, ((HA_7.out.keep h).cell 1).trans rfl, ((HA_7.out.keep h).cell 2).trans rfl, ((HA_7.out.keep h).cell 3).trans rfl, ((HB_7.out.keep h).cell 0).trans rfl, ((HB_7.out.keep h).cell 1).trans rfl, ((HB_7.out.keep h).cell 2).trans rfl, ((HB_7.out.keep h).cell 3).trans rfl, ((HR_7.out.keep h).cell 0).trans rfl, ((HR_7.out.keep h).cell 1).trans rfl, ((HR_7.out.keep h).cell 2).trans rfl, ((HR_7.out.keep h).cell 3).trans rfl⟩
          go_wp2_with fail
          go_region_held_law (fun wx => wx.cell? ⟨w.heap.size, 0, none⟩ = some (.int .i64 o) ∧ wx.cell? ⟨w.heap.size, 1, none⟩ = some (.int .i64 t) ∧ wx.cell? ⟨w.heap.size, 2, none⟩ = some (.int .i64 c) ∧ wx.cell? ⟨w.heap.size, 3, none⟩ = some (.int .i64 v) ∧ wx.cell? ⟨w.heap.size + 1, 0, none⟩ = some (.int .i64 p) ∧ wx.cell? ⟨w.heap.size + 1, 1, none⟩ = some (.int .i64 q) ∧ wx.cell? ⟨w.heap.size + 1, 2, none⟩ = some (.int .i64 d) ∧ wx.cell? ⟨w.heap.size + 1, 3, none⟩ = some (.int .i64 u) ∧ wx.cell? ⟨w6.heap.size, 0, none⟩ = some (.int .i64 o) ∧ wx.cell? ⟨w6.heap.size, 1, none⟩ = some (.int .i64 t) ∧ wx.cell? ⟨w6.heap.size, 2, none⟩ = some (.int .i64 c) ∧ wx.cell? ⟨w6.heap.size, 3, none⟩ = some (.int .i64 (v + 1)))
            (with_reducible refine HK.out _ ?_; (with_reducible repeat (first | exact Chg.refl _ _ | refine Chg.drew ?_ | refine Chg.alloc ?_ _ | refine Chg.then_new ?_ HN_wL.out | refine Chg.then_new ?_ HN_wM.out | refine Chg.then_new ?_ HN_wX.out | refine Chg.then_new ?_ HN_wY.out | refine Chg.then_new ?_ HN_wZ.out)))
            (first
              | (go_at_call 16
                 with_reducible refine (HLr.out _).mono ?_
                 rintro e wL ⟨rfl, hNwL⟩
                 have HN_wL := Lib.hid hNwL
                 clear hNwL)
              | (go_at_call 16
                 with_reducible refine (HLa.out _).mono ?_
                 rintro e wM ⟨rfl, hNwM⟩
                 have HN_wM := Lib.hid hNwM
                 clear hNwM)
              | (go_at_call 18
                 with_reducible refine (Hrb.out _ _ _ ?hH).mono ?_
                 case hH => ((with_reducible repeat (first | exact Has.new_at _ _ _ _ rfl | exact Has.new_at _ _ _ _ (World.size_alloc _ _) | refine Has.drew ?_ | refine Has.keep ?_ HN_wL.out | refine Has.keep ?_ HN_wM.out | refine Has.keep ?_ HN_wX.out | refine Has.keep ?_ HN_wY.out | refine Has.keep ?_ HN_wZ.out | refine Has.alloc ?_ _)); fail_if_success (have := True.intro))
                 rintro e wX ⟨rfl, hNwX⟩
                 have HN_wX := Lib.hid hNwX
                 clear hNwX)
              | (go_at_call 18
                 with_reducible refine (HFa.out _).mono ?_
                 rintro e wY ⟨rfl, hNwY⟩
                 have HN_wY := Lib.hid hNwY
                 clear hNwY)
              | (go_at_call 18
                 with_reducible refine (HFr.out _).mono ?_
                 rintro e wZ ⟨rfl, hNwZ⟩
                 have HN_wZ := Lib.hid hNwZ
                 clear hNwZ))
          all_goals
            go_wp2_with fail
            go_ret
            exact ⟨rfl, Chg.trans HN_7.out (by ((with_reducible repeat (first | exact Chg.refl _ _ | refine Chg.drew ?_ | refine Chg.alloc ?_ _ | refine Chg.then_new ?_ HN_wL.out | refine Chg.then_new ?_ HN_wM.out | refine Chg.then_new ?_ HN_wX.out | refine Chg.then_new ?_ HN_wY.out | refine Chg.then_new ?_ HN_wZ.out)); fail_if_success (have := True.intro))) (fun _ _ h => h)⟩
        | false =>
          have cA0 : w7.cell? ⟨w.heap.size, 0, none⟩ = some (.int .i64 o) := (HA_7.out.cell 0).trans rfl
          have cA1 : w7.cell? ⟨w.heap.size, 1, none⟩ = some (.int .i64 t) := (HA_7.out.cell 1).trans rfl
          have cA2 : w7.cell? ⟨w.heap.size, 2, none⟩ = some (.int .i64 c) := (HA_7.out.cell 2).trans rfl
          have cA3 : w7.cell? ⟨w.heap.size, 3, none⟩ = some (.int .i64 v) := (HA_7.out.cell 3).trans rfl
          have lA := HA_7.out.lt
          have cB0 : w7.cell? ⟨w.heap.size + 1, 0, none⟩ = some (.int .i64 p) := (HB_7.out.cell 0).trans rfl
          have cB1 : w7.cell? ⟨w.heap.size + 1, 1, none⟩ = some (.int .i64 q) := (HB_7.out.cell 1).trans rfl
          have cB2 : w7.cell? ⟨w.heap.size + 1, 2, none⟩ = some (.int .i64 d) := (HB_7.out.cell 2).trans rfl
          have cB3 : w7.cell? ⟨w.heap.size + 1, 3, none⟩ = some (.int .i64 u) := (HB_7.out.cell 3).trans rfl
          have lB := HB_7.out.lt
          have cR0 : w7.cell? ⟨w6.heap.size, 0, none⟩ = some (.int .i64 o) := (HR_7.out.cell 0).trans rfl
          have cR1 : w7.cell? ⟨w6.heap.size, 1, none⟩ = some (.int .i64 t) := (HR_7.out.cell 1).trans rfl
          have cR2 : w7.cell? ⟨w6.heap.size, 2, none⟩ = some (.int .i64 c) := (HR_7.out.cell 2).trans rfl
          have cR3 : w7.cell? ⟨w6.heap.size, 3, none⟩ = some (.int .i64 (v + 1)) := (HR_7.out.cell 3).trans rfl
          have lR := HR_7.out.lt
          have HK : Hid (∀ wx, New w7 wx → (wx.cell? ⟨w.heap.size, 0, none⟩ = some (.int .i64 o) ∧ wx.cell? ⟨w.heap.size, 1, none⟩ = some (.int .i64 t) ∧ wx.cell? ⟨w.heap.size, 2, none⟩ = some (.int .i64 c) ∧ wx.cell? ⟨w.heap.size, 3, none⟩ = some (.int .i64 v) ∧ wx.cell? ⟨w.heap.size + 1, 0, none⟩ = some (.int .i64 p) ∧ wx.cell? ⟨w.heap.size + 1, 1, none⟩ = some (.int .i64 q) ∧ wx.cell? ⟨w.heap.size + 1, 2, none⟩ = some (.int .i64 d) ∧ wx.cell? ⟨w.heap.size + 1, 3, none⟩ = some (.int .i64 u) ∧ wx.cell? ⟨w6.heap.size, 0, none⟩ = some (.int .i64 o) ∧ wx.cell? ⟨w6.heap.size, 1, none⟩ = some (.int .i64 t) ∧ wx.cell? ⟨w6.heap.size, 2, none⟩ = some (.int .i64 c) ∧ wx.cell? ⟨w6.heap.size, 3, none⟩ = some (.int .i64 (v + 1)))) := fun wx h => ⟨((HA_7.out.keep h).cell 0).trans rfl, ((HA_7.out.keep h).cell 1).trans rfl, ((HA_7.out.keep h).cell 2).trans rfl, ((HA_7.out.keep h).cell 3).trans rfl, ((HB_7.out.keep h).cell 0).trans rfl, ((HB_7.out.keep h).cell 1).trans rfl, ((HB_7.out.keep h).cell 2).trans rfl, ((HB_7.out.keep h).cell 3).trans rfl, ((HR_7.out.keep h).cell 0).trans rfl, ((HR_7.out.keep h).cell 1).trans rfl, ((HR_7.out.keep h).cell 2).trans rfl, ((HR_7.out.keep h).cell 3).trans rfl⟩
          first
          | (go_region_with (first
              | (go_at_call 16
                 with_reducible refine (HLr.out _).mono ?_
                 rintro e wL ⟨rfl, hNwL⟩
                 have HN_wL := Lib.hid hNwL
                 clear hNwL
                 obtain ⟨kwL_0, kwL_1, kwL_2, kwL_3, kwL_4, kwL_5, kwL_6, kwL_7, kwL_8, kwL_9, kwL_10, kwL_11⟩ := HK.out wL (by ((with_reducible repeat (first | exact Chg.refl _ _ | refine Chg.drew ?_ | refine Chg.alloc ?_ _ | refine Chg.then_new ?_ HN_wL.out | refine Chg.then_new ?_ HN_wM.out | refine Chg.then_new ?_ HN_wX.out | refine Chg.then_new ?_ HN_wY.out | refine Chg.then_new ?_ HN_wZ.out)); fail_if_success (have := True.intro))))
              | (go_at_call 16
                 with_reducible refine (HLa.out _).mono ?_
                 rintro e wM ⟨rfl, hNwM⟩
                 have HN_wM := Lib.hid hNwM
                 clear hNwM
                 obtain ⟨kwM_0, kwM_1, kwM_2, kwM_3, kwM_4, kwM_5, kwM_6, kwM_7, kwM_8, kwM_9, kwM_10, kwM_11⟩ := HK.out wM (by ((with_reducible repeat (first | exact Chg.refl _ _ | refine Chg.drew ?_ | refine Chg.alloc ?_ _ | refine Chg.then_new ?_ HN_wL.out | refine Chg.then_new ?_ HN_wM.out | refine Chg.then_new ?_ HN_wX.out | refine Chg.then_new ?_ HN_wY.out | refine Chg.then_new ?_ HN_wZ.out)); fail_if_success (have := True.intro))))
              | (go_at_call 18
                 with_reducible refine (HFa.out _).mono ?_
                 rintro e wY ⟨rfl, hNwY⟩
                 have HN_wY := Lib.hid hNwY
                 clear hNwY
                 obtain ⟨kwY_0, kwY_1, kwY_2, kwY_3, kwY_4, kwY_5, kwY_6, kwY_7, kwY_8, kwY_9, kwY_10, kwY_11⟩ := HK.out wY (by ((with_reducible repeat (first | exact Chg.refl _ _ | refine Chg.drew ?_ | refine Chg.alloc ?_ _ | refine Chg.then_new ?_ HN_wL.out | refine Chg.then_new ?_ HN_wM.out | refine Chg.then_new ?_ HN_wX.out | refine Chg.then_new ?_ HN_wY.out | refine Chg.then_new ?_ HN_wZ.out)); fail_if_success (have := True.intro))))
              | (go_at_call 18
                 with_reducible refine (HFr.out _).mono ?_
                 rintro e wZ ⟨rfl, hNwZ⟩
                 have HN_wZ := Lib.hid hNwZ
                 clear hNwZ)))
          | fail
          all_goals
            go_wp2_with fail
            go_ret
            exact ⟨rfl, Chg.trans HN_7.out (by ((with_reducible repeat (first | exact Chg.refl _ _ | refine Chg.drew ?_ | refine Chg.alloc ?_ _ | refine Chg.then_new ?_ HN_wL.out | refine Chg.then_new ?_ HN_wM.out | refine Chg.then_new ?_ HN_wX.out | refine Chg.then_new ?_ HN_wY.out | refine Chg.then_new ?_ HN_wZ.out)); fail_if_success (have := True.intro))) (fun _ _ h => h)⟩
end Go.Proofs.Ytkegafkmcdkphaa
