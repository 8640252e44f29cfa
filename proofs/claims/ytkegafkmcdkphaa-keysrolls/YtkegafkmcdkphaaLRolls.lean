/-
  The law KeysRolls, walked.
-/
import Derived.Test.YtkegafkmcdkphaaKyW
import Derived.Test.YtkegafkmcdkphaaKyT
namespace Go.Proofs.Ytkegafkmcdkphaa
open Go.RowKit
theorem rol_no {k : Ky} (h : rightB k = false) : rolK k = kz ∧ rolE k = 2 := by unfold rolK rolE; rw [h]; exact ⟨rfl, rfl⟩
theorem rol_end {k : Ky} (h : rightB k = true) (hv : k.v = 255) : rolK k = kz ∧ rolE k = 29 := by unfold rolK rolE; rw [if_pos h, if_pos h, if_pos hv, if_pos hv]; exact ⟨rfl, rfl⟩
theorem rol_yes {k : Ky} (h : rightB k = true) (hv : k.v ≠ 255) : rolK k = ⟨k.o, k.t, k.c, k.v + 1⟩ ∧ rolE k = 0 := by unfold rolK rolE; rw [if_pos h, if_pos h, if_neg hv, if_neg hv]; exact ⟨rfl, rfl⟩
theorem rol_from (k : Ky) : fromB ⟨k.o, k.t, k.c, k.v + 1⟩ k = false := fromB_not fun h => by have := h.2.2.2.1; simp only at this; omega
set_option maxRecDepth 100000 in
set_option maxHeartbeats 4000000 in
theorem rolls_walk (k : Ky) (hk : I64 k.o ∧ I64 k.t ∧ I64 k.c ∧ I64 k.v) (x0 x1 x2 x3 x4 x5 x6 x7 x9 x10 x11 x12 : Int) (x8 x13 : Bool) (w : World) : Calls Try.prog 4 #[k.V, PrV x0 x1 x2 x3 x4 x5 x6 x7 x9 x10 x11 x12 x8 x13] w fun e w' => e = .returned (.bool true) ∧ New w w' := by
  have HRo := Lib.hid (Roll_any k)
  have HRi := Lib.hid (rRight_any k)
  have HPr0 := Lib.hid (fun w => Product_any x0 x1 x2 x3 x4 x5 x6 x7 x9 x10 x11 x12 x8 x13 w)
  have HBa0 := Lib.hid (fun w => Batch_any k.o k.v w)
  have HLw := Lib.hid (rLevel_any ⟨x1, x0, x3, x4⟩)
  have HLb := Lib.hid (rLevel_any ⟨k.o, 0, 0, k.v⟩)
  have Hfr := Lib.hid (rol_from k)
  unfold proK proE at HPr0
  unfold batK batE at HBa0
  generalize levI ⟨x1, x0, x3, x4⟩ = lp at HPr0 HLw
  generalize levI ⟨k.o, 0, 0, k.v⟩ = lb at HBa0 HLb
  obtain ⟨b, hb⟩ : ∃ b, rightB k = b := ⟨_, rfl⟩
  rw [hb] at HRi
  have Hkv : Hid (I64 k.v) := hk.2.2.2
  clear hk
  cases b with
  | false =>
    obtain ⟨e1, e2⟩ := rol_no hb
    rw [e1, e2] at HRo
    clear e1 e2 hb
    obtain ⟨o, t, c, v⟩ := k
    change Hid (∀ w, Calls Try.prog 19 _ w fun e w' => e = .returned (.tuple #[.agg #[.int .i64 0, .int .i64 0, .int .i64 0, .int .i64 0], .int .i64 2]) ∧ New w w') at HRo
    go_enter Try.func4, Try.ntmps4
    go_wp2_with fail
    with_reducible refine (awake_any _).mono ?_
    rintro e w1 ⟨rfl, hN⟩
    have HK_1 := Lib.hid (((Has.new_at w 23 #[.int .i64 o, .int .i64 t, .int .i64 c, .int .i64 v] (w.heap.size) (by simp)).alloc (.cells #[.int .i64 x0, .int .i64 x1, .int .i64 x2, .int .i64 x3, .int .i64 x4, .int .i64 x5, .int .i64 x6, .int .i64 x7, .bool x8, .int .i64 x9, .int .i64 x10, .int .i64 x11, .int .i64 x12, .bool x13] 41)).keep hN)
    have HP_1 := Lib.hid ((Has.new_at (w.alloc (.cells #[.int .i64 o, .int .i64 t, .int .i64 c, .int .i64 v] 23)) 41 #[.int .i64 x0, .int .i64 x1, .int .i64 x2, .int .i64 x3, .int .i64 x4, .int .i64 x5, .int .i64 x6, .int .i64 x7, .bool x8, .int .i64 x9, .int .i64 x10, .int .i64 x11, .int .i64 x12, .bool x13] (w.heap.size + 1) (by simp)).keep hN)
    have HN_1 := Lib.hid ((((Chg.refl (fun _ => False) w).alloc (.cells #[.int .i64 o, .int .i64 t, .int .i64 c, .int .i64 v] 23)).alloc (.cells #[.int .i64 x0, .int .i64 x1, .int .i64 x2, .int .i64 x3, .int .i64 x4, .int .i64 x5, .int .i64 x6, .int .i64 x7, .bool x8, .int .i64 x9, .int .i64 x10, .int .i64 x11, .int .i64 x12, .bool x13] 41)).then_new hN)
    clear hN
    have cK0 : w1.cell? ⟨w.heap.size, 0, none⟩ = some (.int .i64 o) := (HK_1.out.cell 0).trans rfl
    have cK1 : w1.cell? ⟨w.heap.size, 1, none⟩ = some (.int .i64 t) := (HK_1.out.cell 1).trans rfl
    have cK2 : w1.cell? ⟨w.heap.size, 2, none⟩ = some (.int .i64 c) := (HK_1.out.cell 2).trans rfl
    have cK3 : w1.cell? ⟨w.heap.size, 3, none⟩ = some (.int .i64 v) := (HK_1.out.cell 3).trans rfl
    have lK := HK_1.out.lt
    have cP0 : w1.cell? ⟨w.heap.size + 1, 0, none⟩ = some (.int .i64 x0) := (HP_1.out.cell 0).trans rfl
    have cP1 : w1.cell? ⟨w.heap.size + 1, 1, none⟩ = some (.int .i64 x1) := (HP_1.out.cell 1).trans rfl
    have cP2 : w1.cell? ⟨w.heap.size + 1, 2, none⟩ = some (.int .i64 x2) := (HP_1.out.cell 2).trans rfl
    have cP3 : w1.cell? ⟨w.heap.size + 1, 3, none⟩ = some (.int .i64 x3) := (HP_1.out.cell 3).trans rfl
    have cP4 : w1.cell? ⟨w.heap.size + 1, 4, none⟩ = some (.int .i64 x4) := (HP_1.out.cell 4).trans rfl
    have cP5 : w1.cell? ⟨w.heap.size + 1, 5, none⟩ = some (.int .i64 x5) := (HP_1.out.cell 5).trans rfl
    have cP6 : w1.cell? ⟨w.heap.size + 1, 6, none⟩ = some (.int .i64 x6) := (HP_1.out.cell 6).trans rfl
    have cP7 : w1.cell? ⟨w.heap.size + 1, 7, none⟩ = some (.int .i64 x7) := (HP_1.out.cell 7).trans rfl
    have cP8 : w1.cell? ⟨w.heap.size + 1, 8, none⟩ = some (.bool x8) := (HP_1.out.cell 8).trans rfl
    have cP9 : w1.cell? ⟨w.heap.size + 1, 9, none⟩ = some (.int .i64 x9) := (HP_1.out.cell 9).trans rfl
    have cP10 : w1.cell? ⟨w.heap.size + 1, 10, none⟩ = some (.int .i64 x10) := (HP_1.out.cell 10).trans rfl
    have cP11 : w1.cell? ⟨w.heap.size + 1, 11, none⟩ = some (.int .i64 x11) := (HP_1.out.cell 11).trans rfl
    have cP12 : w1.cell? ⟨w.heap.size + 1, 12, none⟩ = some (.int .i64 x12) := (HP_1.out.cell 12).trans rfl
    have cP13 : w1.cell? ⟨w.heap.size + 1, 13, none⟩ = some (.bool x13) := (HP_1.out.cell 13).trans rfl
    have lP := HP_1.out.lt
    go_wp2_with fail
    with_reducible refine (HRo.out _).mono ?_
    rintro e w2 ⟨rfl, hN⟩
    have HK_2 := Lib.hid (HK_1.out.keep hN)
    have HP_2 := Lib.hid (HP_1.out.keep hN)
    have HN_2 := Lib.hid (HN_1.out.then_new hN)
    clear HK_1 HP_1 HN_1 cK0 cK1 cK2 cK3 lK cP0 cP1 cP2 cP3 cP4 cP5 cP6 cP7 cP8 cP9 cP10 cP11 cP12 cP13 lP hN
    have cK0 : w2.cell? ⟨w.heap.size, 0, none⟩ = some (.int .i64 o) := (HK_2.out.cell 0).trans rfl
    have cK1 : w2.cell? ⟨w.heap.size, 1, none⟩ = some (.int .i64 t) := (HK_2.out.cell 1).trans rfl
    have cK2 : w2.cell? ⟨w.heap.size, 2, none⟩ = some (.int .i64 c) := (HK_2.out.cell 2).trans rfl
    have cK3 : w2.cell? ⟨w.heap.size, 3, none⟩ = some (.int .i64 v) := (HK_2.out.cell 3).trans rfl
    have lK := HK_2.out.lt
    have cP0 : w2.cell? ⟨w.heap.size + 1, 0, none⟩ = some (.int .i64 x0) := (HP_2.out.cell 0).trans rfl
    have cP1 : w2.cell? ⟨w.heap.size + 1, 1, none⟩ = some (.int .i64 x1) := (HP_2.out.cell 1).trans rfl
    have cP2 : w2.cell? ⟨w.heap.size + 1, 2, none⟩ = some (.int .i64 x2) := (HP_2.out.cell 2).trans rfl
    have cP3 : w2.cell? ⟨w.heap.size + 1, 3, none⟩ = some (.int .i64 x3) := (HP_2.out.cell 3).trans rfl
    have cP4 : w2.cell? ⟨w.heap.size + 1, 4, none⟩ = some (.int .i64 x4) := (HP_2.out.cell 4).trans rfl
    have cP5 : w2.cell? ⟨w.heap.size + 1, 5, none⟩ = some (.int .i64 x5) := (HP_2.out.cell 5).trans rfl
    have cP6 : w2.cell? ⟨w.heap.size + 1, 6, none⟩ = some (.int .i64 x6) := (HP_2.out.cell 6).trans rfl
    have cP7 : w2.cell? ⟨w.heap.size + 1, 7, none⟩ = some (.int .i64 x7) := (HP_2.out.cell 7).trans rfl
    have cP8 : w2.cell? ⟨w.heap.size + 1, 8, none⟩ = some (.bool x8) := (HP_2.out.cell 8).trans rfl
    have cP9 : w2.cell? ⟨w.heap.size + 1, 9, none⟩ = some (.int .i64 x9) := (HP_2.out.cell 9).trans rfl
    have cP10 : w2.cell? ⟨w.heap.size + 1, 10, none⟩ = some (.int .i64 x10) := (HP_2.out.cell 10).trans rfl
    have cP11 : w2.cell? ⟨w.heap.size + 1, 11, none⟩ = some (.int .i64 x11) := (HP_2.out.cell 11).trans rfl
    have cP12 : w2.cell? ⟨w.heap.size + 1, 12, none⟩ = some (.int .i64 x12) := (HP_2.out.cell 12).trans rfl
    have cP13 : w2.cell? ⟨w.heap.size + 1, 13, none⟩ = some (.bool x13) := (HP_2.out.cell 13).trans rfl
    have lP := HP_2.out.lt
    go_wp2_with fail
    with_reducible refine (HRi.out _).mono ?_
    rintro e w3 ⟨rfl, hN⟩
    have HK_3 := Lib.hid ((HK_2.out.alloc (.cells #[.int .i64 0, .int .i64 0, .int .i64 0, .int .i64 0] 23)).keep hN)
    have HP_3 := Lib.hid ((HP_2.out.alloc (.cells #[.int .i64 0, .int .i64 0, .int .i64 0, .int .i64 0] 23)).keep hN)
    have HR_3 := Lib.hid ((Has.new_at w2 23 #[.int .i64 0, .int .i64 0, .int .i64 0, .int .i64 0] (w2.heap.size) (by simp)).keep hN)
    have HN_3 := Lib.hid ((HN_2.out.alloc (.cells #[.int .i64 0, .int .i64 0, .int .i64 0, .int .i64 0] 23)).then_new hN)
    clear HK_2 HP_2 HN_2 cK0 cK1 cK2 cK3 lK cP0 cP1 cP2 cP3 cP4 cP5 cP6 cP7 cP8 cP9 cP10 cP11 cP12 cP13 lP hN
    by_cases h3 : lp = 3
    · subst h3
      have HPr : Hid (∀ w, Calls Try.prog 20 #[PrV x0 x1 x2 x3 x4 x5 x6 x7 x9 x10 x11 x12 x8 x13] w fun e w' => e = .returned (.tuple #[.agg #[.int .i64 x1, .int .i64 x0, .int .i64 x3, .int .i64 x4], .int .i64 0]) ∧ New w w') := fun w => by have h := HPr0.out w; rw [if_pos rfl, if_pos rfl] at h; exact h
      have cK0 : w3.cell? ⟨w.heap.size, 0, none⟩ = some (.int .i64 o) := (HK_3.out.cell 0).trans rfl
      have cK1 : w3.cell? ⟨w.heap.size, 1, none⟩ = some (.int .i64 t) := (HK_3.out.cell 1).trans rfl
      have cK2 : w3.cell? ⟨w.heap.size, 2, none⟩ = some (.int .i64 c) := (HK_3.out.cell 2).trans rfl
      have cK3 : w3.cell? ⟨w.heap.size, 3, none⟩ = some (.int .i64 v) := (HK_3.out.cell 3).trans rfl
      have lK := HK_3.out.lt
      have cP0 : w3.cell? ⟨w.heap.size + 1, 0, none⟩ = some (.int .i64 x0) := (HP_3.out.cell 0).trans rfl
      have cP1 : w3.cell? ⟨w.heap.size + 1, 1, none⟩ = some (.int .i64 x1) := (HP_3.out.cell 1).trans rfl
      have cP2 : w3.cell? ⟨w.heap.size + 1, 2, none⟩ = some (.int .i64 x2) := (HP_3.out.cell 2).trans rfl
      have cP3 : w3.cell? ⟨w.heap.size + 1, 3, none⟩ = some (.int .i64 x3) := (HP_3.out.cell 3).trans rfl
      have cP4 : w3.cell? ⟨w.heap.size + 1, 4, none⟩ = some (.int .i64 x4) := (HP_3.out.cell 4).trans rfl
      have cP5 : w3.cell? ⟨w.heap.size + 1, 5, none⟩ = some (.int .i64 x5) := (HP_3.out.cell 5).trans rfl
      have cP6 : w3.cell? ⟨w.heap.size + 1, 6, none⟩ = some (.int .i64 x6) := (HP_3.out.cell 6).trans rfl
      have cP7 : w3.cell? ⟨w.heap.size + 1, 7, none⟩ = some (.int .i64 x7) := (HP_3.out.cell 7).trans rfl
      have cP8 : w3.cell? ⟨w.heap.size + 1, 8, none⟩ = some (.bool x8) := (HP_3.out.cell 8).trans rfl
      have cP9 : w3.cell? ⟨w.heap.size + 1, 9, none⟩ = some (.int .i64 x9) := (HP_3.out.cell 9).trans rfl
      have cP10 : w3.cell? ⟨w.heap.size + 1, 10, none⟩ = some (.int .i64 x10) := (HP_3.out.cell 10).trans rfl
      have cP11 : w3.cell? ⟨w.heap.size + 1, 11, none⟩ = some (.int .i64 x11) := (HP_3.out.cell 11).trans rfl
      have cP12 : w3.cell? ⟨w.heap.size + 1, 12, none⟩ = some (.int .i64 x12) := (HP_3.out.cell 12).trans rfl
      have cP13 : w3.cell? ⟨w.heap.size + 1, 13, none⟩ = some (.bool x13) := (HP_3.out.cell 13).trans rfl
      have lP := HP_3.out.lt
      have cR0 : w3.cell? ⟨w2.heap.size, 0, none⟩ = some (.int .i64 0) := (HR_3.out.cell 0).trans rfl
      have cR1 : w3.cell? ⟨w2.heap.size, 1, none⟩ = some (.int .i64 0) := (HR_3.out.cell 1).trans rfl
      have cR2 : w3.cell? ⟨w2.heap.size, 2, none⟩ = some (.int .i64 0) := (HR_3.out.cell 2).trans rfl
      have cR3 : w3.cell? ⟨w2.heap.size, 3, none⟩ = some (.int .i64 0) := (HR_3.out.cell 3).trans rfl
      have lR := HR_3.out.lt
      go_wp2_with fail
      with_reducible refine (HPr.out _).mono ?_
      rintro e w4 ⟨rfl, hN⟩
      have HK_4 := Lib.hid ((HK_3.out.alloc (.cells #[.int .i64 x1, .int .i64 x0, .int .i64 x3, .int .i64 x4] 23)).keep hN)
      have HP_4 := Lib.hid ((HP_3.out.alloc (.cells #[.int .i64 x1, .int .i64 x0, .int .i64 x3, .int .i64 x4] 23)).keep hN)
      have HR_4 := Lib.hid ((HR_3.out.alloc (.cells #[.int .i64 x1, .int .i64 x0, .int .i64 x3, .int .i64 x4] 23)).keep hN)
      have HW_4 := Lib.hid ((Has.new_at w3 23 #[.int .i64 x1, .int .i64 x0, .int .i64 x3, .int .i64 x4] (w3.heap.size) (by simp)).keep hN)
      have HN_4 := Lib.hid ((HN_3.out.alloc (.cells #[.int .i64 x1, .int .i64 x0, .int .i64 x3, .int .i64 x4] 23)).then_new hN)
      clear HK_3 HP_3 HR_3 HN_3 cK0 cK1 cK2 cK3 lK cP0 cP1 cP2 cP3 cP4 cP5 cP6 cP7 cP8 cP9 cP10 cP11 cP12 cP13 lP cR0 cR1 cR2 cR3 lR hN
      by_cases h1 : lb = 1
      · subst h1
        have HBa : Hid (∀ w, Calls Try.prog 21 #[.int .i64 o, .int .i64 v] w fun e w' => e = .returned (.tuple #[.agg #[.int .i64 o, .int .i64 0, .int .i64 0, .int .i64 v], .int .i64 0]) ∧ New w w') := fun w => by have h := HBa0.out w; rw [if_pos rfl, if_pos rfl] at h; exact h
        have cK0 : w4.cell? ⟨w.heap.size, 0, none⟩ = some (.int .i64 o) := (HK_4.out.cell 0).trans rfl
        have cK1 : w4.cell? ⟨w.heap.size, 1, none⟩ = some (.int .i64 t) := (HK_4.out.cell 1).trans rfl
        have cK2 : w4.cell? ⟨w.heap.size, 2, none⟩ = some (.int .i64 c) := (HK_4.out.cell 2).trans rfl
        have cK3 : w4.cell? ⟨w.heap.size, 3, none⟩ = some (.int .i64 v) := (HK_4.out.cell 3).trans rfl
        have lK := HK_4.out.lt
        have cP0 : w4.cell? ⟨w.heap.size + 1, 0, none⟩ = some (.int .i64 x0) := (HP_4.out.cell 0).trans rfl
        have cP1 : w4.cell? ⟨w.heap.size + 1, 1, none⟩ = some (.int .i64 x1) := (HP_4.out.cell 1).trans rfl
        have cP2 : w4.cell? ⟨w.heap.size + 1, 2, none⟩ = some (.int .i64 x2) := (HP_4.out.cell 2).trans rfl
        have cP3 : w4.cell? ⟨w.heap.size + 1, 3, none⟩ = some (.int .i64 x3) := (HP_4.out.cell 3).trans rfl
        have cP4 : w4.cell? ⟨w.heap.size + 1, 4, none⟩ = some (.int .i64 x4) := (HP_4.out.cell 4).trans rfl
        have cP5 : w4.cell? ⟨w.heap.size + 1, 5, none⟩ = some (.int .i64 x5) := (HP_4.out.cell 5).trans rfl
        have cP6 : w4.cell? ⟨w.heap.size + 1, 6, none⟩ = some (.int .i64 x6) := (HP_4.out.cell 6).trans rfl
        have cP7 : w4.cell? ⟨w.heap.size + 1, 7, none⟩ = some (.int .i64 x7) := (HP_4.out.cell 7).trans rfl
        have cP8 : w4.cell? ⟨w.heap.size + 1, 8, none⟩ = some (.bool x8) := (HP_4.out.cell 8).trans rfl
        have cP9 : w4.cell? ⟨w.heap.size + 1, 9, none⟩ = some (.int .i64 x9) := (HP_4.out.cell 9).trans rfl
        have cP10 : w4.cell? ⟨w.heap.size + 1, 10, none⟩ = some (.int .i64 x10) := (HP_4.out.cell 10).trans rfl
        have cP11 : w4.cell? ⟨w.heap.size + 1, 11, none⟩ = some (.int .i64 x11) := (HP_4.out.cell 11).trans rfl
        have cP12 : w4.cell? ⟨w.heap.size + 1, 12, none⟩ = some (.int .i64 x12) := (HP_4.out.cell 12).trans rfl
        have cP13 : w4.cell? ⟨w.heap.size + 1, 13, none⟩ = some (.bool x13) := (HP_4.out.cell 13).trans rfl
        have lP := HP_4.out.lt
        have cR0 : w4.cell? ⟨w2.heap.size, 0, none⟩ = some (.int .i64 0) := (HR_4.out.cell 0).trans rfl
        have cR1 : w4.cell? ⟨w2.heap.size, 1, none⟩ = some (.int .i64 0) := (HR_4.out.cell 1).trans rfl
        have cR2 : w4.cell? ⟨w2.heap.size, 2, none⟩ = some (.int .i64 0) := (HR_4.out.cell 2).trans rfl
        have cR3 : w4.cell? ⟨w2.heap.size, 3, none⟩ = some (.int .i64 0) := (HR_4.out.cell 3).trans rfl
        have lR := HR_4.out.lt
        have cW0 : w4.cell? ⟨w3.heap.size, 0, none⟩ = some (.int .i64 x1) := (HW_4.out.cell 0).trans rfl
        have cW1 : w4.cell? ⟨w3.heap.size, 1, none⟩ = some (.int .i64 x0) := (HW_4.out.cell 1).trans rfl
        have cW2 : w4.cell? ⟨w3.heap.size, 2, none⟩ = some (.int .i64 x3) := (HW_4.out.cell 2).trans rfl
        have cW3 : w4.cell? ⟨w3.heap.size, 3, none⟩ = some (.int .i64 x4) := (HW_4.out.cell 3).trans rfl
        have lW := HW_4.out.lt
        go_wp2_with fail
        with_reducible refine (HBa.out _).mono ?_
        rintro e w5 ⟨rfl, hN⟩
        have HK_5 := Lib.hid ((HK_4.out.alloc (.cells #[.int .i64 x1, .int .i64 x0, .int .i64 x3, .int .i64 x4] 23)).keep hN)
        have HP_5 := Lib.hid ((HP_4.out.alloc (.cells #[.int .i64 x1, .int .i64 x0, .int .i64 x3, .int .i64 x4] 23)).keep hN)
        have HR_5 := Lib.hid ((HR_4.out.alloc (.cells #[.int .i64 x1, .int .i64 x0, .int .i64 x3, .int .i64 x4] 23)).keep hN)
        have HW_5 := Lib.hid ((HW_4.out.alloc (.cells #[.int .i64 x1, .int .i64 x0, .int .i64 x3, .int .i64 x4] 23)).keep hN)
        have HX_5 := Lib.hid ((Has.new_at w4 23 #[.int .i64 x1, .int .i64 x0, .int .i64 x3, .int .i64 x4] (w4.heap.size) (by simp)).keep hN)
        have HN_5 := Lib.hid ((HN_4.out.alloc (.cells #[.int .i64 x1, .int .i64 x0, .int .i64 x3, .int .i64 x4] 23)).then_new hN)
        clear HK_4 HP_4 HR_4 HW_4 HN_4 cK0 cK1 cK2 cK3 lK cP0 cP1 cP2 cP3 cP4 cP5 cP6 cP7 cP8 cP9 cP10 cP11 cP12 cP13 lP cR0 cR1 cR2 cR3 lR cW0 cW1 cW2 cW3 lW hN
        have cK0 : w5.cell? ⟨w.heap.size, 0, none⟩ = some (.int .i64 o) := (HK_5.out.cell 0).trans rfl
        have cK1 : w5.cell? ⟨w.heap.size, 1, none⟩ = some (.int .i64 t) := (HK_5.out.cell 1).trans rfl
        have cK2 : w5.cell? ⟨w.heap.size, 2, none⟩ = some (.int .i64 c) := (HK_5.out.cell 2).trans rfl
        have cK3 : w5.cell? ⟨w.heap.size, 3, none⟩ = some (.int .i64 v) := (HK_5.out.cell 3).trans rfl
        have lK := HK_5.out.lt
        have cP0 : w5.cell? ⟨w.heap.size + 1, 0, none⟩ = some (.int .i64 x0) := (HP_5.out.cell 0).trans rfl
        have cP1 : w5.cell? ⟨w.heap.size + 1, 1, none⟩ = some (.int .i64 x1) := (HP_5.out.cell 1).trans rfl
        have cP2 : w5.cell? ⟨w.heap.size + 1, 2, none⟩ = some (.int .i64 x2) := (HP_5.out.cell 2).trans rfl
        have cP3 : w5.cell? ⟨w.heap.size + 1, 3, none⟩ = some (.int .i64 x3) := (HP_5.out.cell 3).trans rfl
        have cP4 : w5.cell? ⟨w.heap.size + 1, 4, none⟩ = some (.int .i64 x4) := (HP_5.out.cell 4).trans rfl
        have cP5 : w5.cell? ⟨w.heap.size + 1, 5, none⟩ = some (.int .i64 x5) := (HP_5.out.cell 5).trans rfl
        have cP6 : w5.cell? ⟨w.heap.size + 1, 6, none⟩ = some (.int .i64 x6) := (HP_5.out.cell 6).trans rfl
        have cP7 : w5.cell? ⟨w.heap.size + 1, 7, none⟩ = some (.int .i64 x7) := (HP_5.out.cell 7).trans rfl
        have cP8 : w5.cell? ⟨w.heap.size + 1, 8, none⟩ = some (.bool x8) := (HP_5.out.cell 8).trans rfl
        have cP9 : w5.cell? ⟨w.heap.size + 1, 9, none⟩ = some (.int .i64 x9) := (HP_5.out.cell 9).trans rfl
        have cP10 : w5.cell? ⟨w.heap.size + 1, 10, none⟩ = some (.int .i64 x10) := (HP_5.out.cell 10).trans rfl
        have cP11 : w5.cell? ⟨w.heap.size + 1, 11, none⟩ = some (.int .i64 x11) := (HP_5.out.cell 11).trans rfl
        have cP12 : w5.cell? ⟨w.heap.size + 1, 12, none⟩ = some (.int .i64 x12) := (HP_5.out.cell 12).trans rfl
        have cP13 : w5.cell? ⟨w.heap.size + 1, 13, none⟩ = some (.bool x13) := (HP_5.out.cell 13).trans rfl
        have lP := HP_5.out.lt
        have cR0 : w5.cell? ⟨w2.heap.size, 0, none⟩ = some (.int .i64 0) := (HR_5.out.cell 0).trans rfl
        have cR1 : w5.cell? ⟨w2.heap.size, 1, none⟩ = some (.int .i64 0) := (HR_5.out.cell 1).trans rfl
        have cR2 : w5.cell? ⟨w2.heap.size, 2, none⟩ = some (.int .i64 0) := (HR_5.out.cell 2).trans rfl
        have cR3 : w5.cell? ⟨w2.heap.size, 3, none⟩ = some (.int .i64 0) := (HR_5.out.cell 3).trans rfl
        have lR := HR_5.out.lt
        have cW0 : w5.cell? ⟨w3.heap.size, 0, none⟩ = some (.int .i64 x1) := (HW_5.out.cell 0).trans rfl
        have cW1 : w5.cell? ⟨w3.heap.size, 1, none⟩ = some (.int .i64 x0) := (HW_5.out.cell 1).trans rfl
        have cW2 : w5.cell? ⟨w3.heap.size, 2, none⟩ = some (.int .i64 x3) := (HW_5.out.cell 2).trans rfl
        have cW3 : w5.cell? ⟨w3.heap.size, 3, none⟩ = some (.int .i64 x4) := (HW_5.out.cell 3).trans rfl
        have lW := HW_5.out.lt
        have cX0 : w5.cell? ⟨w4.heap.size, 0, none⟩ = some (.int .i64 x1) := (HX_5.out.cell 0).trans rfl
        have cX1 : w5.cell? ⟨w4.heap.size, 1, none⟩ = some (.int .i64 x0) := (HX_5.out.cell 1).trans rfl
        have cX2 : w5.cell? ⟨w4.heap.size, 2, none⟩ = some (.int .i64 x3) := (HX_5.out.cell 2).trans rfl
        have cX3 : w5.cell? ⟨w4.heap.size, 3, none⟩ = some (.int .i64 x4) := (HX_5.out.cell 3).trans rfl
        have lX := HX_5.out.lt
        go_wp2_with fail
        with_reducible refine (HLw.out _).mono ?_
        rintro e w6 ⟨rfl, hN⟩
        have HK_6 := Lib.hid ((HK_5.out.alloc (.cells #[.int .i64 o, .int .i64 0, .int .i64 0, .int .i64 v] 23)).keep hN)
        have HP_6 := Lib.hid ((HP_5.out.alloc (.cells #[.int .i64 o, .int .i64 0, .int .i64 0, .int .i64 v] 23)).keep hN)
        have HR_6 := Lib.hid ((HR_5.out.alloc (.cells #[.int .i64 o, .int .i64 0, .int .i64 0, .int .i64 v] 23)).keep hN)
        have HW_6 := Lib.hid ((HW_5.out.alloc (.cells #[.int .i64 o, .int .i64 0, .int .i64 0, .int .i64 v] 23)).keep hN)
        have HX_6 := Lib.hid ((HX_5.out.alloc (.cells #[.int .i64 o, .int .i64 0, .int .i64 0, .int .i64 v] 23)).keep hN)
        have HY_6 := Lib.hid ((Has.new_at w5 23 #[.int .i64 o, .int .i64 0, .int .i64 0, .int .i64 v] (w5.heap.size) (by simp)).keep hN)
        have HN_6 := Lib.hid ((HN_5.out.alloc (.cells #[.int .i64 o, .int .i64 0, .int .i64 0, .int .i64 v] 23)).then_new hN)
        clear HK_5 HP_5 HR_5 HW_5 HX_5 HN_5 cK0 cK1 cK2 cK3 lK cP0 cP1 cP2 cP3 cP4 cP5 cP6 cP7 cP8 cP9 cP10 cP11 cP12 cP13 lP cR0 cR1 cR2 cR3 lR cW0 cW1 cW2 cW3 lW cX0 cX1 cX2 cX3 lX hN
        have cK0 : w6.cell? ⟨w.heap.size, 0, none⟩ = some (.int .i64 o) := (HK_6.out.cell 0).trans rfl
        have cK1 : w6.cell? ⟨w.heap.size, 1, none⟩ = some (.int .i64 t) := (HK_6.out.cell 1).trans rfl
        have cK2 : w6.cell? ⟨w.heap.size, 2, none⟩ = some (.int .i64 c) := (HK_6.out.cell 2).trans rfl
        have cK3 : w6.cell? ⟨w.heap.size, 3, none⟩ = some (.int .i64 v) := (HK_6.out.cell 3).trans rfl
        have lK := HK_6.out.lt
        have cP0 : w6.cell? ⟨w.heap.size + 1, 0, none⟩ = some (.int .i64 x0) := (HP_6.out.cell 0).trans rfl
        have cP1 : w6.cell? ⟨w.heap.size + 1, 1, none⟩ = some (.int .i64 x1) := (HP_6.out.cell 1).trans rfl
        have cP2 : w6.cell? ⟨w.heap.size + 1, 2, none⟩ = some (.int .i64 x2) := (HP_6.out.cell 2).trans rfl
        have cP3 : w6.cell? ⟨w.heap.size + 1, 3, none⟩ = some (.int .i64 x3) := (HP_6.out.cell 3).trans rfl
        have cP4 : w6.cell? ⟨w.heap.size + 1, 4, none⟩ = some (.int .i64 x4) := (HP_6.out.cell 4).trans rfl
        have cP5 : w6.cell? ⟨w.heap.size + 1, 5, none⟩ = some (.int .i64 x5) := (HP_6.out.cell 5).trans rfl
        have cP6 : w6.cell? ⟨w.heap.size + 1, 6, none⟩ = some (.int .i64 x6) := (HP_6.out.cell 6).trans rfl
        have cP7 : w6.cell? ⟨w.heap.size + 1, 7, none⟩ = some (.int .i64 x7) := (HP_6.out.cell 7).trans rfl
        have cP8 : w6.cell? ⟨w.heap.size + 1, 8, none⟩ = some (.bool x8) := (HP_6.out.cell 8).trans rfl
        have cP9 : w6.cell? ⟨w.heap.size + 1, 9, none⟩ = some (.int .i64 x9) := (HP_6.out.cell 9).trans rfl
        have cP10 : w6.cell? ⟨w.heap.size + 1, 10, none⟩ = some (.int .i64 x10) := (HP_6.out.cell 10).trans rfl
        have cP11 : w6.cell? ⟨w.heap.size + 1, 11, none⟩ = some (.int .i64 x11) := (HP_6.out.cell 11).trans rfl
        have cP12 : w6.cell? ⟨w.heap.size + 1, 12, none⟩ = some (.int .i64 x12) := (HP_6.out.cell 12).trans rfl
        have cP13 : w6.cell? ⟨w.heap.size + 1, 13, none⟩ = some (.bool x13) := (HP_6.out.cell 13).trans rfl
        have lP := HP_6.out.lt
        have cR0 : w6.cell? ⟨w2.heap.size, 0, none⟩ = some (.int .i64 0) := (HR_6.out.cell 0).trans rfl
        have cR1 : w6.cell? ⟨w2.heap.size, 1, none⟩ = some (.int .i64 0) := (HR_6.out.cell 1).trans rfl
        have cR2 : w6.cell? ⟨w2.heap.size, 2, none⟩ = some (.int .i64 0) := (HR_6.out.cell 2).trans rfl
        have cR3 : w6.cell? ⟨w2.heap.size, 3, none⟩ = some (.int .i64 0) := (HR_6.out.cell 3).trans rfl
        have lR := HR_6.out.lt
        have cW0 : w6.cell? ⟨w3.heap.size, 0, none⟩ = some (.int .i64 x1) := (HW_6.out.cell 0).trans rfl
        have cW1 : w6.cell? ⟨w3.heap.size, 1, none⟩ = some (.int .i64 x0) := (HW_6.out.cell 1).trans rfl
        have cW2 : w6.cell? ⟨w3.heap.size, 2, none⟩ = some (.int .i64 x3) := (HW_6.out.cell 2).trans rfl
        have cW3 : w6.cell? ⟨w3.heap.size, 3, none⟩ = some (.int .i64 x4) := (HW_6.out.cell 3).trans rfl
        have lW := HW_6.out.lt
        have cX0 : w6.cell? ⟨w4.heap.size, 0, none⟩ = some (.int .i64 x1) := (HX_6.out.cell 0).trans rfl
        have cX1 : w6.cell? ⟨w4.heap.size, 1, none⟩ = some (.int .i64 x0) := (HX_6.out.cell 1).trans rfl
        have cX2 : w6.cell? ⟨w4.heap.size, 2, none⟩ = some (.int .i64 x3) := (HX_6.out.cell 2).trans rfl
        have cX3 : w6.cell? ⟨w4.heap.size, 3, none⟩ = some (.int .i64 x4) := (HX_6.out.cell 3).trans rfl
        have lX := HX_6.out.lt
        have cY0 : w6.cell? ⟨w5.heap.size, 0, none⟩ = some (.int .i64 o) := (HY_6.out.cell 0).trans rfl
        have cY1 : w6.cell? ⟨w5.heap.size, 1, none⟩ = some (.int .i64 0) := (HY_6.out.cell 1).trans rfl
        have cY2 : w6.cell? ⟨w5.heap.size, 2, none⟩ = some (.int .i64 0) := (HY_6.out.cell 2).trans rfl
        have cY3 : w6.cell? ⟨w5.heap.size, 3, none⟩ = some (.int .i64 v) := (HY_6.out.cell 3).trans rfl
        have lY := HY_6.out.lt
        go_wp2_with fail
        with_reducible refine (HLb.out _).mono ?_
        rintro e w7 ⟨rfl, hN⟩
        have HK_7 := Lib.hid ((HK_6.out.alloc (.cells #[.int .i64 o, .int .i64 0, .int .i64 0, .int .i64 v] 23)).keep hN)
        have HP_7 := Lib.hid ((HP_6.out.alloc (.cells #[.int .i64 o, .int .i64 0, .int .i64 0, .int .i64 v] 23)).keep hN)
        have HR_7 := Lib.hid ((HR_6.out.alloc (.cells #[.int .i64 o, .int .i64 0, .int .i64 0, .int .i64 v] 23)).keep hN)
        have HW_7 := Lib.hid ((HW_6.out.alloc (.cells #[.int .i64 o, .int .i64 0, .int .i64 0, .int .i64 v] 23)).keep hN)
        have HX_7 := Lib.hid ((HX_6.out.alloc (.cells #[.int .i64 o, .int .i64 0, .int .i64 0, .int .i64 v] 23)).keep hN)
        have HY_7 := Lib.hid ((HY_6.out.alloc (.cells #[.int .i64 o, .int .i64 0, .int .i64 0, .int .i64 v] 23)).keep hN)
        have HB_7 := Lib.hid ((Has.new_at w6 23 #[.int .i64 o, .int .i64 0, .int .i64 0, .int .i64 v] (w6.heap.size) (by simp)).keep hN)
        have HN_7 := Lib.hid ((HN_6.out.alloc (.cells #[.int .i64 o, .int .i64 0, .int .i64 0, .int .i64 v] 23)).then_new hN)
        clear HK_6 HP_6 HR_6 HW_6 HX_6 HY_6 HN_6 cK0 cK1 cK2 cK3 lK cP0 cP1 cP2 cP3 cP4 cP5 cP6 cP7 cP8 cP9 cP10 cP11 cP12 cP13 lP cR0 cR1 cR2 cR3 lR cW0 cW1 cW2 cW3 lW cX0 cX1 cX2 cX3 lX cY0 cY1 cY2 cY3 lY hN
        have cK0 : w7.cell? ⟨w.heap.size, 0, none⟩ = some (.int .i64 o) := (HK_7.out.cell 0).trans rfl
        have cK1 : w7.cell? ⟨w.heap.size, 1, none⟩ = some (.int .i64 t) := (HK_7.out.cell 1).trans rfl
        have cK2 : w7.cell? ⟨w.heap.size, 2, none⟩ = some (.int .i64 c) := (HK_7.out.cell 2).trans rfl
        have cK3 : w7.cell? ⟨w.heap.size, 3, none⟩ = some (.int .i64 v) := (HK_7.out.cell 3).trans rfl
        have lK := HK_7.out.lt
        have cP0 : w7.cell? ⟨w.heap.size + 1, 0, none⟩ = some (.int .i64 x0) := (HP_7.out.cell 0).trans rfl
        have cP1 : w7.cell? ⟨w.heap.size + 1, 1, none⟩ = some (.int .i64 x1) := (HP_7.out.cell 1).trans rfl
        have cP2 : w7.cell? ⟨w.heap.size + 1, 2, none⟩ = some (.int .i64 x2) := (HP_7.out.cell 2).trans rfl
        have cP3 : w7.cell? ⟨w.heap.size + 1, 3, none⟩ = some (.int .i64 x3) := (HP_7.out.cell 3).trans rfl
        have cP4 : w7.cell? ⟨w.heap.size + 1, 4, none⟩ = some (.int .i64 x4) := (HP_7.out.cell 4).trans rfl
        have cP5 : w7.cell? ⟨w.heap.size + 1, 5, none⟩ = some (.int .i64 x5) := (HP_7.out.cell 5).trans rfl
        have cP6 : w7.cell? ⟨w.heap.size + 1, 6, none⟩ = some (.int .i64 x6) := (HP_7.out.cell 6).trans rfl
        have cP7 : w7.cell? ⟨w.heap.size + 1, 7, none⟩ = some (.int .i64 x7) := (HP_7.out.cell 7).trans rfl
        have cP8 : w7.cell? ⟨w.heap.size + 1, 8, none⟩ = some (.bool x8) := (HP_7.out.cell 8).trans rfl
        have cP9 : w7.cell? ⟨w.heap.size + 1, 9, none⟩ = some (.int .i64 x9) := (HP_7.out.cell 9).trans rfl
        have cP10 : w7.cell? ⟨w.heap.size + 1, 10, none⟩ = some (.int .i64 x10) := (HP_7.out.cell 10).trans rfl
        have cP11 : w7.cell? ⟨w.heap.size + 1, 11, none⟩ = some (.int .i64 x11) := (HP_7.out.cell 11).trans rfl
        have cP12 : w7.cell? ⟨w.heap.size + 1, 12, none⟩ = some (.int .i64 x12) := (HP_7.out.cell 12).trans rfl
        have cP13 : w7.cell? ⟨w.heap.size + 1, 13, none⟩ = some (.bool x13) := (HP_7.out.cell 13).trans rfl
        have lP := HP_7.out.lt
        have cR0 : w7.cell? ⟨w2.heap.size, 0, none⟩ = some (.int .i64 0) := (HR_7.out.cell 0).trans rfl
        have cR1 : w7.cell? ⟨w2.heap.size, 1, none⟩ = some (.int .i64 0) := (HR_7.out.cell 1).trans rfl
        have cR2 : w7.cell? ⟨w2.heap.size, 2, none⟩ = some (.int .i64 0) := (HR_7.out.cell 2).trans rfl
        have cR3 : w7.cell? ⟨w2.heap.size, 3, none⟩ = some (.int .i64 0) := (HR_7.out.cell 3).trans rfl
        have lR := HR_7.out.lt
        have cW0 : w7.cell? ⟨w3.heap.size, 0, none⟩ = some (.int .i64 x1) := (HW_7.out.cell 0).trans rfl
        have cW1 : w7.cell? ⟨w3.heap.size, 1, none⟩ = some (.int .i64 x0) := (HW_7.out.cell 1).trans rfl
        have cW2 : w7.cell? ⟨w3.heap.size, 2, none⟩ = some (.int .i64 x3) := (HW_7.out.cell 2).trans rfl
        have cW3 : w7.cell? ⟨w3.heap.size, 3, none⟩ = some (.int .i64 x4) := (HW_7.out.cell 3).trans rfl
        have lW := HW_7.out.lt
        have cX0 : w7.cell? ⟨w4.heap.size, 0, none⟩ = some (.int .i64 x1) := (HX_7.out.cell 0).trans rfl
        have cX1 : w7.cell? ⟨w4.heap.size, 1, none⟩ = some (.int .i64 x0) := (HX_7.out.cell 1).trans rfl
        have cX2 : w7.cell? ⟨w4.heap.size, 2, none⟩ = some (.int .i64 x3) := (HX_7.out.cell 2).trans rfl
        have cX3 : w7.cell? ⟨w4.heap.size, 3, none⟩ = some (.int .i64 x4) := (HX_7.out.cell 3).trans rfl
        have lX := HX_7.out.lt
        have cY0 : w7.cell? ⟨w5.heap.size, 0, none⟩ = some (.int .i64 o) := (HY_7.out.cell 0).trans rfl
        have cY1 : w7.cell? ⟨w5.heap.size, 1, none⟩ = some (.int .i64 0) := (HY_7.out.cell 1).trans rfl
        have cY2 : w7.cell? ⟨w5.heap.size, 2, none⟩ = some (.int .i64 0) := (HY_7.out.cell 2).trans rfl
        have cY3 : w7.cell? ⟨w5.heap.size, 3, none⟩ = some (.int .i64 v) := (HY_7.out.cell 3).trans rfl
        have lY := HY_7.out.lt
        have cB0 : w7.cell? ⟨w6.heap.size, 0, none⟩ = some (.int .i64 o) := (HB_7.out.cell 0).trans rfl
        have cB1 : w7.cell? ⟨w6.heap.size, 1, none⟩ = some (.int .i64 0) := (HB_7.out.cell 1).trans rfl
        have cB2 : w7.cell? ⟨w6.heap.size, 2, none⟩ = some (.int .i64 0) := (HB_7.out.cell 2).trans rfl
        have cB3 : w7.cell? ⟨w6.heap.size, 3, none⟩ = some (.int .i64 v) := (HB_7.out.cell 3).trans rfl
        have lB := HB_7.out.lt
        go_wp2_with fail
        go_ret
        exact ⟨rfl, HN_7.out⟩
      · have h1' : (lb == 1) = false := beq_eq_false_iff_ne.2 h1
        have HBa : Hid (∀ w, Calls Try.prog 21 #[.int .i64 o, .int .i64 v] w fun e w' => e = .returned (.tuple #[.agg #[.int .i64 0, .int .i64 0, .int .i64 0, .int .i64 0], .int .i64 2]) ∧ New w w') := fun w => by have h := HBa0.out w; rw [if_neg h1, if_neg h1] at h; exact h
        clear h1
        have cK0 : w4.cell? ⟨w.heap.size, 0, none⟩ = some (.int .i64 o) := (HK_4.out.cell 0).trans rfl
        have cK1 : w4.cell? ⟨w.heap.size, 1, none⟩ = some (.int .i64 t) := (HK_4.out.cell 1).trans rfl
        have cK2 : w4.cell? ⟨w.heap.size, 2, none⟩ = some (.int .i64 c) := (HK_4.out.cell 2).trans rfl
        have cK3 : w4.cell? ⟨w.heap.size, 3, none⟩ = some (.int .i64 v) := (HK_4.out.cell 3).trans rfl
        have lK := HK_4.out.lt
        have cP0 : w4.cell? ⟨w.heap.size + 1, 0, none⟩ = some (.int .i64 x0) := (HP_4.out.cell 0).trans rfl
        have cP1 : w4.cell? ⟨w.heap.size + 1, 1, none⟩ = some (.int .i64 x1) := (HP_4.out.cell 1).trans rfl
        have cP2 : w4.cell? ⟨w.heap.size + 1, 2, none⟩ = some (.int .i64 x2) := (HP_4.out.cell 2).trans rfl
        have cP3 : w4.cell? ⟨w.heap.size + 1, 3, none⟩ = some (.int .i64 x3) := (HP_4.out.cell 3).trans rfl
        have cP4 : w4.cell? ⟨w.heap.size + 1, 4, none⟩ = some (.int .i64 x4) := (HP_4.out.cell 4).trans rfl
        have cP5 : w4.cell? ⟨w.heap.size + 1, 5, none⟩ = some (.int .i64 x5) := (HP_4.out.cell 5).trans rfl
        have cP6 : w4.cell? ⟨w.heap.size + 1, 6, none⟩ = some (.int .i64 x6) := (HP_4.out.cell 6).trans rfl
        have cP7 : w4.cell? ⟨w.heap.size + 1, 7, none⟩ = some (.int .i64 x7) := (HP_4.out.cell 7).trans rfl
        have cP8 : w4.cell? ⟨w.heap.size + 1, 8, none⟩ = some (.bool x8) := (HP_4.out.cell 8).trans rfl
        have cP9 : w4.cell? ⟨w.heap.size + 1, 9, none⟩ = some (.int .i64 x9) := (HP_4.out.cell 9).trans rfl
        have cP10 : w4.cell? ⟨w.heap.size + 1, 10, none⟩ = some (.int .i64 x10) := (HP_4.out.cell 10).trans rfl
        have cP11 : w4.cell? ⟨w.heap.size + 1, 11, none⟩ = some (.int .i64 x11) := (HP_4.out.cell 11).trans rfl
        have cP12 : w4.cell? ⟨w.heap.size + 1, 12, none⟩ = some (.int .i64 x12) := (HP_4.out.cell 12).trans rfl
        have cP13 : w4.cell? ⟨w.heap.size + 1, 13, none⟩ = some (.bool x13) := (HP_4.out.cell 13).trans rfl
        have lP := HP_4.out.lt
        have cR0 : w4.cell? ⟨w2.heap.size, 0, none⟩ = some (.int .i64 0) := (HR_4.out.cell 0).trans rfl
        have cR1 : w4.cell? ⟨w2.heap.size, 1, none⟩ = some (.int .i64 0) := (HR_4.out.cell 1).trans rfl
        have cR2 : w4.cell? ⟨w2.heap.size, 2, none⟩ = some (.int .i64 0) := (HR_4.out.cell 2).trans rfl
        have cR3 : w4.cell? ⟨w2.heap.size, 3, none⟩ = some (.int .i64 0) := (HR_4.out.cell 3).trans rfl
        have lR := HR_4.out.lt
        have cW0 : w4.cell? ⟨w3.heap.size, 0, none⟩ = some (.int .i64 x1) := (HW_4.out.cell 0).trans rfl
        have cW1 : w4.cell? ⟨w3.heap.size, 1, none⟩ = some (.int .i64 x0) := (HW_4.out.cell 1).trans rfl
        have cW2 : w4.cell? ⟨w3.heap.size, 2, none⟩ = some (.int .i64 x3) := (HW_4.out.cell 2).trans rfl
        have cW3 : w4.cell? ⟨w3.heap.size, 3, none⟩ = some (.int .i64 x4) := (HW_4.out.cell 3).trans rfl
        have lW := HW_4.out.lt
        go_wp2_with fail
        with_reducible refine (HBa.out _).mono ?_
        rintro e w5 ⟨rfl, hN⟩
        have HK_5 := Lib.hid ((HK_4.out.alloc (.cells #[.int .i64 x1, .int .i64 x0, .int .i64 x3, .int .i64 x4] 23)).keep hN)
        have HP_5 := Lib.hid ((HP_4.out.alloc (.cells #[.int .i64 x1, .int .i64 x0, .int .i64 x3, .int .i64 x4] 23)).keep hN)
        have HR_5 := Lib.hid ((HR_4.out.alloc (.cells #[.int .i64 x1, .int .i64 x0, .int .i64 x3, .int .i64 x4] 23)).keep hN)
        have HW_5 := Lib.hid ((HW_4.out.alloc (.cells #[.int .i64 x1, .int .i64 x0, .int .i64 x3, .int .i64 x4] 23)).keep hN)
        have HX_5 := Lib.hid ((Has.new_at w4 23 #[.int .i64 x1, .int .i64 x0, .int .i64 x3, .int .i64 x4] (w4.heap.size) (by simp)).keep hN)
        have HN_5 := Lib.hid ((HN_4.out.alloc (.cells #[.int .i64 x1, .int .i64 x0, .int .i64 x3, .int .i64 x4] 23)).then_new hN)
        clear HK_4 HP_4 HR_4 HW_4 HN_4 cK0 cK1 cK2 cK3 lK cP0 cP1 cP2 cP3 cP4 cP5 cP6 cP7 cP8 cP9 cP10 cP11 cP12 cP13 lP cR0 cR1 cR2 cR3 lR cW0 cW1 cW2 cW3 lW hN
        have cK0 : w5.cell? ⟨w.heap.size, 0, none⟩ = some (.int .i64 o) := (HK_5.out.cell 0).trans rfl
        have cK1 : w5.cell? ⟨w.heap.size, 1, none⟩ = some (.int .i64 t) := (HK_5.out.cell 1).trans rfl
        have cK2 : w5.cell? ⟨w.heap.size, 2, none⟩ = some (.int .i64 c) := (HK_5.out.cell 2).trans rfl
        have cK3 : w5.cell? ⟨w.heap.size, 3, none⟩ = some (.int .i64 v) := (HK_5.out.cell 3).trans rfl
        have lK := HK_5.out.lt
        have cP0 : w5.cell? ⟨w.heap.size + 1, 0, none⟩ = some (.int .i64 x0) := (HP_5.out.cell 0).trans rfl
        have cP1 : w5.cell? ⟨w.heap.size + 1, 1, none⟩ = some (.int .i64 x1) := (HP_5.out.cell 1).trans rfl
        have cP2 : w5.cell? ⟨w.heap.size + 1, 2, none⟩ = some (.int .i64 x2) := (HP_5.out.cell 2).trans rfl
        have cP3 : w5.cell? ⟨w.heap.size + 1, 3, none⟩ = some (.int .i64 x3) := (HP_5.out.cell 3).trans rfl
        have cP4 : w5.cell? ⟨w.heap.size + 1, 4, none⟩ = some (.int .i64 x4) := (HP_5.out.cell 4).trans rfl
        have cP5 : w5.cell? ⟨w.heap.size + 1, 5, none⟩ = some (.int .i64 x5) := (HP_5.out.cell 5).trans rfl
        have cP6 : w5.cell? ⟨w.heap.size + 1, 6, none⟩ = some (.int .i64 x6) := (HP_5.out.cell 6).trans rfl
        have cP7 : w5.cell? ⟨w.heap.size + 1, 7, none⟩ = some (.int .i64 x7) := (HP_5.out.cell 7).trans rfl
        have cP8 : w5.cell? ⟨w.heap.size + 1, 8, none⟩ = some (.bool x8) := (HP_5.out.cell 8).trans rfl
        have cP9 : w5.cell? ⟨w.heap.size + 1, 9, none⟩ = some (.int .i64 x9) := (HP_5.out.cell 9).trans rfl
        have cP10 : w5.cell? ⟨w.heap.size + 1, 10, none⟩ = some (.int .i64 x10) := (HP_5.out.cell 10).trans rfl
        have cP11 : w5.cell? ⟨w.heap.size + 1, 11, none⟩ = some (.int .i64 x11) := (HP_5.out.cell 11).trans rfl
        have cP12 : w5.cell? ⟨w.heap.size + 1, 12, none⟩ = some (.int .i64 x12) := (HP_5.out.cell 12).trans rfl
        have cP13 : w5.cell? ⟨w.heap.size + 1, 13, none⟩ = some (.bool x13) := (HP_5.out.cell 13).trans rfl
        have lP := HP_5.out.lt
        have cR0 : w5.cell? ⟨w2.heap.size, 0, none⟩ = some (.int .i64 0) := (HR_5.out.cell 0).trans rfl
        have cR1 : w5.cell? ⟨w2.heap.size, 1, none⟩ = some (.int .i64 0) := (HR_5.out.cell 1).trans rfl
        have cR2 : w5.cell? ⟨w2.heap.size, 2, none⟩ = some (.int .i64 0) := (HR_5.out.cell 2).trans rfl
        have cR3 : w5.cell? ⟨w2.heap.size, 3, none⟩ = some (.int .i64 0) := (HR_5.out.cell 3).trans rfl
        have lR := HR_5.out.lt
        have cW0 : w5.cell? ⟨w3.heap.size, 0, none⟩ = some (.int .i64 x1) := (HW_5.out.cell 0).trans rfl
        have cW1 : w5.cell? ⟨w3.heap.size, 1, none⟩ = some (.int .i64 x0) := (HW_5.out.cell 1).trans rfl
        have cW2 : w5.cell? ⟨w3.heap.size, 2, none⟩ = some (.int .i64 x3) := (HW_5.out.cell 2).trans rfl
        have cW3 : w5.cell? ⟨w3.heap.size, 3, none⟩ = some (.int .i64 x4) := (HW_5.out.cell 3).trans rfl
        have lW := HW_5.out.lt
        have cX0 : w5.cell? ⟨w4.heap.size, 0, none⟩ = some (.int .i64 x1) := (HX_5.out.cell 0).trans rfl
        have cX1 : w5.cell? ⟨w4.heap.size, 1, none⟩ = some (.int .i64 x0) := (HX_5.out.cell 1).trans rfl
        have cX2 : w5.cell? ⟨w4.heap.size, 2, none⟩ = some (.int .i64 x3) := (HX_5.out.cell 2).trans rfl
        have cX3 : w5.cell? ⟨w4.heap.size, 3, none⟩ = some (.int .i64 x4) := (HX_5.out.cell 3).trans rfl
        have lX := HX_5.out.lt
        go_wp2_with fail
        with_reducible refine (HLw.out _).mono ?_
        rintro e w6 ⟨rfl, hN⟩
        have HK_6 := Lib.hid ((HK_5.out.alloc (.cells #[.int .i64 0, .int .i64 0, .int .i64 0, .int .i64 0] 23)).keep hN)
        have HP_6 := Lib.hid ((HP_5.out.alloc (.cells #[.int .i64 0, .int .i64 0, .int .i64 0, .int .i64 0] 23)).keep hN)
        have HR_6 := Lib.hid ((HR_5.out.alloc (.cells #[.int .i64 0, .int .i64 0, .int .i64 0, .int .i64 0] 23)).keep hN)
        have HW_6 := Lib.hid ((HW_5.out.alloc (.cells #[.int .i64 0, .int .i64 0, .int .i64 0, .int .i64 0] 23)).keep hN)
        have HX_6 := Lib.hid ((HX_5.out.alloc (.cells #[.int .i64 0, .int .i64 0, .int .i64 0, .int .i64 0] 23)).keep hN)
        have HY_6 := Lib.hid ((Has.new_at w5 23 #[.int .i64 0, .int .i64 0, .int .i64 0, .int .i64 0] (w5.heap.size) (by simp)).keep hN)
        have HN_6 := Lib.hid ((HN_5.out.alloc (.cells #[.int .i64 0, .int .i64 0, .int .i64 0, .int .i64 0] 23)).then_new hN)
        clear HK_5 HP_5 HR_5 HW_5 HX_5 HN_5 cK0 cK1 cK2 cK3 lK cP0 cP1 cP2 cP3 cP4 cP5 cP6 cP7 cP8 cP9 cP10 cP11 cP12 cP13 lP cR0 cR1 cR2 cR3 lR cW0 cW1 cW2 cW3 lW cX0 cX1 cX2 cX3 lX hN
        have cK0 : w6.cell? ⟨w.heap.size, 0, none⟩ = some (.int .i64 o) := (HK_6.out.cell 0).trans rfl
        have cK1 : w6.cell? ⟨w.heap.size, 1, none⟩ = some (.int .i64 t) := (HK_6.out.cell 1).trans rfl
        have cK2 : w6.cell? ⟨w.heap.size, 2, none⟩ = some (.int .i64 c) := (HK_6.out.cell 2).trans rfl
        have cK3 : w6.cell? ⟨w.heap.size, 3, none⟩ = some (.int .i64 v) := (HK_6.out.cell 3).trans rfl
        have lK := HK_6.out.lt
        have cP0 : w6.cell? ⟨w.heap.size + 1, 0, none⟩ = some (.int .i64 x0) := (HP_6.out.cell 0).trans rfl
        have cP1 : w6.cell? ⟨w.heap.size + 1, 1, none⟩ = some (.int .i64 x1) := (HP_6.out.cell 1).trans rfl
        have cP2 : w6.cell? ⟨w.heap.size + 1, 2, none⟩ = some (.int .i64 x2) := (HP_6.out.cell 2).trans rfl
        have cP3 : w6.cell? ⟨w.heap.size + 1, 3, none⟩ = some (.int .i64 x3) := (HP_6.out.cell 3).trans rfl
        have cP4 : w6.cell? ⟨w.heap.size + 1, 4, none⟩ = some (.int .i64 x4) := (HP_6.out.cell 4).trans rfl
        have cP5 : w6.cell? ⟨w.heap.size + 1, 5, none⟩ = some (.int .i64 x5) := (HP_6.out.cell 5).trans rfl
        have cP6 : w6.cell? ⟨w.heap.size + 1, 6, none⟩ = some (.int .i64 x6) := (HP_6.out.cell 6).trans rfl
        have cP7 : w6.cell? ⟨w.heap.size + 1, 7, none⟩ = some (.int .i64 x7) := (HP_6.out.cell 7).trans rfl
        have cP8 : w6.cell? ⟨w.heap.size + 1, 8, none⟩ = some (.bool x8) := (HP_6.out.cell 8).trans rfl
        have cP9 : w6.cell? ⟨w.heap.size + 1, 9, none⟩ = some (.int .i64 x9) := (HP_6.out.cell 9).trans rfl
        have cP10 : w6.cell? ⟨w.heap.size + 1, 10, none⟩ = some (.int .i64 x10) := (HP_6.out.cell 10).trans rfl
        have cP11 : w6.cell? ⟨w.heap.size + 1, 11, none⟩ = some (.int .i64 x11) := (HP_6.out.cell 11).trans rfl
        have cP12 : w6.cell? ⟨w.heap.size + 1, 12, none⟩ = some (.int .i64 x12) := (HP_6.out.cell 12).trans rfl
        have cP13 : w6.cell? ⟨w.heap.size + 1, 13, none⟩ = some (.bool x13) := (HP_6.out.cell 13).trans rfl
        have lP := HP_6.out.lt
        have cR0 : w6.cell? ⟨w2.heap.size, 0, none⟩ = some (.int .i64 0) := (HR_6.out.cell 0).trans rfl
        have cR1 : w6.cell? ⟨w2.heap.size, 1, none⟩ = some (.int .i64 0) := (HR_6.out.cell 1).trans rfl
        have cR2 : w6.cell? ⟨w2.heap.size, 2, none⟩ = some (.int .i64 0) := (HR_6.out.cell 2).trans rfl
        have cR3 : w6.cell? ⟨w2.heap.size, 3, none⟩ = some (.int .i64 0) := (HR_6.out.cell 3).trans rfl
        have lR := HR_6.out.lt
        have cW0 : w6.cell? ⟨w3.heap.size, 0, none⟩ = some (.int .i64 x1) := (HW_6.out.cell 0).trans rfl
        have cW1 : w6.cell? ⟨w3.heap.size, 1, none⟩ = some (.int .i64 x0) := (HW_6.out.cell 1).trans rfl
        have cW2 : w6.cell? ⟨w3.heap.size, 2, none⟩ = some (.int .i64 x3) := (HW_6.out.cell 2).trans rfl
        have cW3 : w6.cell? ⟨w3.heap.size, 3, none⟩ = some (.int .i64 x4) := (HW_6.out.cell 3).trans rfl
        have lW := HW_6.out.lt
        have cX0 : w6.cell? ⟨w4.heap.size, 0, none⟩ = some (.int .i64 x1) := (HX_6.out.cell 0).trans rfl
        have cX1 : w6.cell? ⟨w4.heap.size, 1, none⟩ = some (.int .i64 x0) := (HX_6.out.cell 1).trans rfl
        have cX2 : w6.cell? ⟨w4.heap.size, 2, none⟩ = some (.int .i64 x3) := (HX_6.out.cell 2).trans rfl
        have cX3 : w6.cell? ⟨w4.heap.size, 3, none⟩ = some (.int .i64 x4) := (HX_6.out.cell 3).trans rfl
        have lX := HX_6.out.lt
        have cY0 : w6.cell? ⟨w5.heap.size, 0, none⟩ = some (.int .i64 0) := (HY_6.out.cell 0).trans rfl
        have cY1 : w6.cell? ⟨w5.heap.size, 1, none⟩ = some (.int .i64 0) := (HY_6.out.cell 1).trans rfl
        have cY2 : w6.cell? ⟨w5.heap.size, 2, none⟩ = some (.int .i64 0) := (HY_6.out.cell 2).trans rfl
        have cY3 : w6.cell? ⟨w5.heap.size, 3, none⟩ = some (.int .i64 0) := (HY_6.out.cell 3).trans rfl
        have lY := HY_6.out.lt
        go_wp2_with fail
        with_reducible refine (HLb.out _).mono ?_
        rintro e w7 ⟨rfl, hN⟩
        have HK_7 := Lib.hid ((HK_6.out.alloc (.cells #[.int .i64 o, .int .i64 0, .int .i64 0, .int .i64 v] 23)).keep hN)
        have HP_7 := Lib.hid ((HP_6.out.alloc (.cells #[.int .i64 o, .int .i64 0, .int .i64 0, .int .i64 v] 23)).keep hN)
        have HR_7 := Lib.hid ((HR_6.out.alloc (.cells #[.int .i64 o, .int .i64 0, .int .i64 0, .int .i64 v] 23)).keep hN)
        have HW_7 := Lib.hid ((HW_6.out.alloc (.cells #[.int .i64 o, .int .i64 0, .int .i64 0, .int .i64 v] 23)).keep hN)
        have HX_7 := Lib.hid ((HX_6.out.alloc (.cells #[.int .i64 o, .int .i64 0, .int .i64 0, .int .i64 v] 23)).keep hN)
        have HY_7 := Lib.hid ((HY_6.out.alloc (.cells #[.int .i64 o, .int .i64 0, .int .i64 0, .int .i64 v] 23)).keep hN)
        have HB_7 := Lib.hid ((Has.new_at w6 23 #[.int .i64 o, .int .i64 0, .int .i64 0, .int .i64 v] (w6.heap.size) (by simp)).keep hN)
        have HN_7 := Lib.hid ((HN_6.out.alloc (.cells #[.int .i64 o, .int .i64 0, .int .i64 0, .int .i64 v] 23)).then_new hN)
        clear HK_6 HP_6 HR_6 HW_6 HX_6 HY_6 HN_6 cK0 cK1 cK2 cK3 lK cP0 cP1 cP2 cP3 cP4 cP5 cP6 cP7 cP8 cP9 cP10 cP11 cP12 cP13 lP cR0 cR1 cR2 cR3 lR cW0 cW1 cW2 cW3 lW cX0 cX1 cX2 cX3 lX cY0 cY1 cY2 cY3 lY hN
        have cK0 : w7.cell? ⟨w.heap.size, 0, none⟩ = some (.int .i64 o) := (HK_7.out.cell 0).trans rfl
        have cK1 : w7.cell? ⟨w.heap.size, 1, none⟩ = some (.int .i64 t) := (HK_7.out.cell 1).trans rfl
        have cK2 : w7.cell? ⟨w.heap.size, 2, none⟩ = some (.int .i64 c) := (HK_7.out.cell 2).trans rfl
        have cK3 : w7.cell? ⟨w.heap.size, 3, none⟩ = some (.int .i64 v) := (HK_7.out.cell 3).trans rfl
        have lK := HK_7.out.lt
        have cP0 : w7.cell? ⟨w.heap.size + 1, 0, none⟩ = some (.int .i64 x0) := (HP_7.out.cell 0).trans rfl
        have cP1 : w7.cell? ⟨w.heap.size + 1, 1, none⟩ = some (.int .i64 x1) := (HP_7.out.cell 1).trans rfl
        have cP2 : w7.cell? ⟨w.heap.size + 1, 2, none⟩ = some (.int .i64 x2) := (HP_7.out.cell 2).trans rfl
        have cP3 : w7.cell? ⟨w.heap.size + 1, 3, none⟩ = some (.int .i64 x3) := (HP_7.out.cell 3).trans rfl
        have cP4 : w7.cell? ⟨w.heap.size + 1, 4, none⟩ = some (.int .i64 x4) := (HP_7.out.cell 4).trans rfl
        have cP5 : w7.cell? ⟨w.heap.size + 1, 5, none⟩ = some (.int .i64 x5) := (HP_7.out.cell 5).trans rfl
        have cP6 : w7.cell? ⟨w.heap.size + 1, 6, none⟩ = some (.int .i64 x6) := (HP_7.out.cell 6).trans rfl
        have cP7 : w7.cell? ⟨w.heap.size + 1, 7, none⟩ = some (.int .i64 x7) := (HP_7.out.cell 7).trans rfl
        have cP8 : w7.cell? ⟨w.heap.size + 1, 8, none⟩ = some (.bool x8) := (HP_7.out.cell 8).trans rfl
        have cP9 : w7.cell? ⟨w.heap.size + 1, 9, none⟩ = some (.int .i64 x9) := (HP_7.out.cell 9).trans rfl
        have cP10 : w7.cell? ⟨w.heap.size + 1, 10, none⟩ = some (.int .i64 x10) := (HP_7.out.cell 10).trans rfl
        have cP11 : w7.cell? ⟨w.heap.size + 1, 11, none⟩ = some (.int .i64 x11) := (HP_7.out.cell 11).trans rfl
        have cP12 : w7.cell? ⟨w.heap.size + 1, 12, none⟩ = some (.int .i64 x12) := (HP_7.out.cell 12).trans rfl
        have cP13 : w7.cell? ⟨w.heap.size + 1, 13, none⟩ = some (.bool x13) := (HP_7.out.cell 13).trans rfl
        have lP := HP_7.out.lt
        have cR0 : w7.cell? ⟨w2.heap.size, 0, none⟩ = some (.int .i64 0) := (HR_7.out.cell 0).trans rfl
        have cR1 : w7.cell? ⟨w2.heap.size, 1, none⟩ = some (.int .i64 0) := (HR_7.out.cell 1).trans rfl
        have cR2 : w7.cell? ⟨w2.heap.size, 2, none⟩ = some (.int .i64 0) := (HR_7.out.cell 2).trans rfl
        have cR3 : w7.cell? ⟨w2.heap.size, 3, none⟩ = some (.int .i64 0) := (HR_7.out.cell 3).trans rfl
        have lR := HR_7.out.lt
        have cW0 : w7.cell? ⟨w3.heap.size, 0, none⟩ = some (.int .i64 x1) := (HW_7.out.cell 0).trans rfl
        have cW1 : w7.cell? ⟨w3.heap.size, 1, none⟩ = some (.int .i64 x0) := (HW_7.out.cell 1).trans rfl
        have cW2 : w7.cell? ⟨w3.heap.size, 2, none⟩ = some (.int .i64 x3) := (HW_7.out.cell 2).trans rfl
        have cW3 : w7.cell? ⟨w3.heap.size, 3, none⟩ = some (.int .i64 x4) := (HW_7.out.cell 3).trans rfl
        have lW := HW_7.out.lt
        have cX0 : w7.cell? ⟨w4.heap.size, 0, none⟩ = some (.int .i64 x1) := (HX_7.out.cell 0).trans rfl
        have cX1 : w7.cell? ⟨w4.heap.size, 1, none⟩ = some (.int .i64 x0) := (HX_7.out.cell 1).trans rfl
        have cX2 : w7.cell? ⟨w4.heap.size, 2, none⟩ = some (.int .i64 x3) := (HX_7.out.cell 2).trans rfl
        have cX3 : w7.cell? ⟨w4.heap.size, 3, none⟩ = some (.int .i64 x4) := (HX_7.out.cell 3).trans rfl
        have lX := HX_7.out.lt
        have cY0 : w7.cell? ⟨w5.heap.size, 0, none⟩ = some (.int .i64 0) := (HY_7.out.cell 0).trans rfl
        have cY1 : w7.cell? ⟨w5.heap.size, 1, none⟩ = some (.int .i64 0) := (HY_7.out.cell 1).trans rfl
        have cY2 : w7.cell? ⟨w5.heap.size, 2, none⟩ = some (.int .i64 0) := (HY_7.out.cell 2).trans rfl
        have cY3 : w7.cell? ⟨w5.heap.size, 3, none⟩ = some (.int .i64 0) := (HY_7.out.cell 3).trans rfl
        have lY := HY_7.out.lt
        have cB0 : w7.cell? ⟨w6.heap.size, 0, none⟩ = some (.int .i64 o) := (HB_7.out.cell 0).trans rfl
        have cB1 : w7.cell? ⟨w6.heap.size, 1, none⟩ = some (.int .i64 0) := (HB_7.out.cell 1).trans rfl
        have cB2 : w7.cell? ⟨w6.heap.size, 2, none⟩ = some (.int .i64 0) := (HB_7.out.cell 2).trans rfl
        have cB3 : w7.cell? ⟨w6.heap.size, 3, none⟩ = some (.int .i64 v) := (HB_7.out.cell 3).trans rfl
        have lB := HB_7.out.lt
        go_wp2_with fail
        go_ret
        exact ⟨rfl, HN_7.out⟩
    · have h3' : (lp == 3) = false := beq_eq_false_iff_ne.2 h3
      have HPr : Hid (∀ w, Calls Try.prog 20 #[PrV x0 x1 x2 x3 x4 x5 x6 x7 x9 x10 x11 x12 x8 x13] w fun e w' => e = .returned (.tuple #[.agg #[.int .i64 0, .int .i64 0, .int .i64 0, .int .i64 0], .int .i64 2]) ∧ New w w') := fun w => by have h := HPr0.out w; rw [if_neg h3, if_neg h3] at h; exact h
      clear h3
      have cK0 : w3.cell? ⟨w.heap.size, 0, none⟩ = some (.int .i64 o) := (HK_3.out.cell 0).trans rfl
      have cK1 : w3.cell? ⟨w.heap.size, 1, none⟩ = some (.int .i64 t) := (HK_3.out.cell 1).trans rfl
      have cK2 : w3.cell? ⟨w.heap.size, 2, none⟩ = some (.int .i64 c) := (HK_3.out.cell 2).trans rfl
      have cK3 : w3.cell? ⟨w.heap.size, 3, none⟩ = some (.int .i64 v) := (HK_3.out.cell 3).trans rfl
      have lK := HK_3.out.lt
      have cP0 : w3.cell? ⟨w.heap.size + 1, 0, none⟩ = some (.int .i64 x0) := (HP_3.out.cell 0).trans rfl
      have cP1 : w3.cell? ⟨w.heap.size + 1, 1, none⟩ = some (.int .i64 x1) := (HP_3.out.cell 1).trans rfl
      have cP2 : w3.cell? ⟨w.heap.size + 1, 2, none⟩ = some (.int .i64 x2) := (HP_3.out.cell 2).trans rfl
      have cP3 : w3.cell? ⟨w.heap.size + 1, 3, none⟩ = some (.int .i64 x3) := (HP_3.out.cell 3).trans rfl
      have cP4 : w3.cell? ⟨w.heap.size + 1, 4, none⟩ = some (.int .i64 x4) := (HP_3.out.cell 4).trans rfl
      have cP5 : w3.cell? ⟨w.heap.size + 1, 5, none⟩ = some (.int .i64 x5) := (HP_3.out.cell 5).trans rfl
      have cP6 : w3.cell? ⟨w.heap.size + 1, 6, none⟩ = some (.int .i64 x6) := (HP_3.out.cell 6).trans rfl
      have cP7 : w3.cell? ⟨w.heap.size + 1, 7, none⟩ = some (.int .i64 x7) := (HP_3.out.cell 7).trans rfl
      have cP8 : w3.cell? ⟨w.heap.size + 1, 8, none⟩ = some (.bool x8) := (HP_3.out.cell 8).trans rfl
      have cP9 : w3.cell? ⟨w.heap.size + 1, 9, none⟩ = some (.int .i64 x9) := (HP_3.out.cell 9).trans rfl
      have cP10 : w3.cell? ⟨w.heap.size + 1, 10, none⟩ = some (.int .i64 x10) := (HP_3.out.cell 10).trans rfl
      have cP11 : w3.cell? ⟨w.heap.size + 1, 11, none⟩ = some (.int .i64 x11) := (HP_3.out.cell 11).trans rfl
      have cP12 : w3.cell? ⟨w.heap.size + 1, 12, none⟩ = some (.int .i64 x12) := (HP_3.out.cell 12).trans rfl
      have cP13 : w3.cell? ⟨w.heap.size + 1, 13, none⟩ = some (.bool x13) := (HP_3.out.cell 13).trans rfl
      have lP := HP_3.out.lt
      have cR0 : w3.cell? ⟨w2.heap.size, 0, none⟩ = some (.int .i64 0) := (HR_3.out.cell 0).trans rfl
      have cR1 : w3.cell? ⟨w2.heap.size, 1, none⟩ = some (.int .i64 0) := (HR_3.out.cell 1).trans rfl
      have cR2 : w3.cell? ⟨w2.heap.size, 2, none⟩ = some (.int .i64 0) := (HR_3.out.cell 2).trans rfl
      have cR3 : w3.cell? ⟨w2.heap.size, 3, none⟩ = some (.int .i64 0) := (HR_3.out.cell 3).trans rfl
      have lR := HR_3.out.lt
      go_wp2_with fail
      with_reducible refine (HPr.out _).mono ?_
      rintro e w4 ⟨rfl, hN⟩
      have HK_4 := Lib.hid ((HK_3.out.alloc (.cells #[.int .i64 x1, .int .i64 x0, .int .i64 x3, .int .i64 x4] 23)).keep hN)
      have HP_4 := Lib.hid ((HP_3.out.alloc (.cells #[.int .i64 x1, .int .i64 x0, .int .i64 x3, .int .i64 x4] 23)).keep hN)
      have HR_4 := Lib.hid ((HR_3.out.alloc (.cells #[.int .i64 x1, .int .i64 x0, .int .i64 x3, .int .i64 x4] 23)).keep hN)
      have HW_4 := Lib.hid ((Has.new_at w3 23 #[.int .i64 x1, .int .i64 x0, .int .i64 x3, .int .i64 x4] (w3.heap.size) (by simp)).keep hN)
      have HN_4 := Lib.hid ((HN_3.out.alloc (.cells #[.int .i64 x1, .int .i64 x0, .int .i64 x3, .int .i64 x4] 23)).then_new hN)
      clear HK_3 HP_3 HR_3 HN_3 cK0 cK1 cK2 cK3 lK cP0 cP1 cP2 cP3 cP4 cP5 cP6 cP7 cP8 cP9 cP10 cP11 cP12 cP13 lP cR0 cR1 cR2 cR3 lR hN
      by_cases h1 : lb = 1
      · subst h1
        have HBa : Hid (∀ w, Calls Try.prog 21 #[.int .i64 o, .int .i64 v] w fun e w' => e = .returned (.tuple #[.agg #[.int .i64 o, .int .i64 0, .int .i64 0, .int .i64 v], .int .i64 0]) ∧ New w w') := fun w => by have h := HBa0.out w; rw [if_pos rfl, if_pos rfl] at h; exact h
        have cK0 : w4.cell? ⟨w.heap.size, 0, none⟩ = some (.int .i64 o) := (HK_4.out.cell 0).trans rfl
        have cK1 : w4.cell? ⟨w.heap.size, 1, none⟩ = some (.int .i64 t) := (HK_4.out.cell 1).trans rfl
        have cK2 : w4.cell? ⟨w.heap.size, 2, none⟩ = some (.int .i64 c) := (HK_4.out.cell 2).trans rfl
        have cK3 : w4.cell? ⟨w.heap.size, 3, none⟩ = some (.int .i64 v) := (HK_4.out.cell 3).trans rfl
        have lK := HK_4.out.lt
        have cP0 : w4.cell? ⟨w.heap.size + 1, 0, none⟩ = some (.int .i64 x0) := (HP_4.out.cell 0).trans rfl
        have cP1 : w4.cell? ⟨w.heap.size + 1, 1, none⟩ = some (.int .i64 x1) := (HP_4.out.cell 1).trans rfl
        have cP2 : w4.cell? ⟨w.heap.size + 1, 2, none⟩ = some (.int .i64 x2) := (HP_4.out.cell 2).trans rfl
        have cP3 : w4.cell? ⟨w.heap.size + 1, 3, none⟩ = some (.int .i64 x3) := (HP_4.out.cell 3).trans rfl
        have cP4 : w4.cell? ⟨w.heap.size + 1, 4, none⟩ = some (.int .i64 x4) := (HP_4.out.cell 4).trans rfl
        have cP5 : w4.cell? ⟨w.heap.size + 1, 5, none⟩ = some (.int .i64 x5) := (HP_4.out.cell 5).trans rfl
        have cP6 : w4.cell? ⟨w.heap.size + 1, 6, none⟩ = some (.int .i64 x6) := (HP_4.out.cell 6).trans rfl
        have cP7 : w4.cell? ⟨w.heap.size + 1, 7, none⟩ = some (.int .i64 x7) := (HP_4.out.cell 7).trans rfl
        have cP8 : w4.cell? ⟨w.heap.size + 1, 8, none⟩ = some (.bool x8) := (HP_4.out.cell 8).trans rfl
        have cP9 : w4.cell? ⟨w.heap.size + 1, 9, none⟩ = some (.int .i64 x9) := (HP_4.out.cell 9).trans rfl
        have cP10 : w4.cell? ⟨w.heap.size + 1, 10, none⟩ = some (.int .i64 x10) := (HP_4.out.cell 10).trans rfl
        have cP11 : w4.cell? ⟨w.heap.size + 1, 11, none⟩ = some (.int .i64 x11) := (HP_4.out.cell 11).trans rfl
        have cP12 : w4.cell? ⟨w.heap.size + 1, 12, none⟩ = some (.int .i64 x12) := (HP_4.out.cell 12).trans rfl
        have cP13 : w4.cell? ⟨w.heap.size + 1, 13, none⟩ = some (.bool x13) := (HP_4.out.cell 13).trans rfl
        have lP := HP_4.out.lt
        have cR0 : w4.cell? ⟨w2.heap.size, 0, none⟩ = some (.int .i64 0) := (HR_4.out.cell 0).trans rfl
        have cR1 : w4.cell? ⟨w2.heap.size, 1, none⟩ = some (.int .i64 0) := (HR_4.out.cell 1).trans rfl
        have cR2 : w4.cell? ⟨w2.heap.size, 2, none⟩ = some (.int .i64 0) := (HR_4.out.cell 2).trans rfl
        have cR3 : w4.cell? ⟨w2.heap.size, 3, none⟩ = some (.int .i64 0) := (HR_4.out.cell 3).trans rfl
        have lR := HR_4.out.lt
        have cW0 : w4.cell? ⟨w3.heap.size, 0, none⟩ = some (.int .i64 x1) := (HW_4.out.cell 0).trans rfl
        have cW1 : w4.cell? ⟨w3.heap.size, 1, none⟩ = some (.int .i64 x0) := (HW_4.out.cell 1).trans rfl
        have cW2 : w4.cell? ⟨w3.heap.size, 2, none⟩ = some (.int .i64 x3) := (HW_4.out.cell 2).trans rfl
        have cW3 : w4.cell? ⟨w3.heap.size, 3, none⟩ = some (.int .i64 x4) := (HW_4.out.cell 3).trans rfl
        have lW := HW_4.out.lt
        go_wp2_with fail
        with_reducible refine (HBa.out _).mono ?_
        rintro e w5 ⟨rfl, hN⟩
        have HK_5 := Lib.hid ((HK_4.out.alloc (.cells #[.int .i64 0, .int .i64 0, .int .i64 0, .int .i64 0] 23)).keep hN)
        have HP_5 := Lib.hid ((HP_4.out.alloc (.cells #[.int .i64 0, .int .i64 0, .int .i64 0, .int .i64 0] 23)).keep hN)
        have HR_5 := Lib.hid ((HR_4.out.alloc (.cells #[.int .i64 0, .int .i64 0, .int .i64 0, .int .i64 0] 23)).keep hN)
        have HW_5 := Lib.hid ((HW_4.out.alloc (.cells #[.int .i64 0, .int .i64 0, .int .i64 0, .int .i64 0] 23)).keep hN)
        have HX_5 := Lib.hid ((Has.new_at w4 23 #[.int .i64 0, .int .i64 0, .int .i64 0, .int .i64 0] (w4.heap.size) (by simp)).keep hN)
        have HN_5 := Lib.hid ((HN_4.out.alloc (.cells #[.int .i64 0, .int .i64 0, .int .i64 0, .int .i64 0] 23)).then_new hN)
        clear HK_4 HP_4 HR_4 HW_4 HN_4 cK0 cK1 cK2 cK3 lK cP0 cP1 cP2 cP3 cP4 cP5 cP6 cP7 cP8 cP9 cP10 cP11 cP12 cP13 lP cR0 cR1 cR2 cR3 lR cW0 cW1 cW2 cW3 lW hN
        have cK0 : w5.cell? ⟨w.heap.size, 0, none⟩ = some (.int .i64 o) := (HK_5.out.cell 0).trans rfl
        have cK1 : w5.cell? ⟨w.heap.size, 1, none⟩ = some (.int .i64 t) := (HK_5.out.cell 1).trans rfl
        have cK2 : w5.cell? ⟨w.heap.size, 2, none⟩ = some (.int .i64 c) := (HK_5.out.cell 2).trans rfl
        have cK3 : w5.cell? ⟨w.heap.size, 3, none⟩ = some (.int .i64 v) := (HK_5.out.cell 3).trans rfl
        have lK := HK_5.out.lt
        have cP0 : w5.cell? ⟨w.heap.size + 1, 0, none⟩ = some (.int .i64 x0) := (HP_5.out.cell 0).trans rfl
        have cP1 : w5.cell? ⟨w.heap.size + 1, 1, none⟩ = some (.int .i64 x1) := (HP_5.out.cell 1).trans rfl
        have cP2 : w5.cell? ⟨w.heap.size + 1, 2, none⟩ = some (.int .i64 x2) := (HP_5.out.cell 2).trans rfl
        have cP3 : w5.cell? ⟨w.heap.size + 1, 3, none⟩ = some (.int .i64 x3) := (HP_5.out.cell 3).trans rfl
        have cP4 : w5.cell? ⟨w.heap.size + 1, 4, none⟩ = some (.int .i64 x4) := (HP_5.out.cell 4).trans rfl
        have cP5 : w5.cell? ⟨w.heap.size + 1, 5, none⟩ = some (.int .i64 x5) := (HP_5.out.cell 5).trans rfl
        have cP6 : w5.cell? ⟨w.heap.size + 1, 6, none⟩ = some (.int .i64 x6) := (HP_5.out.cell 6).trans rfl
        have cP7 : w5.cell? ⟨w.heap.size + 1, 7, none⟩ = some (.int .i64 x7) := (HP_5.out.cell 7).trans rfl
        have cP8 : w5.cell? ⟨w.heap.size + 1, 8, none⟩ = some (.bool x8) := (HP_5.out.cell 8).trans rfl
        have cP9 : w5.cell? ⟨w.heap.size + 1, 9, none⟩ = some (.int .i64 x9) := (HP_5.out.cell 9).trans rfl
        have cP10 : w5.cell? ⟨w.heap.size + 1, 10, none⟩ = some (.int .i64 x10) := (HP_5.out.cell 10).trans rfl
        have cP11 : w5.cell? ⟨w.heap.size + 1, 11, none⟩ = some (.int .i64 x11) := (HP_5.out.cell 11).trans rfl
        have cP12 : w5.cell? ⟨w.heap.size + 1, 12, none⟩ = some (.int .i64 x12) := (HP_5.out.cell 12).trans rfl
        have cP13 : w5.cell? ⟨w.heap.size + 1, 13, none⟩ = some (.bool x13) := (HP_5.out.cell 13).trans rfl
        have lP := HP_5.out.lt
        have cR0 : w5.cell? ⟨w2.heap.size, 0, none⟩ = some (.int .i64 0) := (HR_5.out.cell 0).trans rfl
        have cR1 : w5.cell? ⟨w2.heap.size, 1, none⟩ = some (.int .i64 0) := (HR_5.out.cell 1).trans rfl
        have cR2 : w5.cell? ⟨w2.heap.size, 2, none⟩ = some (.int .i64 0) := (HR_5.out.cell 2).trans rfl
        have cR3 : w5.cell? ⟨w2.heap.size, 3, none⟩ = some (.int .i64 0) := (HR_5.out.cell 3).trans rfl
        have lR := HR_5.out.lt
        have cW0 : w5.cell? ⟨w3.heap.size, 0, none⟩ = some (.int .i64 x1) := (HW_5.out.cell 0).trans rfl
        have cW1 : w5.cell? ⟨w3.heap.size, 1, none⟩ = some (.int .i64 x0) := (HW_5.out.cell 1).trans rfl
        have cW2 : w5.cell? ⟨w3.heap.size, 2, none⟩ = some (.int .i64 x3) := (HW_5.out.cell 2).trans rfl
        have cW3 : w5.cell? ⟨w3.heap.size, 3, none⟩ = some (.int .i64 x4) := (HW_5.out.cell 3).trans rfl
        have lW := HW_5.out.lt
        have cX0 : w5.cell? ⟨w4.heap.size, 0, none⟩ = some (.int .i64 0) := (HX_5.out.cell 0).trans rfl
        have cX1 : w5.cell? ⟨w4.heap.size, 1, none⟩ = some (.int .i64 0) := (HX_5.out.cell 1).trans rfl
        have cX2 : w5.cell? ⟨w4.heap.size, 2, none⟩ = some (.int .i64 0) := (HX_5.out.cell 2).trans rfl
        have cX3 : w5.cell? ⟨w4.heap.size, 3, none⟩ = some (.int .i64 0) := (HX_5.out.cell 3).trans rfl
        have lX := HX_5.out.lt
        go_wp2_with fail
        with_reducible refine (HLw.out _).mono ?_
        rintro e w6 ⟨rfl, hN⟩
        have HK_6 := Lib.hid ((HK_5.out.alloc (.cells #[.int .i64 o, .int .i64 0, .int .i64 0, .int .i64 v] 23)).keep hN)
        have HP_6 := Lib.hid ((HP_5.out.alloc (.cells #[.int .i64 o, .int .i64 0, .int .i64 0, .int .i64 v] 23)).keep hN)
        have HR_6 := Lib.hid ((HR_5.out.alloc (.cells #[.int .i64 o, .int .i64 0, .int .i64 0, .int .i64 v] 23)).keep hN)
        have HW_6 := Lib.hid ((HW_5.out.alloc (.cells #[.int .i64 o, .int .i64 0, .int .i64 0, .int .i64 v] 23)).keep hN)
        have HX_6 := Lib.hid ((HX_5.out.alloc (.cells #[.int .i64 o, .int .i64 0, .int .i64 0, .int .i64 v] 23)).keep hN)
        have HY_6 := Lib.hid ((Has.new_at w5 23 #[.int .i64 o, .int .i64 0, .int .i64 0, .int .i64 v] (w5.heap.size) (by simp)).keep hN)
        have HN_6 := Lib.hid ((HN_5.out.alloc (.cells #[.int .i64 o, .int .i64 0, .int .i64 0, .int .i64 v] 23)).then_new hN)
        clear HK_5 HP_5 HR_5 HW_5 HX_5 HN_5 cK0 cK1 cK2 cK3 lK cP0 cP1 cP2 cP3 cP4 cP5 cP6 cP7 cP8 cP9 cP10 cP11 cP12 cP13 lP cR0 cR1 cR2 cR3 lR cW0 cW1 cW2 cW3 lW cX0 cX1 cX2 cX3 lX hN
        have cK0 : w6.cell? ⟨w.heap.size, 0, none⟩ = some (.int .i64 o) := (HK_6.out.cell 0).trans rfl
        have cK1 : w6.cell? ⟨w.heap.size, 1, none⟩ = some (.int .i64 t) := (HK_6.out.cell 1).trans rfl
        have cK2 : w6.cell? ⟨w.heap.size, 2, none⟩ = some (.int .i64 c) := (HK_6.out.cell 2).trans rfl
        have cK3 : w6.cell? ⟨w.heap.size, 3, none⟩ = some (.int .i64 v) := (HK_6.out.cell 3).trans rfl
        have lK := HK_6.out.lt
        have cP0 : w6.cell? ⟨w.heap.size + 1, 0, none⟩ = some (.int .i64 x0) := (HP_6.out.cell 0).trans rfl
        have cP1 : w6.cell? ⟨w.heap.size + 1, 1, none⟩ = some (.int .i64 x1) := (HP_6.out.cell 1).trans rfl
        have cP2 : w6.cell? ⟨w.heap.size + 1, 2, none⟩ = some (.int .i64 x2) := (HP_6.out.cell 2).trans rfl
        have cP3 : w6.cell? ⟨w.heap.size + 1, 3, none⟩ = some (.int .i64 x3) := (HP_6.out.cell 3).trans rfl
        have cP4 : w6.cell? ⟨w.heap.size + 1, 4, none⟩ = some (.int .i64 x4) := (HP_6.out.cell 4).trans rfl
        have cP5 : w6.cell? ⟨w.heap.size + 1, 5, none⟩ = some (.int .i64 x5) := (HP_6.out.cell 5).trans rfl
        have cP6 : w6.cell? ⟨w.heap.size + 1, 6, none⟩ = some (.int .i64 x6) := (HP_6.out.cell 6).trans rfl
        have cP7 : w6.cell? ⟨w.heap.size + 1, 7, none⟩ = some (.int .i64 x7) := (HP_6.out.cell 7).trans rfl
        have cP8 : w6.cell? ⟨w.heap.size + 1, 8, none⟩ = some (.bool x8) := (HP_6.out.cell 8).trans rfl
        have cP9 : w6.cell? ⟨w.heap.size + 1, 9, none⟩ = some (.int .i64 x9) := (HP_6.out.cell 9).trans rfl
        have cP10 : w6.cell? ⟨w.heap.size + 1, 10, none⟩ = some (.int .i64 x10) := (HP_6.out.cell 10).trans rfl
        have cP11 : w6.cell? ⟨w.heap.size + 1, 11, none⟩ = some (.int .i64 x11) := (HP_6.out.cell 11).trans rfl
        have cP12 : w6.cell? ⟨w.heap.size + 1, 12, none⟩ = some (.int .i64 x12) := (HP_6.out.cell 12).trans rfl
        have cP13 : w6.cell? ⟨w.heap.size + 1, 13, none⟩ = some (.bool x13) := (HP_6.out.cell 13).trans rfl
        have lP := HP_6.out.lt
        have cR0 : w6.cell? ⟨w2.heap.size, 0, none⟩ = some (.int .i64 0) := (HR_6.out.cell 0).trans rfl
        have cR1 : w6.cell? ⟨w2.heap.size, 1, none⟩ = some (.int .i64 0) := (HR_6.out.cell 1).trans rfl
        have cR2 : w6.cell? ⟨w2.heap.size, 2, none⟩ = some (.int .i64 0) := (HR_6.out.cell 2).trans rfl
        have cR3 : w6.cell? ⟨w2.heap.size, 3, none⟩ = some (.int .i64 0) := (HR_6.out.cell 3).trans rfl
        have lR := HR_6.out.lt
        have cW0 : w6.cell? ⟨w3.heap.size, 0, none⟩ = some (.int .i64 x1) := (HW_6.out.cell 0).trans rfl
        have cW1 : w6.cell? ⟨w3.heap.size, 1, none⟩ = some (.int .i64 x0) := (HW_6.out.cell 1).trans rfl
        have cW2 : w6.cell? ⟨w3.heap.size, 2, none⟩ = some (.int .i64 x3) := (HW_6.out.cell 2).trans rfl
        have cW3 : w6.cell? ⟨w3.heap.size, 3, none⟩ = some (.int .i64 x4) := (HW_6.out.cell 3).trans rfl
        have lW := HW_6.out.lt
        have cX0 : w6.cell? ⟨w4.heap.size, 0, none⟩ = some (.int .i64 0) := (HX_6.out.cell 0).trans rfl
        have cX1 : w6.cell? ⟨w4.heap.size, 1, none⟩ = some (.int .i64 0) := (HX_6.out.cell 1).trans rfl
        have cX2 : w6.cell? ⟨w4.heap.size, 2, none⟩ = some (.int .i64 0) := (HX_6.out.cell 2).trans rfl
        have cX3 : w6.cell? ⟨w4.heap.size, 3, none⟩ = some (.int .i64 0) := (HX_6.out.cell 3).trans rfl
        have lX := HX_6.out.lt
        have cY0 : w6.cell? ⟨w5.heap.size, 0, none⟩ = some (.int .i64 o) := (HY_6.out.cell 0).trans rfl
        have cY1 : w6.cell? ⟨w5.heap.size, 1, none⟩ = some (.int .i64 0) := (HY_6.out.cell 1).trans rfl
        have cY2 : w6.cell? ⟨w5.heap.size, 2, none⟩ = some (.int .i64 0) := (HY_6.out.cell 2).trans rfl
        have cY3 : w6.cell? ⟨w5.heap.size, 3, none⟩ = some (.int .i64 v) := (HY_6.out.cell 3).trans rfl
        have lY := HY_6.out.lt
        go_wp2_with fail
        with_reducible refine (HLb.out _).mono ?_
        rintro e w7 ⟨rfl, hN⟩
        have HK_7 := Lib.hid ((HK_6.out.alloc (.cells #[.int .i64 o, .int .i64 0, .int .i64 0, .int .i64 v] 23)).keep hN)
        have HP_7 := Lib.hid ((HP_6.out.alloc (.cells #[.int .i64 o, .int .i64 0, .int .i64 0, .int .i64 v] 23)).keep hN)
        have HR_7 := Lib.hid ((HR_6.out.alloc (.cells #[.int .i64 o, .int .i64 0, .int .i64 0, .int .i64 v] 23)).keep hN)
        have HW_7 := Lib.hid ((HW_6.out.alloc (.cells #[.int .i64 o, .int .i64 0, .int .i64 0, .int .i64 v] 23)).keep hN)
        have HX_7 := Lib.hid ((HX_6.out.alloc (.cells #[.int .i64 o, .int .i64 0, .int .i64 0, .int .i64 v] 23)).keep hN)
        have HY_7 := Lib.hid ((HY_6.out.alloc (.cells #[.int .i64 o, .int .i64 0, .int .i64 0, .int .i64 v] 23)).keep hN)
        have HB_7 := Lib.hid ((Has.new_at w6 23 #[.int .i64 o, .int .i64 0, .int .i64 0, .int .i64 v] (w6.heap.size) (by simp)).keep hN)
        have HN_7 := Lib.hid ((HN_6.out.alloc (.cells #[.int .i64 o, .int .i64 0, .int .i64 0, .int .i64 v] 23)).then_new hN)
        clear HK_6 HP_6 HR_6 HW_6 HX_6 HY_6 HN_6 cK0 cK1 cK2 cK3 lK cP0 cP1 cP2 cP3 cP4 cP5 cP6 cP7 cP8 cP9 cP10 cP11 cP12 cP13 lP cR0 cR1 cR2 cR3 lR cW0 cW1 cW2 cW3 lW cX0 cX1 cX2 cX3 lX cY0 cY1 cY2 cY3 lY hN
        have cK0 : w7.cell? ⟨w.heap.size, 0, none⟩ = some (.int .i64 o) := (HK_7.out.cell 0).trans rfl
        have cK1 : w7.cell? ⟨w.heap.size, 1, none⟩ = some (.int .i64 t) := (HK_7.out.cell 1).trans rfl
        have cK2 : w7.cell? ⟨w.heap.size, 2, none⟩ = some (.int .i64 c) := (HK_7.out.cell 2).trans rfl
        have cK3 : w7.cell? ⟨w.heap.size, 3, none⟩ = some (.int .i64 v) := (HK_7.out.cell 3).trans rfl
        have lK := HK_7.out.lt
        have cP0 : w7.cell? ⟨w.heap.size + 1, 0, none⟩ = some (.int .i64 x0) := (HP_7.out.cell 0).trans rfl
        have cP1 : w7.cell? ⟨w.heap.size + 1, 1, none⟩ = some (.int .i64 x1) := (HP_7.out.cell 1).trans rfl
        have cP2 : w7.cell? ⟨w.heap.size + 1, 2, none⟩ = some (.int .i64 x2) := (HP_7.out.cell 2).trans rfl
        have cP3 : w7.cell? ⟨w.heap.size + 1, 3, none⟩ = some (.int .i64 x3) := (HP_7.out.cell 3).trans rfl
        have cP4 : w7.cell? ⟨w.heap.size + 1, 4, none⟩ = some (.int .i64 x4) := (HP_7.out.cell 4).trans rfl
        have cP5 : w7.cell? ⟨w.heap.size + 1, 5, none⟩ = some (.int .i64 x5) := (HP_7.out.cell 5).trans rfl
        have cP6 : w7.cell? ⟨w.heap.size + 1, 6, none⟩ = some (.int .i64 x6) := (HP_7.out.cell 6).trans rfl
        have cP7 : w7.cell? ⟨w.heap.size + 1, 7, none⟩ = some (.int .i64 x7) := (HP_7.out.cell 7).trans rfl
        have cP8 : w7.cell? ⟨w.heap.size + 1, 8, none⟩ = some (.bool x8) := (HP_7.out.cell 8).trans rfl
        have cP9 : w7.cell? ⟨w.heap.size + 1, 9, none⟩ = some (.int .i64 x9) := (HP_7.out.cell 9).trans rfl
        have cP10 : w7.cell? ⟨w.heap.size + 1, 10, none⟩ = some (.int .i64 x10) := (HP_7.out.cell 10).trans rfl
        have cP11 : w7.cell? ⟨w.heap.size + 1, 11, none⟩ = some (.int .i64 x11) := (HP_7.out.cell 11).trans rfl
        have cP12 : w7.cell? ⟨w.heap.size + 1, 12, none⟩ = some (.int .i64 x12) := (HP_7.out.cell 12).trans rfl
        have cP13 : w7.cell? ⟨w.heap.size + 1, 13, none⟩ = some (.bool x13) := (HP_7.out.cell 13).trans rfl
        have lP := HP_7.out.lt
        have cR0 : w7.cell? ⟨w2.heap.size, 0, none⟩ = some (.int .i64 0) := (HR_7.out.cell 0).trans rfl
        have cR1 : w7.cell? ⟨w2.heap.size, 1, none⟩ = some (.int .i64 0) := (HR_7.out.cell 1).trans rfl
        have cR2 : w7.cell? ⟨w2.heap.size, 2, none⟩ = some (.int .i64 0) := (HR_7.out.cell 2).trans rfl
        have cR3 : w7.cell? ⟨w2.heap.size, 3, none⟩ = some (.int .i64 0) := (HR_7.out.cell 3).trans rfl
        have lR := HR_7.out.lt
        have cW0 : w7.cell? ⟨w3.heap.size, 0, none⟩ = some (.int .i64 x1) := (HW_7.out.cell 0).trans rfl
        have cW1 : w7.cell? ⟨w3.heap.size, 1, none⟩ = some (.int .i64 x0) := (HW_7.out.cell 1).trans rfl
        have cW2 : w7.cell? ⟨w3.heap.size, 2, none⟩ = some (.int .i64 x3) := (HW_7.out.cell 2).trans rfl
        have cW3 : w7.cell? ⟨w3.heap.size, 3, none⟩ = some (.int .i64 x4) := (HW_7.out.cell 3).trans rfl
        have lW := HW_7.out.lt
        have cX0 : w7.cell? ⟨w4.heap.size, 0, none⟩ = some (.int .i64 0) := (HX_7.out.cell 0).trans rfl
        have cX1 : w7.cell? ⟨w4.heap.size, 1, none⟩ = some (.int .i64 0) := (HX_7.out.cell 1).trans rfl
        have cX2 : w7.cell? ⟨w4.heap.size, 2, none⟩ = some (.int .i64 0) := (HX_7.out.cell 2).trans rfl
        have cX3 : w7.cell? ⟨w4.heap.size, 3, none⟩ = some (.int .i64 0) := (HX_7.out.cell 3).trans rfl
        have lX := HX_7.out.lt
        have cY0 : w7.cell? ⟨w5.heap.size, 0, none⟩ = some (.int .i64 o) := (HY_7.out.cell 0).trans rfl
        have cY1 : w7.cell? ⟨w5.heap.size, 1, none⟩ = some (.int .i64 0) := (HY_7.out.cell 1).trans rfl
        have cY2 : w7.cell? ⟨w5.heap.size, 2, none⟩ = some (.int .i64 0) := (HY_7.out.cell 2).trans rfl
        have cY3 : w7.cell? ⟨w5.heap.size, 3, none⟩ = some (.int .i64 v) := (HY_7.out.cell 3).trans rfl
        have lY := HY_7.out.lt
        have cB0 : w7.cell? ⟨w6.heap.size, 0, none⟩ = some (.int .i64 o) := (HB_7.out.cell 0).trans rfl
        have cB1 : w7.cell? ⟨w6.heap.size, 1, none⟩ = some (.int .i64 0) := (HB_7.out.cell 1).trans rfl
        have cB2 : w7.cell? ⟨w6.heap.size, 2, none⟩ = some (.int .i64 0) := (HB_7.out.cell 2).trans rfl
        have cB3 : w7.cell? ⟨w6.heap.size, 3, none⟩ = some (.int .i64 v) := (HB_7.out.cell 3).trans rfl
        have lB := HB_7.out.lt
        go_wp2_with fail
        go_ret
        exact ⟨rfl, HN_7.out⟩
      · have h1' : (lb == 1) = false := beq_eq_false_iff_ne.2 h1
        have HBa : Hid (∀ w, Calls Try.prog 21 #[.int .i64 o, .int .i64 v] w fun e w' => e = .returned (.tuple #[.agg #[.int .i64 0, .int .i64 0, .int .i64 0, .int .i64 0], .int .i64 2]) ∧ New w w') := fun w => by have h := HBa0.out w; rw [if_neg h1, if_neg h1] at h; exact h
        clear h1
        have cK0 : w4.cell? ⟨w.heap.size, 0, none⟩ = some (.int .i64 o) := (HK_4.out.cell 0).trans rfl
        have cK1 : w4.cell? ⟨w.heap.size, 1, none⟩ = some (.int .i64 t) := (HK_4.out.cell 1).trans rfl
        have cK2 : w4.cell? ⟨w.heap.size, 2, none⟩ = some (.int .i64 c) := (HK_4.out.cell 2).trans rfl
        have cK3 : w4.cell? ⟨w.heap.size, 3, none⟩ = some (.int .i64 v) := (HK_4.out.cell 3).trans rfl
        have lK := HK_4.out.lt
        have cP0 : w4.cell? ⟨w.heap.size + 1, 0, none⟩ = some (.int .i64 x0) := (HP_4.out.cell 0).trans rfl
        have cP1 : w4.cell? ⟨w.heap.size + 1, 1, none⟩ = some (.int .i64 x1) := (HP_4.out.cell 1).trans rfl
        have cP2 : w4.cell? ⟨w.heap.size + 1, 2, none⟩ = some (.int .i64 x2) := (HP_4.out.cell 2).trans rfl
        have cP3 : w4.cell? ⟨w.heap.size + 1, 3, none⟩ = some (.int .i64 x3) := (HP_4.out.cell 3).trans rfl
        have cP4 : w4.cell? ⟨w.heap.size + 1, 4, none⟩ = some (.int .i64 x4) := (HP_4.out.cell 4).trans rfl
        have cP5 : w4.cell? ⟨w.heap.size + 1, 5, none⟩ = some (.int .i64 x5) := (HP_4.out.cell 5).trans rfl
        have cP6 : w4.cell? ⟨w.heap.size + 1, 6, none⟩ = some (.int .i64 x6) := (HP_4.out.cell 6).trans rfl
        have cP7 : w4.cell? ⟨w.heap.size + 1, 7, none⟩ = some (.int .i64 x7) := (HP_4.out.cell 7).trans rfl
        have cP8 : w4.cell? ⟨w.heap.size + 1, 8, none⟩ = some (.bool x8) := (HP_4.out.cell 8).trans rfl
        have cP9 : w4.cell? ⟨w.heap.size + 1, 9, none⟩ = some (.int .i64 x9) := (HP_4.out.cell 9).trans rfl
        have cP10 : w4.cell? ⟨w.heap.size + 1, 10, none⟩ = some (.int .i64 x10) := (HP_4.out.cell 10).trans rfl
        have cP11 : w4.cell? ⟨w.heap.size + 1, 11, none⟩ = some (.int .i64 x11) := (HP_4.out.cell 11).trans rfl
        have cP12 : w4.cell? ⟨w.heap.size + 1, 12, none⟩ = some (.int .i64 x12) := (HP_4.out.cell 12).trans rfl
        have cP13 : w4.cell? ⟨w.heap.size + 1, 13, none⟩ = some (.bool x13) := (HP_4.out.cell 13).trans rfl
        have lP := HP_4.out.lt
        have cR0 : w4.cell? ⟨w2.heap.size, 0, none⟩ = some (.int .i64 0) := (HR_4.out.cell 0).trans rfl
        have cR1 : w4.cell? ⟨w2.heap.size, 1, none⟩ = some (.int .i64 0) := (HR_4.out.cell 1).trans rfl
        have cR2 : w4.cell? ⟨w2.heap.size, 2, none⟩ = some (.int .i64 0) := (HR_4.out.cell 2).trans rfl
        have cR3 : w4.cell? ⟨w2.heap.size, 3, none⟩ = some (.int .i64 0) := (HR_4.out.cell 3).trans rfl
        have lR := HR_4.out.lt
        have cW0 : w4.cell? ⟨w3.heap.size, 0, none⟩ = some (.int .i64 x1) := (HW_4.out.cell 0).trans rfl
        have cW1 : w4.cell? ⟨w3.heap.size, 1, none⟩ = some (.int .i64 x0) := (HW_4.out.cell 1).trans rfl
        have cW2 : w4.cell? ⟨w3.heap.size, 2, none⟩ = some (.int .i64 x3) := (HW_4.out.cell 2).trans rfl
        have cW3 : w4.cell? ⟨w3.heap.size, 3, none⟩ = some (.int .i64 x4) := (HW_4.out.cell 3).trans rfl
        have lW := HW_4.out.lt
        go_wp2_with fail
        with_reducible refine (HBa.out _).mono ?_
        rintro e w5 ⟨rfl, hN⟩
        have HK_5 := Lib.hid ((HK_4.out.alloc (.cells #[.int .i64 0, .int .i64 0, .int .i64 0, .int .i64 0] 23)).keep hN)
        have HP_5 := Lib.hid ((HP_4.out.alloc (.cells #[.int .i64 0, .int .i64 0, .int .i64 0, .int .i64 0] 23)).keep hN)
        have HR_5 := Lib.hid ((HR_4.out.alloc (.cells #[.int .i64 0, .int .i64 0, .int .i64 0, .int .i64 0] 23)).keep hN)
        have HW_5 := Lib.hid ((HW_4.out.alloc (.cells #[.int .i64 0, .int .i64 0, .int .i64 0, .int .i64 0] 23)).keep hN)
        have HX_5 := Lib.hid ((Has.new_at w4 23 #[.int .i64 0, .int .i64 0, .int .i64 0, .int .i64 0] (w4.heap.size) (by simp)).keep hN)
        have HN_5 := Lib.hid ((HN_4.out.alloc (.cells #[.int .i64 0, .int .i64 0, .int .i64 0, .int .i64 0] 23)).then_new hN)
        clear HK_4 HP_4 HR_4 HW_4 HN_4 cK0 cK1 cK2 cK3 lK cP0 cP1 cP2 cP3 cP4 cP5 cP6 cP7 cP8 cP9 cP10 cP11 cP12 cP13 lP cR0 cR1 cR2 cR3 lR cW0 cW1 cW2 cW3 lW hN
        have cK0 : w5.cell? ⟨w.heap.size, 0, none⟩ = some (.int .i64 o) := (HK_5.out.cell 0).trans rfl
        have cK1 : w5.cell? ⟨w.heap.size, 1, none⟩ = some (.int .i64 t) := (HK_5.out.cell 1).trans rfl
        have cK2 : w5.cell? ⟨w.heap.size, 2, none⟩ = some (.int .i64 c) := (HK_5.out.cell 2).trans rfl
        have cK3 : w5.cell? ⟨w.heap.size, 3, none⟩ = some (.int .i64 v) := (HK_5.out.cell 3).trans rfl
        have lK := HK_5.out.lt
        have cP0 : w5.cell? ⟨w.heap.size + 1, 0, none⟩ = some (.int .i64 x0) := (HP_5.out.cell 0).trans rfl
        have cP1 : w5.cell? ⟨w.heap.size + 1, 1, none⟩ = some (.int .i64 x1) := (HP_5.out.cell 1).trans rfl
        have cP2 : w5.cell? ⟨w.heap.size + 1, 2, none⟩ = some (.int .i64 x2) := (HP_5.out.cell 2).trans rfl
        have cP3 : w5.cell? ⟨w.heap.size + 1, 3, none⟩ = some (.int .i64 x3) := (HP_5.out.cell 3).trans rfl
        have cP4 : w5.cell? ⟨w.heap.size + 1, 4, none⟩ = some (.int .i64 x4) := (HP_5.out.cell 4).trans rfl
        have cP5 : w5.cell? ⟨w.heap.size + 1, 5, none⟩ = some (.int .i64 x5) := (HP_5.out.cell 5).trans rfl
        have cP6 : w5.cell? ⟨w.heap.size + 1, 6, none⟩ = some (.int .i64 x6) := (HP_5.out.cell 6).trans rfl
        have cP7 : w5.cell? ⟨w.heap.size + 1, 7, none⟩ = some (.int .i64 x7) := (HP_5.out.cell 7).trans rfl
        have cP8 : w5.cell? ⟨w.heap.size + 1, 8, none⟩ = some (.bool x8) := (HP_5.out.cell 8).trans rfl
        have cP9 : w5.cell? ⟨w.heap.size + 1, 9, none⟩ = some (.int .i64 x9) := (HP_5.out.cell 9).trans rfl
        have cP10 : w5.cell? ⟨w.heap.size + 1, 10, none⟩ = some (.int .i64 x10) := (HP_5.out.cell 10).trans rfl
        have cP11 : w5.cell? ⟨w.heap.size + 1, 11, none⟩ = some (.int .i64 x11) := (HP_5.out.cell 11).trans rfl
        have cP12 : w5.cell? ⟨w.heap.size + 1, 12, none⟩ = some (.int .i64 x12) := (HP_5.out.cell 12).trans rfl
        have cP13 : w5.cell? ⟨w.heap.size + 1, 13, none⟩ = some (.bool x13) := (HP_5.out.cell 13).trans rfl
        have lP := HP_5.out.lt
        have cR0 : w5.cell? ⟨w2.heap.size, 0, none⟩ = some (.int .i64 0) := (HR_5.out.cell 0).trans rfl
        have cR1 : w5.cell? ⟨w2.heap.size, 1, none⟩ = some (.int .i64 0) := (HR_5.out.cell 1).trans rfl
        have cR2 : w5.cell? ⟨w2.heap.size, 2, none⟩ = some (.int .i64 0) := (HR_5.out.cell 2).trans rfl
        have cR3 : w5.cell? ⟨w2.heap.size, 3, none⟩ = some (.int .i64 0) := (HR_5.out.cell 3).trans rfl
        have lR := HR_5.out.lt
        have cW0 : w5.cell? ⟨w3.heap.size, 0, none⟩ = some (.int .i64 x1) := (HW_5.out.cell 0).trans rfl
        have cW1 : w5.cell? ⟨w3.heap.size, 1, none⟩ = some (.int .i64 x0) := (HW_5.out.cell 1).trans rfl
        have cW2 : w5.cell? ⟨w3.heap.size, 2, none⟩ = some (.int .i64 x3) := (HW_5.out.cell 2).trans rfl
        have cW3 : w5.cell? ⟨w3.heap.size, 3, none⟩ = some (.int .i64 x4) := (HW_5.out.cell 3).trans rfl
        have lW := HW_5.out.lt
        have cX0 : w5.cell? ⟨w4.heap.size, 0, none⟩ = some (.int .i64 0) := (HX_5.out.cell 0).trans rfl
        have cX1 : w5.cell? ⟨w4.heap.size, 1, none⟩ = some (.int .i64 0) := (HX_5.out.cell 1).trans rfl
        have cX2 : w5.cell? ⟨w4.heap.size, 2, none⟩ = some (.int .i64 0) := (HX_5.out.cell 2).trans rfl
        have cX3 : w5.cell? ⟨w4.heap.size, 3, none⟩ = some (.int .i64 0) := (HX_5.out.cell 3).trans rfl
        have lX := HX_5.out.lt
        go_wp2_with fail
        with_reducible refine (HLw.out _).mono ?_
        rintro e w6 ⟨rfl, hN⟩
        have HK_6 := Lib.hid ((HK_5.out.alloc (.cells #[.int .i64 0, .int .i64 0, .int .i64 0, .int .i64 0] 23)).keep hN)
        have HP_6 := Lib.hid ((HP_5.out.alloc (.cells #[.int .i64 0, .int .i64 0, .int .i64 0, .int .i64 0] 23)).keep hN)
        have HR_6 := Lib.hid ((HR_5.out.alloc (.cells #[.int .i64 0, .int .i64 0, .int .i64 0, .int .i64 0] 23)).keep hN)
        have HW_6 := Lib.hid ((HW_5.out.alloc (.cells #[.int .i64 0, .int .i64 0, .int .i64 0, .int .i64 0] 23)).keep hN)
        have HX_6 := Lib.hid ((HX_5.out.alloc (.cells #[.int .i64 0, .int .i64 0, .int .i64 0, .int .i64 0] 23)).keep hN)
        have HY_6 := Lib.hid ((Has.new_at w5 23 #[.int .i64 0, .int .i64 0, .int .i64 0, .int .i64 0] (w5.heap.size) (by simp)).keep hN)
        have HN_6 := Lib.hid ((HN_5.out.alloc (.cells #[.int .i64 0, .int .i64 0, .int .i64 0, .int .i64 0] 23)).then_new hN)
        clear HK_5 HP_5 HR_5 HW_5 HX_5 HN_5 cK0 cK1 cK2 cK3 lK cP0 cP1 cP2 cP3 cP4 cP5 cP6 cP7 cP8 cP9 cP10 cP11 cP12 cP13 lP cR0 cR1 cR2 cR3 lR cW0 cW1 cW2 cW3 lW cX0 cX1 cX2 cX3 lX hN
        have cK0 : w6.cell? ⟨w.heap.size, 0, none⟩ = some (.int .i64 o) := (HK_6.out.cell 0).trans rfl
        have cK1 : w6.cell? ⟨w.heap.size, 1, none⟩ = some (.int .i64 t) := (HK_6.out.cell 1).trans rfl
        have cK2 : w6.cell? ⟨w.heap.size, 2, none⟩ = some (.int .i64 c) := (HK_6.out.cell 2).trans rfl
        have cK3 : w6.cell? ⟨w.heap.size, 3, none⟩ = some (.int .i64 v) := (HK_6.out.cell 3).trans rfl
        have lK := HK_6.out.lt
        have cP0 : w6.cell? ⟨w.heap.size + 1, 0, none⟩ = some (.int .i64 x0) := (HP_6.out.cell 0).trans rfl
        have cP1 : w6.cell? ⟨w.heap.size + 1, 1, none⟩ = some (.int .i64 x1) := (HP_6.out.cell 1).trans rfl
        have cP2 : w6.cell? ⟨w.heap.size + 1, 2, none⟩ = some (.int .i64 x2) := (HP_6.out.cell 2).trans rfl
        have cP3 : w6.cell? ⟨w.heap.size + 1, 3, none⟩ = some (.int .i64 x3) := (HP_6.out.cell 3).trans rfl
        have cP4 : w6.cell? ⟨w.heap.size + 1, 4, none⟩ = some (.int .i64 x4) := (HP_6.out.cell 4).trans rfl
        have cP5 : w6.cell? ⟨w.heap.size + 1, 5, none⟩ = some (.int .i64 x5) := (HP_6.out.cell 5).trans rfl
        have cP6 : w6.cell? ⟨w.heap.size + 1, 6, none⟩ = some (.int .i64 x6) := (HP_6.out.cell 6).trans rfl
        have cP7 : w6.cell? ⟨w.heap.size + 1, 7, none⟩ = some (.int .i64 x7) := (HP_6.out.cell 7).trans rfl
        have cP8 : w6.cell? ⟨w.heap.size + 1, 8, none⟩ = some (.bool x8) := (HP_6.out.cell 8).trans rfl
        have cP9 : w6.cell? ⟨w.heap.size + 1, 9, none⟩ = some (.int .i64 x9) := (HP_6.out.cell 9).trans rfl
        have cP10 : w6.cell? ⟨w.heap.size + 1, 10, none⟩ = some (.int .i64 x10) := (HP_6.out.cell 10).trans rfl
        have cP11 : w6.cell? ⟨w.heap.size + 1, 11, none⟩ = some (.int .i64 x11) := (HP_6.out.cell 11).trans rfl
        have cP12 : w6.cell? ⟨w.heap.size + 1, 12, none⟩ = some (.int .i64 x12) := (HP_6.out.cell 12).trans rfl
        have cP13 : w6.cell? ⟨w.heap.size + 1, 13, none⟩ = some (.bool x13) := (HP_6.out.cell 13).trans rfl
        have lP := HP_6.out.lt
        have cR0 : w6.cell? ⟨w2.heap.size, 0, none⟩ = some (.int .i64 0) := (HR_6.out.cell 0).trans rfl
        have cR1 : w6.cell? ⟨w2.heap.size, 1, none⟩ = some (.int .i64 0) := (HR_6.out.cell 1).trans rfl
        have cR2 : w6.cell? ⟨w2.heap.size, 2, none⟩ = some (.int .i64 0) := (HR_6.out.cell 2).trans rfl
        have cR3 : w6.cell? ⟨w2.heap.size, 3, none⟩ = some (.int .i64 0) := (HR_6.out.cell 3).trans rfl
        have lR := HR_6.out.lt
        have cW0 : w6.cell? ⟨w3.heap.size, 0, none⟩ = some (.int .i64 x1) := (HW_6.out.cell 0).trans rfl
        have cW1 : w6.cell? ⟨w3.heap.size, 1, none⟩ = some (.int .i64 x0) := (HW_6.out.cell 1).trans rfl
        have cW2 : w6.cell? ⟨w3.heap.size, 2, none⟩ = some (.int .i64 x3) := (HW_6.out.cell 2).trans rfl
        have cW3 : w6.cell? ⟨w3.heap.size, 3, none⟩ = some (.int .i64 x4) := (HW_6.out.cell 3).trans rfl
        have lW := HW_6.out.lt
        have cX0 : w6.cell? ⟨w4.heap.size, 0, none⟩ = some (.int .i64 0) := (HX_6.out.cell 0).trans rfl
        have cX1 : w6.cell? ⟨w4.heap.size, 1, none⟩ = some (.int .i64 0) := (HX_6.out.cell 1).trans rfl
        have cX2 : w6.cell? ⟨w4.heap.size, 2, none⟩ = some (.int .i64 0) := (HX_6.out.cell 2).trans rfl
        have cX3 : w6.cell? ⟨w4.heap.size, 3, none⟩ = some (.int .i64 0) := (HX_6.out.cell 3).trans rfl
        have lX := HX_6.out.lt
        have cY0 : w6.cell? ⟨w5.heap.size, 0, none⟩ = some (.int .i64 0) := (HY_6.out.cell 0).trans rfl
        have cY1 : w6.cell? ⟨w5.heap.size, 1, none⟩ = some (.int .i64 0) := (HY_6.out.cell 1).trans rfl
        have cY2 : w6.cell? ⟨w5.heap.size, 2, none⟩ = some (.int .i64 0) := (HY_6.out.cell 2).trans rfl
        have cY3 : w6.cell? ⟨w5.heap.size, 3, none⟩ = some (.int .i64 0) := (HY_6.out.cell 3).trans rfl
        have lY := HY_6.out.lt
        go_wp2_with fail
        with_reducible refine (HLb.out _).mono ?_
        rintro e w7 ⟨rfl, hN⟩
        have HK_7 := Lib.hid ((HK_6.out.alloc (.cells #[.int .i64 o, .int .i64 0, .int .i64 0, .int .i64 v] 23)).keep hN)
        have HP_7 := Lib.hid ((HP_6.out.alloc (.cells #[.int .i64 o, .int .i64 0, .int .i64 0, .int .i64 v] 23)).keep hN)
        have HR_7 := Lib.hid ((HR_6.out.alloc (.cells #[.int .i64 o, .int .i64 0, .int .i64 0, .int .i64 v] 23)).keep hN)
        have HW_7 := Lib.hid ((HW_6.out.alloc (.cells #[.int .i64 o, .int .i64 0, .int .i64 0, .int .i64 v] 23)).keep hN)
        have HX_7 := Lib.hid ((HX_6.out.alloc (.cells #[.int .i64 o, .int .i64 0, .int .i64 0, .int .i64 v] 23)).keep hN)
        have HY_7 := Lib.hid ((HY_6.out.alloc (.cells #[.int .i64 o, .int .i64 0, .int .i64 0, .int .i64 v] 23)).keep hN)
        have HB_7 := Lib.hid ((Has.new_at w6 23 #[.int .i64 o, .int .i64 0, .int .i64 0, .int .i64 v] (w6.heap.size) (by simp)).keep hN)
        have HN_7 := Lib.hid ((HN_6.out.alloc (.cells #[.int .i64 o, .int .i64 0, .int .i64 0, .int .i64 v] 23)).then_new hN)
        clear HK_6 HP_6 HR_6 HW_6 HX_6 HY_6 HN_6 cK0 cK1 cK2 cK3 lK cP0 cP1 cP2 cP3 cP4 cP5 cP6 cP7 cP8 cP9 cP10 cP11 cP12 cP13 lP cR0 cR1 cR2 cR3 lR cW0 cW1 cW2 cW3 lW cX0 cX1 cX2 cX3 lX cY0 cY1 cY2 cY3 lY hN
        have cK0 : w7.cell? ⟨w.heap.size, 0, none⟩ = some (.int .i64 o) := (HK_7.out.cell 0).trans rfl
        have cK1 : w7.cell? ⟨w.heap.size, 1, none⟩ = some (.int .i64 t) := (HK_7.out.cell 1).trans rfl
        have cK2 : w7.cell? ⟨w.heap.size, 2, none⟩ = some (.int .i64 c) := (HK_7.out.cell 2).trans rfl
        have cK3 : w7.cell? ⟨w.heap.size, 3, none⟩ = some (.int .i64 v) := (HK_7.out.cell 3).trans rfl
        have lK := HK_7.out.lt
        have cP0 : w7.cell? ⟨w.heap.size + 1, 0, none⟩ = some (.int .i64 x0) := (HP_7.out.cell 0).trans rfl
        have cP1 : w7.cell? ⟨w.heap.size + 1, 1, none⟩ = some (.int .i64 x1) := (HP_7.out.cell 1).trans rfl
        have cP2 : w7.cell? ⟨w.heap.size + 1, 2, none⟩ = some (.int .i64 x2) := (HP_7.out.cell 2).trans rfl
        have cP3 : w7.cell? ⟨w.heap.size + 1, 3, none⟩ = some (.int .i64 x3) := (HP_7.out.cell 3).trans rfl
        have cP4 : w7.cell? ⟨w.heap.size + 1, 4, none⟩ = some (.int .i64 x4) := (HP_7.out.cell 4).trans rfl
        have cP5 : w7.cell? ⟨w.heap.size + 1, 5, none⟩ = some (.int .i64 x5) := (HP_7.out.cell 5).trans rfl
        have cP6 : w7.cell? ⟨w.heap.size + 1, 6, none⟩ = some (.int .i64 x6) := (HP_7.out.cell 6).trans rfl
        have cP7 : w7.cell? ⟨w.heap.size + 1, 7, none⟩ = some (.int .i64 x7) := (HP_7.out.cell 7).trans rfl
        have cP8 : w7.cell? ⟨w.heap.size + 1, 8, none⟩ = some (.bool x8) := (HP_7.out.cell 8).trans rfl
        have cP9 : w7.cell? ⟨w.heap.size + 1, 9, none⟩ = some (.int .i64 x9) := (HP_7.out.cell 9).trans rfl
        have cP10 : w7.cell? ⟨w.heap.size + 1, 10, none⟩ = some (.int .i64 x10) := (HP_7.out.cell 10).trans rfl
        have cP11 : w7.cell? ⟨w.heap.size + 1, 11, none⟩ = some (.int .i64 x11) := (HP_7.out.cell 11).trans rfl
        have cP12 : w7.cell? ⟨w.heap.size + 1, 12, none⟩ = some (.int .i64 x12) := (HP_7.out.cell 12).trans rfl
        have cP13 : w7.cell? ⟨w.heap.size + 1, 13, none⟩ = some (.bool x13) := (HP_7.out.cell 13).trans rfl
        have lP := HP_7.out.lt
        have cR0 : w7.cell? ⟨w2.heap.size, 0, none⟩ = some (.int .i64 0) := (HR_7.out.cell 0).trans rfl
        have cR1 : w7.cell? ⟨w2.heap.size, 1, none⟩ = some (.int .i64 0) := (HR_7.out.cell 1).trans rfl
        have cR2 : w7.cell? ⟨w2.heap.size, 2, none⟩ = some (.int .i64 0) := (HR_7.out.cell 2).trans rfl
        have cR3 : w7.cell? ⟨w2.heap.size, 3, none⟩ = some (.int .i64 0) := (HR_7.out.cell 3).trans rfl
        have lR := HR_7.out.lt
        have cW0 : w7.cell? ⟨w3.heap.size, 0, none⟩ = some (.int .i64 x1) := (HW_7.out.cell 0).trans rfl
        have cW1 : w7.cell? ⟨w3.heap.size, 1, none⟩ = some (.int .i64 x0) := (HW_7.out.cell 1).trans rfl
        have cW2 : w7.cell? ⟨w3.heap.size, 2, none⟩ = some (.int .i64 x3) := (HW_7.out.cell 2).trans rfl
        have cW3 : w7.cell? ⟨w3.heap.size, 3, none⟩ = some (.int .i64 x4) := (HW_7.out.cell 3).trans rfl
        have lW := HW_7.out.lt
        have cX0 : w7.cell? ⟨w4.heap.size, 0, none⟩ = some (.int .i64 0) := (HX_7.out.cell 0).trans rfl
        have cX1 : w7.cell? ⟨w4.heap.size, 1, none⟩ = some (.int .i64 0) := (HX_7.out.cell 1).trans rfl
        have cX2 : w7.cell? ⟨w4.heap.size, 2, none⟩ = some (.int .i64 0) := (HX_7.out.cell 2).trans rfl
        have cX3 : w7.cell? ⟨w4.heap.size, 3, none⟩ = some (.int .i64 0) := (HX_7.out.cell 3).trans rfl
        have lX := HX_7.out.lt
        have cY0 : w7.cell? ⟨w5.heap.size, 0, none⟩ = some (.int .i64 0) := (HY_7.out.cell 0).trans rfl
        have cY1 : w7.cell? ⟨w5.heap.size, 1, none⟩ = some (.int .i64 0) := (HY_7.out.cell 1).trans rfl
        have cY2 : w7.cell? ⟨w5.heap.size, 2, none⟩ = some (.int .i64 0) := (HY_7.out.cell 2).trans rfl
        have cY3 : w7.cell? ⟨w5.heap.size, 3, none⟩ = some (.int .i64 0) := (HY_7.out.cell 3).trans rfl
        have lY := HY_7.out.lt
        have cB0 : w7.cell? ⟨w6.heap.size, 0, none⟩ = some (.int .i64 o) := (HB_7.out.cell 0).trans rfl
        have cB1 : w7.cell? ⟨w6.heap.size, 1, none⟩ = some (.int .i64 0) := (HB_7.out.cell 1).trans rfl
        have cB2 : w7.cell? ⟨w6.heap.size, 2, none⟩ = some (.int .i64 0) := (HB_7.out.cell 2).trans rfl
        have cB3 : w7.cell? ⟨w6.heap.size, 3, none⟩ = some (.int .i64 v) := (HB_7.out.cell 3).trans rfl
        have lB := HB_7.out.lt
        go_wp2_with fail
        go_ret
        exact ⟨rfl, HN_7.out⟩
  | true =>
    have hv := (rightB_yes hb).2.2.2.1
    by_cases h255 : k.v = 255
    · obtain ⟨e1, e2⟩ := rol_end hb h255
      rw [e1, e2] at HRo
      have h' : (k.v == 255) = true := beq_iff_eq.2 h255
      clear e1 e2 hb h255
      obtain ⟨o, t, c, v⟩ := k
      change Hid (∀ w, Calls Try.prog 19 _ w fun e w' => e = .returned (.tuple #[.agg #[.int .i64 0, .int .i64 0, .int .i64 0, .int .i64 0], .int .i64 29]) ∧ New w w') at HRo
      go_enter Try.func4, Try.ntmps4
      go_wp2_with fail
      with_reducible refine (awake_any _).mono ?_
      rintro e w1 ⟨rfl, hN⟩
      have HK_1 := Lib.hid (((Has.new_at w 23 #[.int .i64 o, .int .i64 t, .int .i64 c, .int .i64 v] (w.heap.size) (by simp)).alloc (.cells #[.int .i64 x0, .int .i64 x1, .int .i64 x2, .int .i64 x3, .int .i64 x4, .int .i64 x5, .int .i64 x6, .int .i64 x7, .bool x8, .int .i64 x9, .int .i64 x10, .int .i64 x11, .int .i64 x12, .bool x13] 41)).keep hN)
      have HP_1 := Lib.hid ((Has.new_at (w.alloc (.cells #[.int .i64 o, .int .i64 t, .int .i64 c, .int .i64 v] 23)) 41 #[.int .i64 x0, .int .i64 x1, .int .i64 x2, .int .i64 x3, .int .i64 x4, .int .i64 x5, .int .i64 x6, .int .i64 x7, .bool x8, .int .i64 x9, .int .i64 x10, .int .i64 x11, .int .i64 x12, .bool x13] (w.heap.size + 1) (by simp)).keep hN)
      have HN_1 := Lib.hid ((((Chg.refl (fun _ => False) w).alloc (.cells #[.int .i64 o, .int .i64 t, .int .i64 c, .int .i64 v] 23)).alloc (.cells #[.int .i64 x0, .int .i64 x1, .int .i64 x2, .int .i64 x3, .int .i64 x4, .int .i64 x5, .int .i64 x6, .int .i64 x7, .bool x8, .int .i64 x9, .int .i64 x10, .int .i64 x11, .int .i64 x12, .bool x13] 41)).then_new hN)
      clear hN
      have cK0 : w1.cell? ⟨w.heap.size, 0, none⟩ = some (.int .i64 o) := (HK_1.out.cell 0).trans rfl
      have cK1 : w1.cell? ⟨w.heap.size, 1, none⟩ = some (.int .i64 t) := (HK_1.out.cell 1).trans rfl
      have cK2 : w1.cell? ⟨w.heap.size, 2, none⟩ = some (.int .i64 c) := (HK_1.out.cell 2).trans rfl
      have cK3 : w1.cell? ⟨w.heap.size, 3, none⟩ = some (.int .i64 v) := (HK_1.out.cell 3).trans rfl
      have lK := HK_1.out.lt
      have cP0 : w1.cell? ⟨w.heap.size + 1, 0, none⟩ = some (.int .i64 x0) := (HP_1.out.cell 0).trans rfl
      have cP1 : w1.cell? ⟨w.heap.size + 1, 1, none⟩ = some (.int .i64 x1) := (HP_1.out.cell 1).trans rfl
      have cP2 : w1.cell? ⟨w.heap.size + 1, 2, none⟩ = some (.int .i64 x2) := (HP_1.out.cell 2).trans rfl
      have cP3 : w1.cell? ⟨w.heap.size + 1, 3, none⟩ = some (.int .i64 x3) := (HP_1.out.cell 3).trans rfl
      have cP4 : w1.cell? ⟨w.heap.size + 1, 4, none⟩ = some (.int .i64 x4) := (HP_1.out.cell 4).trans rfl
      have cP5 : w1.cell? ⟨w.heap.size + 1, 5, none⟩ = some (.int .i64 x5) := (HP_1.out.cell 5).trans rfl
      have cP6 : w1.cell? ⟨w.heap.size + 1, 6, none⟩ = some (.int .i64 x6) := (HP_1.out.cell 6).trans rfl
      have cP7 : w1.cell? ⟨w.heap.size + 1, 7, none⟩ = some (.int .i64 x7) := (HP_1.out.cell 7).trans rfl
      have cP8 : w1.cell? ⟨w.heap.size + 1, 8, none⟩ = some (.bool x8) := (HP_1.out.cell 8).trans rfl
      have cP9 : w1.cell? ⟨w.heap.size + 1, 9, none⟩ = some (.int .i64 x9) := (HP_1.out.cell 9).trans rfl
      have cP10 : w1.cell? ⟨w.heap.size + 1, 10, none⟩ = some (.int .i64 x10) := (HP_1.out.cell 10).trans rfl
      have cP11 : w1.cell? ⟨w.heap.size + 1, 11, none⟩ = some (.int .i64 x11) := (HP_1.out.cell 11).trans rfl
      have cP12 : w1.cell? ⟨w.heap.size + 1, 12, none⟩ = some (.int .i64 x12) := (HP_1.out.cell 12).trans rfl
      have cP13 : w1.cell? ⟨w.heap.size + 1, 13, none⟩ = some (.bool x13) := (HP_1.out.cell 13).trans rfl
      have lP := HP_1.out.lt
      go_wp2_with fail
      with_reducible refine (HRo.out _).mono ?_
      rintro e w2 ⟨rfl, hN⟩
      have HK_2 := Lib.hid (HK_1.out.keep hN)
      have HP_2 := Lib.hid (HP_1.out.keep hN)
      have HN_2 := Lib.hid (HN_1.out.then_new hN)
      clear HK_1 HP_1 HN_1 cK0 cK1 cK2 cK3 lK cP0 cP1 cP2 cP3 cP4 cP5 cP6 cP7 cP8 cP9 cP10 cP11 cP12 cP13 lP hN
      have cK0 : w2.cell? ⟨w.heap.size, 0, none⟩ = some (.int .i64 o) := (HK_2.out.cell 0).trans rfl
      have cK1 : w2.cell? ⟨w.heap.size, 1, none⟩ = some (.int .i64 t) := (HK_2.out.cell 1).trans rfl
      have cK2 : w2.cell? ⟨w.heap.size, 2, none⟩ = some (.int .i64 c) := (HK_2.out.cell 2).trans rfl
      have cK3 : w2.cell? ⟨w.heap.size, 3, none⟩ = some (.int .i64 v) := (HK_2.out.cell 3).trans rfl
      have lK := HK_2.out.lt
      have cP0 : w2.cell? ⟨w.heap.size + 1, 0, none⟩ = some (.int .i64 x0) := (HP_2.out.cell 0).trans rfl
      have cP1 : w2.cell? ⟨w.heap.size + 1, 1, none⟩ = some (.int .i64 x1) := (HP_2.out.cell 1).trans rfl
      have cP2 : w2.cell? ⟨w.heap.size + 1, 2, none⟩ = some (.int .i64 x2) := (HP_2.out.cell 2).trans rfl
      have cP3 : w2.cell? ⟨w.heap.size + 1, 3, none⟩ = some (.int .i64 x3) := (HP_2.out.cell 3).trans rfl
      have cP4 : w2.cell? ⟨w.heap.size + 1, 4, none⟩ = some (.int .i64 x4) := (HP_2.out.cell 4).trans rfl
      have cP5 : w2.cell? ⟨w.heap.size + 1, 5, none⟩ = some (.int .i64 x5) := (HP_2.out.cell 5).trans rfl
      have cP6 : w2.cell? ⟨w.heap.size + 1, 6, none⟩ = some (.int .i64 x6) := (HP_2.out.cell 6).trans rfl
      have cP7 : w2.cell? ⟨w.heap.size + 1, 7, none⟩ = some (.int .i64 x7) := (HP_2.out.cell 7).trans rfl
      have cP8 : w2.cell? ⟨w.heap.size + 1, 8, none⟩ = some (.bool x8) := (HP_2.out.cell 8).trans rfl
      have cP9 : w2.cell? ⟨w.heap.size + 1, 9, none⟩ = some (.int .i64 x9) := (HP_2.out.cell 9).trans rfl
      have cP10 : w2.cell? ⟨w.heap.size + 1, 10, none⟩ = some (.int .i64 x10) := (HP_2.out.cell 10).trans rfl
      have cP11 : w2.cell? ⟨w.heap.size + 1, 11, none⟩ = some (.int .i64 x11) := (HP_2.out.cell 11).trans rfl
      have cP12 : w2.cell? ⟨w.heap.size + 1, 12, none⟩ = some (.int .i64 x12) := (HP_2.out.cell 12).trans rfl
      have cP13 : w2.cell? ⟨w.heap.size + 1, 13, none⟩ = some (.bool x13) := (HP_2.out.cell 13).trans rfl
      have lP := HP_2.out.lt
      go_wp2_with fail
      with_reducible refine (HRi.out _).mono ?_
      rintro e w3 ⟨rfl, hN⟩
      have HK_3 := Lib.hid ((HK_2.out.alloc (.cells #[.int .i64 0, .int .i64 0, .int .i64 0, .int .i64 0] 23)).keep hN)
      have HP_3 := Lib.hid ((HP_2.out.alloc (.cells #[.int .i64 0, .int .i64 0, .int .i64 0, .int .i64 0] 23)).keep hN)
      have HR_3 := Lib.hid ((Has.new_at w2 23 #[.int .i64 0, .int .i64 0, .int .i64 0, .int .i64 0] (w2.heap.size) (by simp)).keep hN)
      have HN_3 := Lib.hid ((HN_2.out.alloc (.cells #[.int .i64 0, .int .i64 0, .int .i64 0, .int .i64 0] 23)).then_new hN)
      clear HK_2 HP_2 HN_2 cK0 cK1 cK2 cK3 lK cP0 cP1 cP2 cP3 cP4 cP5 cP6 cP7 cP8 cP9 cP10 cP11 cP12 cP13 lP hN
      by_cases h3 : lp = 3
      · subst h3
        have HPr : Hid (∀ w, Calls Try.prog 20 #[PrV x0 x1 x2 x3 x4 x5 x6 x7 x9 x10 x11 x12 x8 x13] w fun e w' => e = .returned (.tuple #[.agg #[.int .i64 x1, .int .i64 x0, .int .i64 x3, .int .i64 x4], .int .i64 0]) ∧ New w w') := fun w => by have h := HPr0.out w; rw [if_pos rfl, if_pos rfl] at h; exact h
        have cK0 : w3.cell? ⟨w.heap.size, 0, none⟩ = some (.int .i64 o) := (HK_3.out.cell 0).trans rfl
        have cK1 : w3.cell? ⟨w.heap.size, 1, none⟩ = some (.int .i64 t) := (HK_3.out.cell 1).trans rfl
        have cK2 : w3.cell? ⟨w.heap.size, 2, none⟩ = some (.int .i64 c) := (HK_3.out.cell 2).trans rfl
        have cK3 : w3.cell? ⟨w.heap.size, 3, none⟩ = some (.int .i64 v) := (HK_3.out.cell 3).trans rfl
        have lK := HK_3.out.lt
        have cP0 : w3.cell? ⟨w.heap.size + 1, 0, none⟩ = some (.int .i64 x0) := (HP_3.out.cell 0).trans rfl
        have cP1 : w3.cell? ⟨w.heap.size + 1, 1, none⟩ = some (.int .i64 x1) := (HP_3.out.cell 1).trans rfl
        have cP2 : w3.cell? ⟨w.heap.size + 1, 2, none⟩ = some (.int .i64 x2) := (HP_3.out.cell 2).trans rfl
        have cP3 : w3.cell? ⟨w.heap.size + 1, 3, none⟩ = some (.int .i64 x3) := (HP_3.out.cell 3).trans rfl
        have cP4 : w3.cell? ⟨w.heap.size + 1, 4, none⟩ = some (.int .i64 x4) := (HP_3.out.cell 4).trans rfl
        have cP5 : w3.cell? ⟨w.heap.size + 1, 5, none⟩ = some (.int .i64 x5) := (HP_3.out.cell 5).trans rfl
        have cP6 : w3.cell? ⟨w.heap.size + 1, 6, none⟩ = some (.int .i64 x6) := (HP_3.out.cell 6).trans rfl
        have cP7 : w3.cell? ⟨w.heap.size + 1, 7, none⟩ = some (.int .i64 x7) := (HP_3.out.cell 7).trans rfl
        have cP8 : w3.cell? ⟨w.heap.size + 1, 8, none⟩ = some (.bool x8) := (HP_3.out.cell 8).trans rfl
        have cP9 : w3.cell? ⟨w.heap.size + 1, 9, none⟩ = some (.int .i64 x9) := (HP_3.out.cell 9).trans rfl
        have cP10 : w3.cell? ⟨w.heap.size + 1, 10, none⟩ = some (.int .i64 x10) := (HP_3.out.cell 10).trans rfl
        have cP11 : w3.cell? ⟨w.heap.size + 1, 11, none⟩ = some (.int .i64 x11) := (HP_3.out.cell 11).trans rfl
        have cP12 : w3.cell? ⟨w.heap.size + 1, 12, none⟩ = some (.int .i64 x12) := (HP_3.out.cell 12).trans rfl
        have cP13 : w3.cell? ⟨w.heap.size + 1, 13, none⟩ = some (.bool x13) := (HP_3.out.cell 13).trans rfl
        have lP := HP_3.out.lt
        have cR0 : w3.cell? ⟨w2.heap.size, 0, none⟩ = some (.int .i64 0) := (HR_3.out.cell 0).trans rfl
        have cR1 : w3.cell? ⟨w2.heap.size, 1, none⟩ = some (.int .i64 0) := (HR_3.out.cell 1).trans rfl
        have cR2 : w3.cell? ⟨w2.heap.size, 2, none⟩ = some (.int .i64 0) := (HR_3.out.cell 2).trans rfl
        have cR3 : w3.cell? ⟨w2.heap.size, 3, none⟩ = some (.int .i64 0) := (HR_3.out.cell 3).trans rfl
        have lR := HR_3.out.lt
        go_wp2_with fail
        with_reducible refine (HPr.out _).mono ?_
        rintro e w4 ⟨rfl, hN⟩
        have HK_4 := Lib.hid ((HK_3.out.alloc (.cells #[.int .i64 x1, .int .i64 x0, .int .i64 x3, .int .i64 x4] 23)).keep hN)
        have HP_4 := Lib.hid ((HP_3.out.alloc (.cells #[.int .i64 x1, .int .i64 x0, .int .i64 x3, .int .i64 x4] 23)).keep hN)
        have HR_4 := Lib.hid ((HR_3.out.alloc (.cells #[.int .i64 x1, .int .i64 x0, .int .i64 x3, .int .i64 x4] 23)).keep hN)
        have HW_4 := Lib.hid ((Has.new_at w3 23 #[.int .i64 x1, .int .i64 x0, .int .i64 x3, .int .i64 x4] (w3.heap.size) (by simp)).keep hN)
        have HN_4 := Lib.hid ((HN_3.out.alloc (.cells #[.int .i64 x1, .int .i64 x0, .int .i64 x3, .int .i64 x4] 23)).then_new hN)
        clear HK_3 HP_3 HR_3 HN_3 cK0 cK1 cK2 cK3 lK cP0 cP1 cP2 cP3 cP4 cP5 cP6 cP7 cP8 cP9 cP10 cP11 cP12 cP13 lP cR0 cR1 cR2 cR3 lR hN
        by_cases h1 : lb = 1
        · subst h1
          have HBa : Hid (∀ w, Calls Try.prog 21 #[.int .i64 o, .int .i64 v] w fun e w' => e = .returned (.tuple #[.agg #[.int .i64 o, .int .i64 0, .int .i64 0, .int .i64 v], .int .i64 0]) ∧ New w w') := fun w => by have h := HBa0.out w; rw [if_pos rfl, if_pos rfl] at h; exact h
          have cK0 : w4.cell? ⟨w.heap.size, 0, none⟩ = some (.int .i64 o) := (HK_4.out.cell 0).trans rfl
          have cK1 : w4.cell? ⟨w.heap.size, 1, none⟩ = some (.int .i64 t) := (HK_4.out.cell 1).trans rfl
          have cK2 : w4.cell? ⟨w.heap.size, 2, none⟩ = some (.int .i64 c) := (HK_4.out.cell 2).trans rfl
          have cK3 : w4.cell? ⟨w.heap.size, 3, none⟩ = some (.int .i64 v) := (HK_4.out.cell 3).trans rfl
          have lK := HK_4.out.lt
          have cP0 : w4.cell? ⟨w.heap.size + 1, 0, none⟩ = some (.int .i64 x0) := (HP_4.out.cell 0).trans rfl
          have cP1 : w4.cell? ⟨w.heap.size + 1, 1, none⟩ = some (.int .i64 x1) := (HP_4.out.cell 1).trans rfl
          have cP2 : w4.cell? ⟨w.heap.size + 1, 2, none⟩ = some (.int .i64 x2) := (HP_4.out.cell 2).trans rfl
          have cP3 : w4.cell? ⟨w.heap.size + 1, 3, none⟩ = some (.int .i64 x3) := (HP_4.out.cell 3).trans rfl
          have cP4 : w4.cell? ⟨w.heap.size + 1, 4, none⟩ = some (.int .i64 x4) := (HP_4.out.cell 4).trans rfl
          have cP5 : w4.cell? ⟨w.heap.size + 1, 5, none⟩ = some (.int .i64 x5) := (HP_4.out.cell 5).trans rfl
          have cP6 : w4.cell? ⟨w.heap.size + 1, 6, none⟩ = some (.int .i64 x6) := (HP_4.out.cell 6).trans rfl
          have cP7 : w4.cell? ⟨w.heap.size + 1, 7, none⟩ = some (.int .i64 x7) := (HP_4.out.cell 7).trans rfl
          have cP8 : w4.cell? ⟨w.heap.size + 1, 8, none⟩ = some (.bool x8) := (HP_4.out.cell 8).trans rfl
          have cP9 : w4.cell? ⟨w.heap.size + 1, 9, none⟩ = some (.int .i64 x9) := (HP_4.out.cell 9).trans rfl
          have cP10 : w4.cell? ⟨w.heap.size + 1, 10, none⟩ = some (.int .i64 x10) := (HP_4.out.cell 10).trans rfl
          have cP11 : w4.cell? ⟨w.heap.size + 1, 11, none⟩ = some (.int .i64 x11) := (HP_4.out.cell 11).trans rfl
          have cP12 : w4.cell? ⟨w.heap.size + 1, 12, none⟩ = some (.int .i64 x12) := (HP_4.out.cell 12).trans rfl
          have cP13 : w4.cell? ⟨w.heap.size + 1, 13, none⟩ = some (.bool x13) := (HP_4.out.cell 13).trans rfl
          have lP := HP_4.out.lt
          have cR0 : w4.cell? ⟨w2.heap.size, 0, none⟩ = some (.int .i64 0) := (HR_4.out.cell 0).trans rfl
          have cR1 : w4.cell? ⟨w2.heap.size, 1, none⟩ = some (.int .i64 0) := (HR_4.out.cell 1).trans rfl
          have cR2 : w4.cell? ⟨w2.heap.size, 2, none⟩ = some (.int .i64 0) := (HR_4.out.cell 2).trans rfl
          have cR3 : w4.cell? ⟨w2.heap.size, 3, none⟩ = some (.int .i64 0) := (HR_4.out.cell 3).trans rfl
          have lR := HR_4.out.lt
          have cW0 : w4.cell? ⟨w3.heap.size, 0, none⟩ = some (.int .i64 x1) := (HW_4.out.cell 0).trans rfl
          have cW1 : w4.cell? ⟨w3.heap.size, 1, none⟩ = some (.int .i64 x0) := (HW_4.out.cell 1).trans rfl
          have cW2 : w4.cell? ⟨w3.heap.size, 2, none⟩ = some (.int .i64 x3) := (HW_4.out.cell 2).trans rfl
          have cW3 : w4.cell? ⟨w3.heap.size, 3, none⟩ = some (.int .i64 x4) := (HW_4.out.cell 3).trans rfl
          have lW := HW_4.out.lt
          go_wp2_with fail
          with_reducible refine (HBa.out _).mono ?_
          rintro e w5 ⟨rfl, hN⟩
          have HK_5 := Lib.hid ((HK_4.out.alloc (.cells #[.int .i64 x1, .int .i64 x0, .int .i64 x3, .int .i64 x4] 23)).keep hN)
          have HP_5 := Lib.hid ((HP_4.out.alloc (.cells #[.int .i64 x1, .int .i64 x0, .int .i64 x3, .int .i64 x4] 23)).keep hN)
          have HR_5 := Lib.hid ((HR_4.out.alloc (.cells #[.int .i64 x1, .int .i64 x0, .int .i64 x3, .int .i64 x4] 23)).keep hN)
          have HW_5 := Lib.hid ((HW_4.out.alloc (.cells #[.int .i64 x1, .int .i64 x0, .int .i64 x3, .int .i64 x4] 23)).keep hN)
          have HX_5 := Lib.hid ((Has.new_at w4 23 #[.int .i64 x1, .int .i64 x0, .int .i64 x3, .int .i64 x4] (w4.heap.size) (by simp)).keep hN)
          have HN_5 := Lib.hid ((HN_4.out.alloc (.cells #[.int .i64 x1, .int .i64 x0, .int .i64 x3, .int .i64 x4] 23)).then_new hN)
          clear HK_4 HP_4 HR_4 HW_4 HN_4 cK0 cK1 cK2 cK3 lK cP0 cP1 cP2 cP3 cP4 cP5 cP6 cP7 cP8 cP9 cP10 cP11 cP12 cP13 lP cR0 cR1 cR2 cR3 lR cW0 cW1 cW2 cW3 lW hN
          have cK0 : w5.cell? ⟨w.heap.size, 0, none⟩ = some (.int .i64 o) := (HK_5.out.cell 0).trans rfl
          have cK1 : w5.cell? ⟨w.heap.size, 1, none⟩ = some (.int .i64 t) := (HK_5.out.cell 1).trans rfl
          have cK2 : w5.cell? ⟨w.heap.size, 2, none⟩ = some (.int .i64 c) := (HK_5.out.cell 2).trans rfl
          have cK3 : w5.cell? ⟨w.heap.size, 3, none⟩ = some (.int .i64 v) := (HK_5.out.cell 3).trans rfl
          have lK := HK_5.out.lt
          have cP0 : w5.cell? ⟨w.heap.size + 1, 0, none⟩ = some (.int .i64 x0) := (HP_5.out.cell 0).trans rfl
          have cP1 : w5.cell? ⟨w.heap.size + 1, 1, none⟩ = some (.int .i64 x1) := (HP_5.out.cell 1).trans rfl
          have cP2 : w5.cell? ⟨w.heap.size + 1, 2, none⟩ = some (.int .i64 x2) := (HP_5.out.cell 2).trans rfl
          have cP3 : w5.cell? ⟨w.heap.size + 1, 3, none⟩ = some (.int .i64 x3) := (HP_5.out.cell 3).trans rfl
          have cP4 : w5.cell? ⟨w.heap.size + 1, 4, none⟩ = some (.int .i64 x4) := (HP_5.out.cell 4).trans rfl
          have cP5 : w5.cell? ⟨w.heap.size + 1, 5, none⟩ = some (.int .i64 x5) := (HP_5.out.cell 5).trans rfl
          have cP6 : w5.cell? ⟨w.heap.size + 1, 6, none⟩ = some (.int .i64 x6) := (HP_5.out.cell 6).trans rfl
          have cP7 : w5.cell? ⟨w.heap.size + 1, 7, none⟩ = some (.int .i64 x7) := (HP_5.out.cell 7).trans rfl
          have cP8 : w5.cell? ⟨w.heap.size + 1, 8, none⟩ = some (.bool x8) := (HP_5.out.cell 8).trans rfl
          have cP9 : w5.cell? ⟨w.heap.size + 1, 9, none⟩ = some (.int .i64 x9) := (HP_5.out.cell 9).trans rfl
          have cP10 : w5.cell? ⟨w.heap.size + 1, 10, none⟩ = some (.int .i64 x10) := (HP_5.out.cell 10).trans rfl
          have cP11 : w5.cell? ⟨w.heap.size + 1, 11, none⟩ = some (.int .i64 x11) := (HP_5.out.cell 11).trans rfl
          have cP12 : w5.cell? ⟨w.heap.size + 1, 12, none⟩ = some (.int .i64 x12) := (HP_5.out.cell 12).trans rfl
          have cP13 : w5.cell? ⟨w.heap.size + 1, 13, none⟩ = some (.bool x13) := (HP_5.out.cell 13).trans rfl
          have lP := HP_5.out.lt
          have cR0 : w5.cell? ⟨w2.heap.size, 0, none⟩ = some (.int .i64 0) := (HR_5.out.cell 0).trans rfl
          have cR1 : w5.cell? ⟨w2.heap.size, 1, none⟩ = some (.int .i64 0) := (HR_5.out.cell 1).trans rfl
          have cR2 : w5.cell? ⟨w2.heap.size, 2, none⟩ = some (.int .i64 0) := (HR_5.out.cell 2).trans rfl
          have cR3 : w5.cell? ⟨w2.heap.size, 3, none⟩ = some (.int .i64 0) := (HR_5.out.cell 3).trans rfl
          have lR := HR_5.out.lt
          have cW0 : w5.cell? ⟨w3.heap.size, 0, none⟩ = some (.int .i64 x1) := (HW_5.out.cell 0).trans rfl
          have cW1 : w5.cell? ⟨w3.heap.size, 1, none⟩ = some (.int .i64 x0) := (HW_5.out.cell 1).trans rfl
          have cW2 : w5.cell? ⟨w3.heap.size, 2, none⟩ = some (.int .i64 x3) := (HW_5.out.cell 2).trans rfl
          have cW3 : w5.cell? ⟨w3.heap.size, 3, none⟩ = some (.int .i64 x4) := (HW_5.out.cell 3).trans rfl
          have lW := HW_5.out.lt
          have cX0 : w5.cell? ⟨w4.heap.size, 0, none⟩ = some (.int .i64 x1) := (HX_5.out.cell 0).trans rfl
          have cX1 : w5.cell? ⟨w4.heap.size, 1, none⟩ = some (.int .i64 x0) := (HX_5.out.cell 1).trans rfl
          have cX2 : w5.cell? ⟨w4.heap.size, 2, none⟩ = some (.int .i64 x3) := (HX_5.out.cell 2).trans rfl
          have cX3 : w5.cell? ⟨w4.heap.size, 3, none⟩ = some (.int .i64 x4) := (HX_5.out.cell 3).trans rfl
          have lX := HX_5.out.lt
          go_wp2_with fail
          with_reducible refine (HLw.out _).mono ?_
          rintro e w6 ⟨rfl, hN⟩
          have HK_6 := Lib.hid ((HK_5.out.alloc (.cells #[.int .i64 o, .int .i64 0, .int .i64 0, .int .i64 v] 23)).keep hN)
          have HP_6 := Lib.hid ((HP_5.out.alloc (.cells #[.int .i64 o, .int .i64 0, .int .i64 0, .int .i64 v] 23)).keep hN)
          have HR_6 := Lib.hid ((HR_5.out.alloc (.cells #[.int .i64 o, .int .i64 0, .int .i64 0, .int .i64 v] 23)).keep hN)
          have HW_6 := Lib.hid ((HW_5.out.alloc (.cells #[.int .i64 o, .int .i64 0, .int .i64 0, .int .i64 v] 23)).keep hN)
          have HX_6 := Lib.hid ((HX_5.out.alloc (.cells #[.int .i64 o, .int .i64 0, .int .i64 0, .int .i64 v] 23)).keep hN)
          have HY_6 := Lib.hid ((Has.new_at w5 23 #[.int .i64 o, .int .i64 0, .int .i64 0, .int .i64 v] (w5.heap.size) (by simp)).keep hN)
          have HN_6 := Lib.hid ((HN_5.out.alloc (.cells #[.int .i64 o, .int .i64 0, .int .i64 0, .int .i64 v] 23)).then_new hN)
          clear HK_5 HP_5 HR_5 HW_5 HX_5 HN_5 cK0 cK1 cK2 cK3 lK cP0 cP1 cP2 cP3 cP4 cP5 cP6 cP7 cP8 cP9 cP10 cP11 cP12 cP13 lP cR0 cR1 cR2 cR3 lR cW0 cW1 cW2 cW3 lW cX0 cX1 cX2 cX3 lX hN
          have cK0 : w6.cell? ⟨w.heap.size, 0, none⟩ = some (.int .i64 o) := (HK_6.out.cell 0).trans rfl
          have cK1 : w6.cell? ⟨w.heap.size, 1, none⟩ = some (.int .i64 t) := (HK_6.out.cell 1).trans rfl
          have cK2 : w6.cell? ⟨w.heap.size, 2, none⟩ = some (.int .i64 c) := (HK_6.out.cell 2).trans rfl
          have cK3 : w6.cell? ⟨w.heap.size, 3, none⟩ = some (.int .i64 v) := (HK_6.out.cell 3).trans rfl
          have lK := HK_6.out.lt
          have cP0 : w6.cell? ⟨w.heap.size + 1, 0, none⟩ = some (.int .i64 x0) := (HP_6.out.cell 0).trans rfl
          have cP1 : w6.cell? ⟨w.heap.size + 1, 1, none⟩ = some (.int .i64 x1) := (HP_6.out.cell 1).trans rfl
          have cP2 : w6.cell? ⟨w.heap.size + 1, 2, none⟩ = some (.int .i64 x2) := (HP_6.out.cell 2).trans rfl
          have cP3 : w6.cell? ⟨w.heap.size + 1, 3, none⟩ = some (.int .i64 x3) := (HP_6.out.cell 3).trans rfl
          have cP4 : w6.cell? ⟨w.heap.size + 1, 4, none⟩ = some (.int .i64 x4) := (HP_6.out.cell 4).trans rfl
          have cP5 : w6.cell? ⟨w.heap.size + 1, 5, none⟩ = some (.int .i64 x5) := (HP_6.out.cell 5).trans rfl
          have cP6 : w6.cell? ⟨w.heap.size + 1, 6, none⟩ = some (.int .i64 x6) := (HP_6.out.cell 6).trans rfl
          have cP7 : w6.cell? ⟨w.heap.size + 1, 7, none⟩ = some (.int .i64 x7) := (HP_6.out.cell 7).trans rfl
          have cP8 : w6.cell? ⟨w.heap.size + 1, 8, none⟩ = some (.bool x8) := (HP_6.out.cell 8).trans rfl
          have cP9 : w6.cell? ⟨w.heap.size + 1, 9, none⟩ = some (.int .i64 x9) := (HP_6.out.cell 9).trans rfl
          have cP10 : w6.cell? ⟨w.heap.size + 1, 10, none⟩ = some (.int .i64 x10) := (HP_6.out.cell 10).trans rfl
          have cP11 : w6.cell? ⟨w.heap.size + 1, 11, none⟩ = some (.int .i64 x11) := (HP_6.out.cell 11).trans rfl
          have cP12 : w6.cell? ⟨w.heap.size + 1, 12, none⟩ = some (.int .i64 x12) := (HP_6.out.cell 12).trans rfl
          have cP13 : w6.cell? ⟨w.heap.size + 1, 13, none⟩ = some (.bool x13) := (HP_6.out.cell 13).trans rfl
          have lP := HP_6.out.lt
          have cR0 : w6.cell? ⟨w2.heap.size, 0, none⟩ = some (.int .i64 0) := (HR_6.out.cell 0).trans rfl
          have cR1 : w6.cell? ⟨w2.heap.size, 1, none⟩ = some (.int .i64 0) := (HR_6.out.cell 1).trans rfl
          have cR2 : w6.cell? ⟨w2.heap.size, 2, none⟩ = some (.int .i64 0) := (HR_6.out.cell 2).trans rfl
          have cR3 : w6.cell? ⟨w2.heap.size, 3, none⟩ = some (.int .i64 0) := (HR_6.out.cell 3).trans rfl
          have lR := HR_6.out.lt
          have cW0 : w6.cell? ⟨w3.heap.size, 0, none⟩ = some (.int .i64 x1) := (HW_6.out.cell 0).trans rfl
          have cW1 : w6.cell? ⟨w3.heap.size, 1, none⟩ = some (.int .i64 x0) := (HW_6.out.cell 1).trans rfl
          have cW2 : w6.cell? ⟨w3.heap.size, 2, none⟩ = some (.int .i64 x3) := (HW_6.out.cell 2).trans rfl
          have cW3 : w6.cell? ⟨w3.heap.size, 3, none⟩ = some (.int .i64 x4) := (HW_6.out.cell 3).trans rfl
          have lW := HW_6.out.lt
          have cX0 : w6.cell? ⟨w4.heap.size, 0, none⟩ = some (.int .i64 x1) := (HX_6.out.cell 0).trans rfl
          have cX1 : w6.cell? ⟨w4.heap.size, 1, none⟩ = some (.int .i64 x0) := (HX_6.out.cell 1).trans rfl
          have cX2 : w6.cell? ⟨w4.heap.size, 2, none⟩ = some (.int .i64 x3) := (HX_6.out.cell 2).trans rfl
          have cX3 : w6.cell? ⟨w4.heap.size, 3, none⟩ = some (.int .i64 x4) := (HX_6.out.cell 3).trans rfl
          have lX := HX_6.out.lt
          have cY0 : w6.cell? ⟨w5.heap.size, 0, none⟩ = some (.int .i64 o) := (HY_6.out.cell 0).trans rfl
          have cY1 : w6.cell? ⟨w5.heap.size, 1, none⟩ = some (.int .i64 0) := (HY_6.out.cell 1).trans rfl
          have cY2 : w6.cell? ⟨w5.heap.size, 2, none⟩ = some (.int .i64 0) := (HY_6.out.cell 2).trans rfl
          have cY3 : w6.cell? ⟨w5.heap.size, 3, none⟩ = some (.int .i64 v) := (HY_6.out.cell 3).trans rfl
          have lY := HY_6.out.lt
          go_wp2_with fail
          with_reducible refine (HLb.out _).mono ?_
          rintro e w7 ⟨rfl, hN⟩
          have HK_7 := Lib.hid ((HK_6.out.alloc (.cells #[.int .i64 o, .int .i64 0, .int .i64 0, .int .i64 v] 23)).keep hN)
          have HP_7 := Lib.hid ((HP_6.out.alloc (.cells #[.int .i64 o, .int .i64 0, .int .i64 0, .int .i64 v] 23)).keep hN)
          have HR_7 := Lib.hid ((HR_6.out.alloc (.cells #[.int .i64 o, .int .i64 0, .int .i64 0, .int .i64 v] 23)).keep hN)
          have HW_7 := Lib.hid ((HW_6.out.alloc (.cells #[.int .i64 o, .int .i64 0, .int .i64 0, .int .i64 v] 23)).keep hN)
          have HX_7 := Lib.hid ((HX_6.out.alloc (.cells #[.int .i64 o, .int .i64 0, .int .i64 0, .int .i64 v] 23)).keep hN)
          have HY_7 := Lib.hid ((HY_6.out.alloc (.cells #[.int .i64 o, .int .i64 0, .int .i64 0, .int .i64 v] 23)).keep hN)
          have HB_7 := Lib.hid ((Has.new_at w6 23 #[.int .i64 o, .int .i64 0, .int .i64 0, .int .i64 v] (w6.heap.size) (by simp)).keep hN)
          have HN_7 := Lib.hid ((HN_6.out.alloc (.cells #[.int .i64 o, .int .i64 0, .int .i64 0, .int .i64 v] 23)).then_new hN)
          clear HK_6 HP_6 HR_6 HW_6 HX_6 HY_6 HN_6 cK0 cK1 cK2 cK3 lK cP0 cP1 cP2 cP3 cP4 cP5 cP6 cP7 cP8 cP9 cP10 cP11 cP12 cP13 lP cR0 cR1 cR2 cR3 lR cW0 cW1 cW2 cW3 lW cX0 cX1 cX2 cX3 lX cY0 cY1 cY2 cY3 lY hN
          have cK0 : w7.cell? ⟨w.heap.size, 0, none⟩ = some (.int .i64 o) := (HK_7.out.cell 0).trans rfl
          have cK1 : w7.cell? ⟨w.heap.size, 1, none⟩ = some (.int .i64 t) := (HK_7.out.cell 1).trans rfl
          have cK2 : w7.cell? ⟨w.heap.size, 2, none⟩ = some (.int .i64 c) := (HK_7.out.cell 2).trans rfl
          have cK3 : w7.cell? ⟨w.heap.size, 3, none⟩ = some (.int .i64 v) := (HK_7.out.cell 3).trans rfl
          have lK := HK_7.out.lt
          have cP0 : w7.cell? ⟨w.heap.size + 1, 0, none⟩ = some (.int .i64 x0) := (HP_7.out.cell 0).trans rfl
          have cP1 : w7.cell? ⟨w.heap.size + 1, 1, none⟩ = some (.int .i64 x1) := (HP_7.out.cell 1).trans rfl
          have cP2 : w7.cell? ⟨w.heap.size + 1, 2, none⟩ = some (.int .i64 x2) := (HP_7.out.cell 2).trans rfl
          have cP3 : w7.cell? ⟨w.heap.size + 1, 3, none⟩ = some (.int .i64 x3) := (HP_7.out.cell 3).trans rfl
          have cP4 : w7.cell? ⟨w.heap.size + 1, 4, none⟩ = some (.int .i64 x4) := (HP_7.out.cell 4).trans rfl
          have cP5 : w7.cell? ⟨w.heap.size + 1, 5, none⟩ = some (.int .i64 x5) := (HP_7.out.cell 5).trans rfl
          have cP6 : w7.cell? ⟨w.heap.size + 1, 6, none⟩ = some (.int .i64 x6) := (HP_7.out.cell 6).trans rfl
          have cP7 : w7.cell? ⟨w.heap.size + 1, 7, none⟩ = some (.int .i64 x7) := (HP_7.out.cell 7).trans rfl
          have cP8 : w7.cell? ⟨w.heap.size + 1, 8, none⟩ = some (.bool x8) := (HP_7.out.cell 8).trans rfl
          have cP9 : w7.cell? ⟨w.heap.size + 1, 9, none⟩ = some (.int .i64 x9) := (HP_7.out.cell 9).trans rfl
          have cP10 : w7.cell? ⟨w.heap.size + 1, 10, none⟩ = some (.int .i64 x10) := (HP_7.out.cell 10).trans rfl
          have cP11 : w7.cell? ⟨w.heap.size + 1, 11, none⟩ = some (.int .i64 x11) := (HP_7.out.cell 11).trans rfl
          have cP12 : w7.cell? ⟨w.heap.size + 1, 12, none⟩ = some (.int .i64 x12) := (HP_7.out.cell 12).trans rfl
          have cP13 : w7.cell? ⟨w.heap.size + 1, 13, none⟩ = some (.bool x13) := (HP_7.out.cell 13).trans rfl
          have lP := HP_7.out.lt
          have cR0 : w7.cell? ⟨w2.heap.size, 0, none⟩ = some (.int .i64 0) := (HR_7.out.cell 0).trans rfl
          have cR1 : w7.cell? ⟨w2.heap.size, 1, none⟩ = some (.int .i64 0) := (HR_7.out.cell 1).trans rfl
          have cR2 : w7.cell? ⟨w2.heap.size, 2, none⟩ = some (.int .i64 0) := (HR_7.out.cell 2).trans rfl
          have cR3 : w7.cell? ⟨w2.heap.size, 3, none⟩ = some (.int .i64 0) := (HR_7.out.cell 3).trans rfl
          have lR := HR_7.out.lt
          have cW0 : w7.cell? ⟨w3.heap.size, 0, none⟩ = some (.int .i64 x1) := (HW_7.out.cell 0).trans rfl
          have cW1 : w7.cell? ⟨w3.heap.size, 1, none⟩ = some (.int .i64 x0) := (HW_7.out.cell 1).trans rfl
          have cW2 : w7.cell? ⟨w3.heap.size, 2, none⟩ = some (.int .i64 x3) := (HW_7.out.cell 2).trans rfl
          have cW3 : w7.cell? ⟨w3.heap.size, 3, none⟩ = some (.int .i64 x4) := (HW_7.out.cell 3).trans rfl
          have lW := HW_7.out.lt
          have cX0 : w7.cell? ⟨w4.heap.size, 0, none⟩ = some (.int .i64 x1) := (HX_7.out.cell 0).trans rfl
          have cX1 : w7.cell? ⟨w4.heap.size, 1, none⟩ = some (.int .i64 x0) := (HX_7.out.cell 1).trans rfl
          have cX2 : w7.cell? ⟨w4.heap.size, 2, none⟩ = some (.int .i64 x3) := (HX_7.out.cell 2).trans rfl
          have cX3 : w7.cell? ⟨w4.heap.size, 3, none⟩ = some (.int .i64 x4) := (HX_7.out.cell 3).trans rfl
          have lX := HX_7.out.lt
          have cY0 : w7.cell? ⟨w5.heap.size, 0, none⟩ = some (.int .i64 o) := (HY_7.out.cell 0).trans rfl
          have cY1 : w7.cell? ⟨w5.heap.size, 1, none⟩ = some (.int .i64 0) := (HY_7.out.cell 1).trans rfl
          have cY2 : w7.cell? ⟨w5.heap.size, 2, none⟩ = some (.int .i64 0) := (HY_7.out.cell 2).trans rfl
          have cY3 : w7.cell? ⟨w5.heap.size, 3, none⟩ = some (.int .i64 v) := (HY_7.out.cell 3).trans rfl
          have lY := HY_7.out.lt
          have cB0 : w7.cell? ⟨w6.heap.size, 0, none⟩ = some (.int .i64 o) := (HB_7.out.cell 0).trans rfl
          have cB1 : w7.cell? ⟨w6.heap.size, 1, none⟩ = some (.int .i64 0) := (HB_7.out.cell 1).trans rfl
          have cB2 : w7.cell? ⟨w6.heap.size, 2, none⟩ = some (.int .i64 0) := (HB_7.out.cell 2).trans rfl
          have cB3 : w7.cell? ⟨w6.heap.size, 3, none⟩ = some (.int .i64 v) := (HB_7.out.cell 3).trans rfl
          have lB := HB_7.out.lt
          go_wp2_with fail
          go_ret
          exact ⟨rfl, HN_7.out⟩
        · have h1' : (lb == 1) = false := beq_eq_false_iff_ne.2 h1
          have HBa : Hid (∀ w, Calls Try.prog 21 #[.int .i64 o, .int .i64 v] w fun e w' => e = .returned (.tuple #[.agg #[.int .i64 0, .int .i64 0, .int .i64 0, .int .i64 0], .int .i64 2]) ∧ New w w') := fun w => by have h := HBa0.out w; rw [if_neg h1, if_neg h1] at h; exact h
          clear h1
          have cK0 : w4.cell? ⟨w.heap.size, 0, none⟩ = some (.int .i64 o) := (HK_4.out.cell 0).trans rfl
          have cK1 : w4.cell? ⟨w.heap.size, 1, none⟩ = some (.int .i64 t) := (HK_4.out.cell 1).trans rfl
          have cK2 : w4.cell? ⟨w.heap.size, 2, none⟩ = some (.int .i64 c) := (HK_4.out.cell 2).trans rfl
          have cK3 : w4.cell? ⟨w.heap.size, 3, none⟩ = some (.int .i64 v) := (HK_4.out.cell 3).trans rfl
          have lK := HK_4.out.lt
          have cP0 : w4.cell? ⟨w.heap.size + 1, 0, none⟩ = some (.int .i64 x0) := (HP_4.out.cell 0).trans rfl
          have cP1 : w4.cell? ⟨w.heap.size + 1, 1, none⟩ = some (.int .i64 x1) := (HP_4.out.cell 1).trans rfl
          have cP2 : w4.cell? ⟨w.heap.size + 1, 2, none⟩ = some (.int .i64 x2) := (HP_4.out.cell 2).trans rfl
          have cP3 : w4.cell? ⟨w.heap.size + 1, 3, none⟩ = some (.int .i64 x3) := (HP_4.out.cell 3).trans rfl
          have cP4 : w4.cell? ⟨w.heap.size + 1, 4, none⟩ = some (.int .i64 x4) := (HP_4.out.cell 4).trans rfl
          have cP5 : w4.cell? ⟨w.heap.size + 1, 5, none⟩ = some (.int .i64 x5) := (HP_4.out.cell 5).trans rfl
          have cP6 : w4.cell? ⟨w.heap.size + 1, 6, none⟩ = some (.int .i64 x6) := (HP_4.out.cell 6).trans rfl
          have cP7 : w4.cell? ⟨w.heap.size + 1, 7, none⟩ = some (.int .i64 x7) := (HP_4.out.cell 7).trans rfl
          have cP8 : w4.cell? ⟨w.heap.size + 1, 8, none⟩ = some (.bool x8) := (HP_4.out.cell 8).trans rfl
          have cP9 : w4.cell? ⟨w.heap.size + 1, 9, none⟩ = some (.int .i64 x9) := (HP_4.out.cell 9).trans rfl
          have cP10 : w4.cell? ⟨w.heap.size + 1, 10, none⟩ = some (.int .i64 x10) := (HP_4.out.cell 10).trans rfl
          have cP11 : w4.cell? ⟨w.heap.size + 1, 11, none⟩ = some (.int .i64 x11) := (HP_4.out.cell 11).trans rfl
          have cP12 : w4.cell? ⟨w.heap.size + 1, 12, none⟩ = some (.int .i64 x12) := (HP_4.out.cell 12).trans rfl
          have cP13 : w4.cell? ⟨w.heap.size + 1, 13, none⟩ = some (.bool x13) := (HP_4.out.cell 13).trans rfl
          have lP := HP_4.out.lt
          have cR0 : w4.cell? ⟨w2.heap.size, 0, none⟩ = some (.int .i64 0) := (HR_4.out.cell 0).trans rfl
          have cR1 : w4.cell? ⟨w2.heap.size, 1, none⟩ = some (.int .i64 0) := (HR_4.out.cell 1).trans rfl
          have cR2 : w4.cell? ⟨w2.heap.size, 2, none⟩ = some (.int .i64 0) := (HR_4.out.cell 2).trans rfl
          have cR3 : w4.cell? ⟨w2.heap.size, 3, none⟩ = some (.int .i64 0) := (HR_4.out.cell 3).trans rfl
          have lR := HR_4.out.lt
          have cW0 : w4.cell? ⟨w3.heap.size, 0, none⟩ = some (.int .i64 x1) := (HW_4.out.cell 0).trans rfl
          have cW1 : w4.cell? ⟨w3.heap.size, 1, none⟩ = some (.int .i64 x0) := (HW_4.out.cell 1).trans rfl
          have cW2 : w4.cell? ⟨w3.heap.size, 2, none⟩ = some (.int .i64 x3) := (HW_4.out.cell 2).trans rfl
          have cW3 : w4.cell? ⟨w3.heap.size, 3, none⟩ = some (.int .i64 x4) := (HW_4.out.cell 3).trans rfl
          have lW := HW_4.out.lt
          go_wp2_with fail
          with_reducible refine (HBa.out _).mono ?_
          rintro e w5 ⟨rfl, hN⟩
          have HK_5 := Lib.hid ((HK_4.out.alloc (.cells #[.int .i64 x1, .int .i64 x0, .int .i64 x3, .int .i64 x4] 23)).keep hN)
          have HP_5 := Lib.hid ((HP_4.out.alloc (.cells #[.int .i64 x1, .int .i64 x0, .int .i64 x3, .int .i64 x4] 23)).keep hN)
          have HR_5 := Lib.hid ((HR_4.out.alloc (.cells #[.int .i64 x1, .int .i64 x0, .int .i64 x3, .int .i64 x4] 23)).keep hN)
          have HW_5 := Lib.hid ((HW_4.out.alloc (.cells #[.int .i64 x1, .int .i64 x0, .int .i64 x3, .int .i64 x4] 23)).keep hN)
          have HX_5 := Lib.hid ((Has.new_at w4 23 #[.int .i64 x1, .int .i64 x0, .int .i64 x3, .int .i64 x4] (w4.heap.size) (by simp)).keep hN)
          have HN_5 := Lib.hid ((HN_4.out.alloc (.cells #[.int .i64 x1, .int .i64 x0, .int .i64 x3, .int .i64 x4] 23)).then_new hN)
          clear HK_4 HP_4 HR_4 HW_4 HN_4 cK0 cK1 cK2 cK3 lK cP0 cP1 cP2 cP3 cP4 cP5 cP6 cP7 cP8 cP9 cP10 cP11 cP12 cP13 lP cR0 cR1 cR2 cR3 lR cW0 cW1 cW2 cW3 lW hN
          have cK0 : w5.cell? ⟨w.heap.size, 0, none⟩ = some (.int .i64 o) := (HK_5.out.cell 0).trans rfl
          have cK1 : w5.cell? ⟨w.heap.size, 1, none⟩ = some (.int .i64 t) := (HK_5.out.cell 1).trans rfl
          have cK2 : w5.cell? ⟨w.heap.size, 2, none⟩ = some (.int .i64 c) := (HK_5.out.cell 2).trans rfl
          have cK3 : w5.cell? ⟨w.heap.size, 3, none⟩ = some (.int .i64 v) := (HK_5.out.cell 3).trans rfl
          have lK := HK_5.out.lt
          have cP0 : w5.cell? ⟨w.heap.size + 1, 0, none⟩ = some (.int .i64 x0) := (HP_5.out.cell 0).trans rfl
          have cP1 : w5.cell? ⟨w.heap.size + 1, 1, none⟩ = some (.int .i64 x1) := (HP_5.out.cell 1).trans rfl
          have cP2 : w5.cell? ⟨w.heap.size + 1, 2, none⟩ = some (.int .i64 x2) := (HP_5.out.cell 2).trans rfl
          have cP3 : w5.cell? ⟨w.heap.size + 1, 3, none⟩ = some (.int .i64 x3) := (HP_5.out.cell 3).trans rfl
          have cP4 : w5.cell? ⟨w.heap.size + 1, 4, none⟩ = some (.int .i64 x4) := (HP_5.out.cell 4).trans rfl
          have cP5 : w5.cell? ⟨w.heap.size + 1, 5, none⟩ = some (.int .i64 x5) := (HP_5.out.cell 5).trans rfl
          have cP6 : w5.cell? ⟨w.heap.size + 1, 6, none⟩ = some (.int .i64 x6) := (HP_5.out.cell 6).trans rfl
          have cP7 : w5.cell? ⟨w.heap.size + 1, 7, none⟩ = some (.int .i64 x7) := (HP_5.out.cell 7).trans rfl
          have cP8 : w5.cell? ⟨w.heap.size + 1, 8, none⟩ = some (.bool x8) := (HP_5.out.cell 8).trans rfl
          have cP9 : w5.cell? ⟨w.heap.size + 1, 9, none⟩ = some (.int .i64 x9) := (HP_5.out.cell 9).trans rfl
          have cP10 : w5.cell? ⟨w.heap.size + 1, 10, none⟩ = some (.int .i64 x10) := (HP_5.out.cell 10).trans rfl
          have cP11 : w5.cell? ⟨w.heap.size + 1, 11, none⟩ = some (.int .i64 x11) := (HP_5.out.cell 11).trans rfl
          have cP12 : w5.cell? ⟨w.heap.size + 1, 12, none⟩ = some (.int .i64 x12) := (HP_5.out.cell 12).trans rfl
          have cP13 : w5.cell? ⟨w.heap.size + 1, 13, none⟩ = some (.bool x13) := (HP_5.out.cell 13).trans rfl
          have lP := HP_5.out.lt
          have cR0 : w5.cell? ⟨w2.heap.size, 0, none⟩ = some (.int .i64 0) := (HR_5.out.cell 0).trans rfl
          have cR1 : w5.cell? ⟨w2.heap.size, 1, none⟩ = some (.int .i64 0) := (HR_5.out.cell 1).trans rfl
          have cR2 : w5.cell? ⟨w2.heap.size, 2, none⟩ = some (.int .i64 0) := (HR_5.out.cell 2).trans rfl
          have cR3 : w5.cell? ⟨w2.heap.size, 3, none⟩ = some (.int .i64 0) := (HR_5.out.cell 3).trans rfl
          have lR := HR_5.out.lt
          have cW0 : w5.cell? ⟨w3.heap.size, 0, none⟩ = some (.int .i64 x1) := (HW_5.out.cell 0).trans rfl
          have cW1 : w5.cell? ⟨w3.heap.size, 1, none⟩ = some (.int .i64 x0) := (HW_5.out.cell 1).trans rfl
          have cW2 : w5.cell? ⟨w3.heap.size, 2, none⟩ = some (.int .i64 x3) := (HW_5.out.cell 2).trans rfl
          have cW3 : w5.cell? ⟨w3.heap.size, 3, none⟩ = some (.int .i64 x4) := (HW_5.out.cell 3).trans rfl
          have lW := HW_5.out.lt
          have cX0 : w5.cell? ⟨w4.heap.size, 0, none⟩ = some (.int .i64 x1) := (HX_5.out.cell 0).trans rfl
          have cX1 : w5.cell? ⟨w4.heap.size, 1, none⟩ = some (.int .i64 x0) := (HX_5.out.cell 1).trans rfl
          have cX2 : w5.cell? ⟨w4.heap.size, 2, none⟩ = some (.int .i64 x3) := (HX_5.out.cell 2).trans rfl
          have cX3 : w5.cell? ⟨w4.heap.size, 3, none⟩ = some (.int .i64 x4) := (HX_5.out.cell 3).trans rfl
          have lX := HX_5.out.lt
          go_wp2_with fail
          with_reducible refine (HLw.out _).mono ?_
          rintro e w6 ⟨rfl, hN⟩
          have HK_6 := Lib.hid ((HK_5.out.alloc (.cells #[.int .i64 0, .int .i64 0, .int .i64 0, .int .i64 0] 23)).keep hN)
          have HP_6 := Lib.hid ((HP_5.out.alloc (.cells #[.int .i64 0, .int .i64 0, .int .i64 0, .int .i64 0] 23)).keep hN)
          have HR_6 := Lib.hid ((HR_5.out.alloc (.cells #[.int .i64 0, .int .i64 0, .int .i64 0, .int .i64 0] 23)).keep hN)
          have HW_6 := Lib.hid ((HW_5.out.alloc (.cells #[.int .i64 0, .int .i64 0, .int .i64 0, .int .i64 0] 23)).keep hN)
          have HX_6 := Lib.hid ((HX_5.out.alloc (.cells #[.int .i64 0, .int .i64 0, .int .i64 0, .int .i64 0] 23)).keep hN)
          have HY_6 := Lib.hid ((Has.new_at w5 23 #[.int .i64 0, .int .i64 0, .int .i64 0, .int .i64 0] (w5.heap.size) (by simp)).keep hN)
          have HN_6 := Lib.hid ((HN_5.out.alloc (.cells #[.int .i64 0, .int .i64 0, .int .i64 0, .int .i64 0] 23)).then_new hN)
          clear HK_5 HP_5 HR_5 HW_5 HX_5 HN_5 cK0 cK1 cK2 cK3 lK cP0 cP1 cP2 cP3 cP4 cP5 cP6 cP7 cP8 cP9 cP10 cP11 cP12 cP13 lP cR0 cR1 cR2 cR3 lR cW0 cW1 cW2 cW3 lW cX0 cX1 cX2 cX3 lX hN
          have cK0 : w6.cell? ⟨w.heap.size, 0, none⟩ = some (.int .i64 o) := (HK_6.out.cell 0).trans rfl
          have cK1 : w6.cell? ⟨w.heap.size, 1, none⟩ = some (.int .i64 t) := (HK_6.out.cell 1).trans rfl
          have cK2 : w6.cell? ⟨w.heap.size, 2, none⟩ = some (.int .i64 c) := (HK_6.out.cell 2).trans rfl
          have cK3 : w6.cell? ⟨w.heap.size, 3, none⟩ = some (.int .i64 v) := (HK_6.out.cell 3).trans rfl
          have lK := HK_6.out.lt
          have cP0 : w6.cell? ⟨w.heap.size + 1, 0, none⟩ = some (.int .i64 x0) := (HP_6.out.cell 0).trans rfl
          have cP1 : w6.cell? ⟨w.heap.size + 1, 1, none⟩ = some (.int .i64 x1) := (HP_6.out.cell 1).trans rfl
          have cP2 : w6.cell? ⟨w.heap.size + 1, 2, none⟩ = some (.int .i64 x2) := (HP_6.out.cell 2).trans rfl
          have cP3 : w6.cell? ⟨w.heap.size + 1, 3, none⟩ = some (.int .i64 x3) := (HP_6.out.cell 3).trans rfl
          have cP4 : w6.cell? ⟨w.heap.size + 1, 4, none⟩ = some (.int .i64 x4) := (HP_6.out.cell 4).trans rfl
          have cP5 : w6.cell? ⟨w.heap.size + 1, 5, none⟩ = some (.int .i64 x5) := (HP_6.out.cell 5).trans rfl
          have cP6 : w6.cell? ⟨w.heap.size + 1, 6, none⟩ = some (.int .i64 x6) := (HP_6.out.cell 6).trans rfl
          have cP7 : w6.cell? ⟨w.heap.size + 1, 7, none⟩ = some (.int .i64 x7) := (HP_6.out.cell 7).trans rfl
          have cP8 : w6.cell? ⟨w.heap.size + 1, 8, none⟩ = some (.bool x8) := (HP_6.out.cell 8).trans rfl
          have cP9 : w6.cell? ⟨w.heap.size + 1, 9, none⟩ = some (.int .i64 x9) := (HP_6.out.cell 9).trans rfl
          have cP10 : w6.cell? ⟨w.heap.size + 1, 10, none⟩ = some (.int .i64 x10) := (HP_6.out.cell 10).trans rfl
          have cP11 : w6.cell? ⟨w.heap.size + 1, 11, none⟩ = some (.int .i64 x11) := (HP_6.out.cell 11).trans rfl
          have cP12 : w6.cell? ⟨w.heap.size + 1, 12, none⟩ = some (.int .i64 x12) := (HP_6.out.cell 12).trans rfl
          have cP13 : w6.cell? ⟨w.heap.size + 1, 13, none⟩ = some (.bool x13) := (HP_6.out.cell 13).trans rfl
          have lP := HP_6.out.lt
          have cR0 : w6.cell? ⟨w2.heap.size, 0, none⟩ = some (.int .i64 0) := (HR_6.out.cell 0).trans rfl
          have cR1 : w6.cell? ⟨w2.heap.size, 1, none⟩ = some (.int .i64 0) := (HR_6.out.cell 1).trans rfl
          have cR2 : w6.cell? ⟨w2.heap.size, 2, none⟩ = some (.int .i64 0) := (HR_6.out.cell 2).trans rfl
          have cR3 : w6.cell? ⟨w2.heap.size, 3, none⟩ = some (.int .i64 0) := (HR_6.out.cell 3).trans rfl
          have lR := HR_6.out.lt
          have cW0 : w6.cell? ⟨w3.heap.size, 0, none⟩ = some (.int .i64 x1) := (HW_6.out.cell 0).trans rfl
          have cW1 : w6.cell? ⟨w3.heap.size, 1, none⟩ = some (.int .i64 x0) := (HW_6.out.cell 1).trans rfl
          have cW2 : w6.cell? ⟨w3.heap.size, 2, none⟩ = some (.int .i64 x3) := (HW_6.out.cell 2).trans rfl
          have cW3 : w6.cell? ⟨w3.heap.size, 3, none⟩ = some (.int .i64 x4) := (HW_6.out.cell 3).trans rfl
          have lW := HW_6.out.lt
          have cX0 : w6.cell? ⟨w4.heap.size, 0, none⟩ = some (.int .i64 x1) := (HX_6.out.cell 0).trans rfl
          have cX1 : w6.cell? ⟨w4.heap.size, 1, none⟩ = some (.int .i64 x0) := (HX_6.out.cell 1).trans rfl
          have cX2 : w6.cell? ⟨w4.heap.size, 2, none⟩ = some (.int .i64 x3) := (HX_6.out.cell 2).trans rfl
          have cX3 : w6.cell? ⟨w4.heap.size, 3, none⟩ = some (.int .i64 x4) := (HX_6.out.cell 3).trans rfl
          have lX := HX_6.out.lt
          have cY0 : w6.cell? ⟨w5.heap.size, 0, none⟩ = some (.int .i64 0) := (HY_6.out.cell 0).trans rfl
          have cY1 : w6.cell? ⟨w5.heap.size, 1, none⟩ = some (.int .i64 0) := (HY_6.out.cell 1).trans rfl
          have cY2 : w6.cell? ⟨w5.heap.size, 2, none⟩ = some (.int .i64 0) := (HY_6.out.cell 2).trans rfl
          have cY3 : w6.cell? ⟨w5.heap.size, 3, none⟩ = some (.int .i64 0) := (HY_6.out.cell 3).trans rfl
          have lY := HY_6.out.lt
          go_wp2_with fail
          with_reducible refine (HLb.out _).mono ?_
          rintro e w7 ⟨rfl, hN⟩
          have HK_7 := Lib.hid ((HK_6.out.alloc (.cells #[.int .i64 o, .int .i64 0, .int .i64 0, .int .i64 v] 23)).keep hN)
          have HP_7 := Lib.hid ((HP_6.out.alloc (.cells #[.int .i64 o, .int .i64 0, .int .i64 0, .int .i64 v] 23)).keep hN)
          have HR_7 := Lib.hid ((HR_6.out.alloc (.cells #[.int .i64 o, .int .i64 0, .int .i64 0, .int .i64 v] 23)).keep hN)
          have HW_7 := Lib.hid ((HW_6.out.alloc (.cells #[.int .i64 o, .int .i64 0, .int .i64 0, .int .i64 v] 23)).keep hN)
          have HX_7 := Lib.hid ((HX_6.out.alloc (.cells #[.int .i64 o, .int .i64 0, .int .i64 0, .int .i64 v] 23)).keep hN)
          have HY_7 := Lib.hid ((HY_6.out.alloc (.cells #[.int .i64 o, .int .i64 0, .int .i64 0, .int .i64 v] 23)).keep hN)
          have HB_7 := Lib.hid ((Has.new_at w6 23 #[.int .i64 o, .int .i64 0, .int .i64 0, .int .i64 v] (w6.heap.size) (by simp)).keep hN)
          have HN_7 := Lib.hid ((HN_6.out.alloc (.cells #[.int .i64 o, .int .i64 0, .int .i64 0, .int .i64 v] 23)).then_new hN)
          clear HK_6 HP_6 HR_6 HW_6 HX_6 HY_6 HN_6 cK0 cK1 cK2 cK3 lK cP0 cP1 cP2 cP3 cP4 cP5 cP6 cP7 cP8 cP9 cP10 cP11 cP12 cP13 lP cR0 cR1 cR2 cR3 lR cW0 cW1 cW2 cW3 lW cX0 cX1 cX2 cX3 lX cY0 cY1 cY2 cY3 lY hN
          have cK0 : w7.cell? ⟨w.heap.size, 0, none⟩ = some (.int .i64 o) := (HK_7.out.cell 0).trans rfl
          have cK1 : w7.cell? ⟨w.heap.size, 1, none⟩ = some (.int .i64 t) := (HK_7.out.cell 1).trans rfl
          have cK2 : w7.cell? ⟨w.heap.size, 2, none⟩ = some (.int .i64 c) := (HK_7.out.cell 2).trans rfl
          have cK3 : w7.cell? ⟨w.heap.size, 3, none⟩ = some (.int .i64 v) := (HK_7.out.cell 3).trans rfl
          have lK := HK_7.out.lt
          have cP0 : w7.cell? ⟨w.heap.size + 1, 0, none⟩ = some (.int .i64 x0) := (HP_7.out.cell 0).trans rfl
          have cP1 : w7.cell? ⟨w.heap.size + 1, 1, none⟩ = some (.int .i64 x1) := (HP_7.out.cell 1).trans rfl
          have cP2 : w7.cell? ⟨w.heap.size + 1, 2, none⟩ = some (.int .i64 x2) := (HP_7.out.cell 2).trans rfl
          have cP3 : w7.cell? ⟨w.heap.size + 1, 3, none⟩ = some (.int .i64 x3) := (HP_7.out.cell 3).trans rfl
          have cP4 : w7.cell? ⟨w.heap.size + 1, 4, none⟩ = some (.int .i64 x4) := (HP_7.out.cell 4).trans rfl
          have cP5 : w7.cell? ⟨w.heap.size + 1, 5, none⟩ = some (.int .i64 x5) := (HP_7.out.cell 5).trans rfl
          have cP6 : w7.cell? ⟨w.heap.size + 1, 6, none⟩ = some (.int .i64 x6) := (HP_7.out.cell 6).trans rfl
          have cP7 : w7.cell? ⟨w.heap.size + 1, 7, none⟩ = some (.int .i64 x7) := (HP_7.out.cell 7).trans rfl
          have cP8 : w7.cell? ⟨w.heap.size + 1, 8, none⟩ = some (.bool x8) := (HP_7.out.cell 8).trans rfl
          have cP9 : w7.cell? ⟨w.heap.size + 1, 9, none⟩ = some (.int .i64 x9) := (HP_7.out.cell 9).trans rfl
          have cP10 : w7.cell? ⟨w.heap.size + 1, 10, none⟩ = some (.int .i64 x10) := (HP_7.out.cell 10).trans rfl
          have cP11 : w7.cell? ⟨w.heap.size + 1, 11, none⟩ = some (.int .i64 x11) := (HP_7.out.cell 11).trans rfl
          have cP12 : w7.cell? ⟨w.heap.size + 1, 12, none⟩ = some (.int .i64 x12) := (HP_7.out.cell 12).trans rfl
          have cP13 : w7.cell? ⟨w.heap.size + 1, 13, none⟩ = some (.bool x13) := (HP_7.out.cell 13).trans rfl
          have lP := HP_7.out.lt
          have cR0 : w7.cell? ⟨w2.heap.size, 0, none⟩ = some (.int .i64 0) := (HR_7.out.cell 0).trans rfl
          have cR1 : w7.cell? ⟨w2.heap.size, 1, none⟩ = some (.int .i64 0) := (HR_7.out.cell 1).trans rfl
          have cR2 : w7.cell? ⟨w2.heap.size, 2, none⟩ = some (.int .i64 0) := (HR_7.out.cell 2).trans rfl
          have cR3 : w7.cell? ⟨w2.heap.size, 3, none⟩ = some (.int .i64 0) := (HR_7.out.cell 3).trans rfl
          have lR := HR_7.out.lt
          have cW0 : w7.cell? ⟨w3.heap.size, 0, none⟩ = some (.int .i64 x1) := (HW_7.out.cell 0).trans rfl
          have cW1 : w7.cell? ⟨w3.heap.size, 1, none⟩ = some (.int .i64 x0) := (HW_7.out.cell 1).trans rfl
          have cW2 : w7.cell? ⟨w3.heap.size, 2, none⟩ = some (.int .i64 x3) := (HW_7.out.cell 2).trans rfl
          have cW3 : w7.cell? ⟨w3.heap.size, 3, none⟩ = some (.int .i64 x4) := (HW_7.out.cell 3).trans rfl
          have lW := HW_7.out.lt
          have cX0 : w7.cell? ⟨w4.heap.size, 0, none⟩ = some (.int .i64 x1) := (HX_7.out.cell 0).trans rfl
          have cX1 : w7.cell? ⟨w4.heap.size, 1, none⟩ = some (.int .i64 x0) := (HX_7.out.cell 1).trans rfl
          have cX2 : w7.cell? ⟨w4.heap.size, 2, none⟩ = some (.int .i64 x3) := (HX_7.out.cell 2).trans rfl
          have cX3 : w7.cell? ⟨w4.heap.size, 3, none⟩ = some (.int .i64 x4) := (HX_7.out.cell 3).trans rfl
          have lX := HX_7.out.lt
          have cY0 : w7.cell? ⟨w5.heap.size, 0, none⟩ = some (.int .i64 0) := (HY_7.out.cell 0).trans rfl
          have cY1 : w7.cell? ⟨w5.heap.size, 1, none⟩ = some (.int .i64 0) := (HY_7.out.cell 1).trans rfl
          have cY2 : w7.cell? ⟨w5.heap.size, 2, none⟩ = some (.int .i64 0) := (HY_7.out.cell 2).trans rfl
          have cY3 : w7.cell? ⟨w5.heap.size, 3, none⟩ = some (.int .i64 0) := (HY_7.out.cell 3).trans rfl
          have lY := HY_7.out.lt
          have cB0 : w7.cell? ⟨w6.heap.size, 0, none⟩ = some (.int .i64 o) := (HB_7.out.cell 0).trans rfl
          have cB1 : w7.cell? ⟨w6.heap.size, 1, none⟩ = some (.int .i64 0) := (HB_7.out.cell 1).trans rfl
          have cB2 : w7.cell? ⟨w6.heap.size, 2, none⟩ = some (.int .i64 0) := (HB_7.out.cell 2).trans rfl
          have cB3 : w7.cell? ⟨w6.heap.size, 3, none⟩ = some (.int .i64 v) := (HB_7.out.cell 3).trans rfl
          have lB := HB_7.out.lt
          go_wp2_with fail
          go_ret
          exact ⟨rfl, HN_7.out⟩
      · have h3' : (lp == 3) = false := beq_eq_false_iff_ne.2 h3
        have HPr : Hid (∀ w, Calls Try.prog 20 #[PrV x0 x1 x2 x3 x4 x5 x6 x7 x9 x10 x11 x12 x8 x13] w fun e w' => e = .returned (.tuple #[.agg #[.int .i64 0, .int .i64 0, .int .i64 0, .int .i64 0], .int .i64 2]) ∧ New w w') := fun w => by have h := HPr0.out w; rw [if_neg h3, if_neg h3] at h; exact h
        clear h3
        have cK0 : w3.cell? ⟨w.heap.size, 0, none⟩ = some (.int .i64 o) := (HK_3.out.cell 0).trans rfl
        have cK1 : w3.cell? ⟨w.heap.size, 1, none⟩ = some (.int .i64 t) := (HK_3.out.cell 1).trans rfl
        have cK2 : w3.cell? ⟨w.heap.size, 2, none⟩ = some (.int .i64 c) := (HK_3.out.cell 2).trans rfl
        have cK3 : w3.cell? ⟨w.heap.size, 3, none⟩ = some (.int .i64 v) := (HK_3.out.cell 3).trans rfl
        have lK := HK_3.out.lt
        have cP0 : w3.cell? ⟨w.heap.size + 1, 0, none⟩ = some (.int .i64 x0) := (HP_3.out.cell 0).trans rfl
        have cP1 : w3.cell? ⟨w.heap.size + 1, 1, none⟩ = some (.int .i64 x1) := (HP_3.out.cell 1).trans rfl
        have cP2 : w3.cell? ⟨w.heap.size + 1, 2, none⟩ = some (.int .i64 x2) := (HP_3.out.cell 2).trans rfl
        have cP3 : w3.cell? ⟨w.heap.size + 1, 3, none⟩ = some (.int .i64 x3) := (HP_3.out.cell 3).trans rfl
        have cP4 : w3.cell? ⟨w.heap.size + 1, 4, none⟩ = some (.int .i64 x4) := (HP_3.out.cell 4).trans rfl
        have cP5 : w3.cell? ⟨w.heap.size + 1, 5, none⟩ = some (.int .i64 x5) := (HP_3.out.cell 5).trans rfl
        have cP6 : w3.cell? ⟨w.heap.size + 1, 6, none⟩ = some (.int .i64 x6) := (HP_3.out.cell 6).trans rfl
        have cP7 : w3.cell? ⟨w.heap.size + 1, 7, none⟩ = some (.int .i64 x7) := (HP_3.out.cell 7).trans rfl
        have cP8 : w3.cell? ⟨w.heap.size + 1, 8, none⟩ = some (.bool x8) := (HP_3.out.cell 8).trans rfl
        have cP9 : w3.cell? ⟨w.heap.size + 1, 9, none⟩ = some (.int .i64 x9) := (HP_3.out.cell 9).trans rfl
        have cP10 : w3.cell? ⟨w.heap.size + 1, 10, none⟩ = some (.int .i64 x10) := (HP_3.out.cell 10).trans rfl
        have cP11 : w3.cell? ⟨w.heap.size + 1, 11, none⟩ = some (.int .i64 x11) := (HP_3.out.cell 11).trans rfl
        have cP12 : w3.cell? ⟨w.heap.size + 1, 12, none⟩ = some (.int .i64 x12) := (HP_3.out.cell 12).trans rfl
        have cP13 : w3.cell? ⟨w.heap.size + 1, 13, none⟩ = some (.bool x13) := (HP_3.out.cell 13).trans rfl
        have lP := HP_3.out.lt
        have cR0 : w3.cell? ⟨w2.heap.size, 0, none⟩ = some (.int .i64 0) := (HR_3.out.cell 0).trans rfl
        have cR1 : w3.cell? ⟨w2.heap.size, 1, none⟩ = some (.int .i64 0) := (HR_3.out.cell 1).trans rfl
        have cR2 : w3.cell? ⟨w2.heap.size, 2, none⟩ = some (.int .i64 0) := (HR_3.out.cell 2).trans rfl
        have cR3 : w3.cell? ⟨w2.heap.size, 3, none⟩ = some (.int .i64 0) := (HR_3.out.cell 3).trans rfl
        have lR := HR_3.out.lt
        go_wp2_with fail
        with_reducible refine (HPr.out _).mono ?_
        rintro e w4 ⟨rfl, hN⟩
        have HK_4 := Lib.hid ((HK_3.out.alloc (.cells #[.int .i64 x1, .int .i64 x0, .int .i64 x3, .int .i64 x4] 23)).keep hN)
        have HP_4 := Lib.hid ((HP_3.out.alloc (.cells #[.int .i64 x1, .int .i64 x0, .int .i64 x3, .int .i64 x4] 23)).keep hN)
        have HR_4 := Lib.hid ((HR_3.out.alloc (.cells #[.int .i64 x1, .int .i64 x0, .int .i64 x3, .int .i64 x4] 23)).keep hN)
        have HW_4 := Lib.hid ((Has.new_at w3 23 #[.int .i64 x1, .int .i64 x0, .int .i64 x3, .int .i64 x4] (w3.heap.size) (by simp)).keep hN)
        have HN_4 := Lib.hid ((HN_3.out.alloc (.cells #[.int .i64 x1, .int .i64 x0, .int .i64 x3, .int .i64 x4] 23)).then_new hN)
        clear HK_3 HP_3 HR_3 HN_3 cK0 cK1 cK2 cK3 lK cP0 cP1 cP2 cP3 cP4 cP5 cP6 cP7 cP8 cP9 cP10 cP11 cP12 cP13 lP cR0 cR1 cR2 cR3 lR hN
        by_cases h1 : lb = 1
        · subst h1
          have HBa : Hid (∀ w, Calls Try.prog 21 #[.int .i64 o, .int .i64 v] w fun e w' => e = .returned (.tuple #[.agg #[.int .i64 o, .int .i64 0, .int .i64 0, .int .i64 v], .int .i64 0]) ∧ New w w') := fun w => by have h := HBa0.out w; rw [if_pos rfl, if_pos rfl] at h; exact h
          have cK0 : w4.cell? ⟨w.heap.size, 0, none⟩ = some (.int .i64 o) := (HK_4.out.cell 0).trans rfl
          have cK1 : w4.cell? ⟨w.heap.size, 1, none⟩ = some (.int .i64 t) := (HK_4.out.cell 1).trans rfl
          have cK2 : w4.cell? ⟨w.heap.size, 2, none⟩ = some (.int .i64 c) := (HK_4.out.cell 2).trans rfl
          have cK3 : w4.cell? ⟨w.heap.size, 3, none⟩ = some (.int .i64 v) := (HK_4.out.cell 3).trans rfl
          have lK := HK_4.out.lt
          have cP0 : w4.cell? ⟨w.heap.size + 1, 0, none⟩ = some (.int .i64 x0) := (HP_4.out.cell 0).trans rfl
          have cP1 : w4.cell? ⟨w.heap.size + 1, 1, none⟩ = some (.int .i64 x1) := (HP_4.out.cell 1).trans rfl
          have cP2 : w4.cell? ⟨w.heap.size + 1, 2, none⟩ = some (.int .i64 x2) := (HP_4.out.cell 2).trans rfl
          have cP3 : w4.cell? ⟨w.heap.size + 1, 3, none⟩ = some (.int .i64 x3) := (HP_4.out.cell 3).trans rfl
          have cP4 : w4.cell? ⟨w.heap.size + 1, 4, none⟩ = some (.int .i64 x4) := (HP_4.out.cell 4).trans rfl
          have cP5 : w4.cell? ⟨w.heap.size + 1, 5, none⟩ = some (.int .i64 x5) := (HP_4.out.cell 5).trans rfl
          have cP6 : w4.cell? ⟨w.heap.size + 1, 6, none⟩ = some (.int .i64 x6) := (HP_4.out.cell 6).trans rfl
          have cP7 : w4.cell? ⟨w.heap.size + 1, 7, none⟩ = some (.int .i64 x7) := (HP_4.out.cell 7).trans rfl
          have cP8 : w4.cell? ⟨w.heap.size + 1, 8, none⟩ = some (.bool x8) := (HP_4.out.cell 8).trans rfl
          have cP9 : w4.cell? ⟨w.heap.size + 1, 9, none⟩ = some (.int .i64 x9) := (HP_4.out.cell 9).trans rfl
          have cP10 : w4.cell? ⟨w.heap.size + 1, 10, none⟩ = some (.int .i64 x10) := (HP_4.out.cell 10).trans rfl
          have cP11 : w4.cell? ⟨w.heap.size + 1, 11, none⟩ = some (.int .i64 x11) := (HP_4.out.cell 11).trans rfl
          have cP12 : w4.cell? ⟨w.heap.size + 1, 12, none⟩ = some (.int .i64 x12) := (HP_4.out.cell 12).trans rfl
          have cP13 : w4.cell? ⟨w.heap.size + 1, 13, none⟩ = some (.bool x13) := (HP_4.out.cell 13).trans rfl
          have lP := HP_4.out.lt
          have cR0 : w4.cell? ⟨w2.heap.size, 0, none⟩ = some (.int .i64 0) := (HR_4.out.cell 0).trans rfl
          have cR1 : w4.cell? ⟨w2.heap.size, 1, none⟩ = some (.int .i64 0) := (HR_4.out.cell 1).trans rfl
          have cR2 : w4.cell? ⟨w2.heap.size, 2, none⟩ = some (.int .i64 0) := (HR_4.out.cell 2).trans rfl
          have cR3 : w4.cell? ⟨w2.heap.size, 3, none⟩ = some (.int .i64 0) := (HR_4.out.cell 3).trans rfl
          have lR := HR_4.out.lt
          have cW0 : w4.cell? ⟨w3.heap.size, 0, none⟩ = some (.int .i64 x1) := (HW_4.out.cell 0).trans rfl
          have cW1 : w4.cell? ⟨w3.heap.size, 1, none⟩ = some (.int .i64 x0) := (HW_4.out.cell 1).trans rfl
          have cW2 : w4.cell? ⟨w3.heap.size, 2, none⟩ = some (.int .i64 x3) := (HW_4.out.cell 2).trans rfl
          have cW3 : w4.cell? ⟨w3.heap.size, 3, none⟩ = some (.int .i64 x4) := (HW_4.out.cell 3).trans rfl
          have lW := HW_4.out.lt
          go_wp2_with fail
          with_reducible refine (HBa.out _).mono ?_
          rintro e w5 ⟨rfl, hN⟩
          have HK_5 := Lib.hid ((HK_4.out.alloc (.cells #[.int .i64 0, .int .i64 0, .int .i64 0, .int .i64 0] 23)).keep hN)
          have HP_5 := Lib.hid ((HP_4.out.alloc (.cells #[.int .i64 0, .int .i64 0, .int .i64 0, .int .i64 0] 23)).keep hN)
          have HR_5 := Lib.hid ((HR_4.out.alloc (.cells #[.int .i64 0, .int .i64 0, .int .i64 0, .int .i64 0] 23)).keep hN)
          have HW_5 := Lib.hid ((HW_4.out.alloc (.cells #[.int .i64 0, .int .i64 0, .int .i64 0, .int .i64 0] 23)).keep hN)
          have HX_5 := Lib.hid ((Has.new_at w4 23 #[.int .i64 0, .int .i64 0, .int .i64 0, .int .i64 0] (w4.heap.size) (by simp)).keep hN)
          have HN_5 := Lib.hid ((HN_4.out.alloc (.cells #[.int .i64 0, .int .i64 0, .int .i64 0, .int .i64 0] 23)).then_new hN)
          clear HK_4 HP_4 HR_4 HW_4 HN_4 cK0 cK1 cK2 cK3 lK cP0 cP1 cP2 cP3 cP4 cP5 cP6 cP7 cP8 cP9 cP10 cP11 cP12 cP13 lP cR0 cR1 cR2 cR3 lR cW0 cW1 cW2 cW3 lW hN
          have cK0 : w5.cell? ⟨w.heap.size, 0, none⟩ = some (.int .i64 o) := (HK_5.out.cell 0).trans rfl
          have cK1 : w5.cell? ⟨w.heap.size, 1, none⟩ = some (.int .i64 t) := (HK_5.out.cell 1).trans rfl
          have cK2 : w5.cell? ⟨w.heap.size, 2, none⟩ = some (.int .i64 c) := (HK_5.out.cell 2).trans rfl
          have cK3 : w5.cell? ⟨w.heap.size, 3, none⟩ = some (.int .i64 v) := (HK_5.out.cell 3).trans rfl
          have lK := HK_5.out.lt
          have cP0 : w5.cell? ⟨w.heap.size + 1, 0, none⟩ = some (.int .i64 x0) := (HP_5.out.cell 0).trans rfl
          have cP1 : w5.cell? ⟨w.heap.size + 1, 1, none⟩ = some (.int .i64 x1) := (HP_5.out.cell 1).trans rfl
          have cP2 : w5.cell? ⟨w.heap.size + 1, 2, none⟩ = some (.int .i64 x2) := (HP_5.out.cell 2).trans rfl
          have cP3 : w5.cell? ⟨w.heap.size + 1, 3, none⟩ = some (.int .i64 x3) := (HP_5.out.cell 3).trans rfl
          have cP4 : w5.cell? ⟨w.heap.size + 1, 4, none⟩ = some (.int .i64 x4) := (HP_5.out.cell 4).trans rfl
          have cP5 : w5.cell? ⟨w.heap.size + 1, 5, none⟩ = some (.int .i64 x5) := (HP_5.out.cell 5).trans rfl
          have cP6 : w5.cell? ⟨w.heap.size + 1, 6, none⟩ = some (.int .i64 x6) := (HP_5.out.cell 6).trans rfl
          have cP7 : w5.cell? ⟨w.heap.size + 1, 7, none⟩ = some (.int .i64 x7) := (HP_5.out.cell 7).trans rfl
          have cP8 : w5.cell? ⟨w.heap.size + 1, 8, none⟩ = some (.bool x8) := (HP_5.out.cell 8).trans rfl
          have cP9 : w5.cell? ⟨w.heap.size + 1, 9, none⟩ = some (.int .i64 x9) := (HP_5.out.cell 9).trans rfl
          have cP10 : w5.cell? ⟨w.heap.size + 1, 10, none⟩ = some (.int .i64 x10) := (HP_5.out.cell 10).trans rfl
          have cP11 : w5.cell? ⟨w.heap.size + 1, 11, none⟩ = some (.int .i64 x11) := (HP_5.out.cell 11).trans rfl
          have cP12 : w5.cell? ⟨w.heap.size + 1, 12, none⟩ = some (.int .i64 x12) := (HP_5.out.cell 12).trans rfl
          have cP13 : w5.cell? ⟨w.heap.size + 1, 13, none⟩ = some (.bool x13) := (HP_5.out.cell 13).trans rfl
          have lP := HP_5.out.lt
          have cR0 : w5.cell? ⟨w2.heap.size, 0, none⟩ = some (.int .i64 0) := (HR_5.out.cell 0).trans rfl
          have cR1 : w5.cell? ⟨w2.heap.size, 1, none⟩ = some (.int .i64 0) := (HR_5.out.cell 1).trans rfl
          have cR2 : w5.cell? ⟨w2.heap.size, 2, none⟩ = some (.int .i64 0) := (HR_5.out.cell 2).trans rfl
          have cR3 : w5.cell? ⟨w2.heap.size, 3, none⟩ = some (.int .i64 0) := (HR_5.out.cell 3).trans rfl
          have lR := HR_5.out.lt
          have cW0 : w5.cell? ⟨w3.heap.size, 0, none⟩ = some (.int .i64 x1) := (HW_5.out.cell 0).trans rfl
          have cW1 : w5.cell? ⟨w3.heap.size, 1, none⟩ = some (.int .i64 x0) := (HW_5.out.cell 1).trans rfl
          have cW2 : w5.cell? ⟨w3.heap.size, 2, none⟩ = some (.int .i64 x3) := (HW_5.out.cell 2).trans rfl
          have cW3 : w5.cell? ⟨w3.heap.size, 3, none⟩ = some (.int .i64 x4) := (HW_5.out.cell 3).trans rfl
          have lW := HW_5.out.lt
          have cX0 : w5.cell? ⟨w4.heap.size, 0, none⟩ = some (.int .i64 0) := (HX_5.out.cell 0).trans rfl
          have cX1 : w5.cell? ⟨w4.heap.size, 1, none⟩ = some (.int .i64 0) := (HX_5.out.cell 1).trans rfl
          have cX2 : w5.cell? ⟨w4.heap.size, 2, none⟩ = some (.int .i64 0) := (HX_5.out.cell 2).trans rfl
          have cX3 : w5.cell? ⟨w4.heap.size, 3, none⟩ = some (.int .i64 0) := (HX_5.out.cell 3).trans rfl
          have lX := HX_5.out.lt
          go_wp2_with fail
          with_reducible refine (HLw.out _).mono ?_
          rintro e w6 ⟨rfl, hN⟩
          have HK_6 := Lib.hid ((HK_5.out.alloc (.cells #[.int .i64 o, .int .i64 0, .int .i64 0, .int .i64 v] 23)).keep hN)
          have HP_6 := Lib.hid ((HP_5.out.alloc (.cells #[.int .i64 o, .int .i64 0, .int .i64 0, .int .i64 v] 23)).keep hN)
          have HR_6 := Lib.hid ((HR_5.out.alloc (.cells #[.int .i64 o, .int .i64 0, .int .i64 0, .int .i64 v] 23)).keep hN)
          have HW_6 := Lib.hid ((HW_5.out.alloc (.cells #[.int .i64 o, .int .i64 0, .int .i64 0, .int .i64 v] 23)).keep hN)
          have HX_6 := Lib.hid ((HX_5.out.alloc (.cells #[.int .i64 o, .int .i64 0, .int .i64 0, .int .i64 v] 23)).keep hN)
          have HY_6 := Lib.hid ((Has.new_at w5 23 #[.int .i64 o, .int .i64 0, .int .i64 0, .int .i64 v] (w5.heap.size) (by simp)).keep hN)
          have HN_6 := Lib.hid ((HN_5.out.alloc (.cells #[.int .i64 o, .int .i64 0, .int .i64 0, .int .i64 v] 23)).then_new hN)
          clear HK_5 HP_5 HR_5 HW_5 HX_5 HN_5 cK0 cK1 cK2 cK3 lK cP0 cP1 cP2 cP3 cP4 cP5 cP6 cP7 cP8 cP9 cP10 cP11 cP12 cP13 lP cR0 cR1 cR2 cR3 lR cW0 cW1 cW2 cW3 lW cX0 cX1 cX2 cX3 lX hN
          have cK0 : w6.cell? ⟨w.heap.size, 0, none⟩ = some (.int .i64 o) := (HK_6.out.cell 0).trans rfl
          have cK1 : w6.cell? ⟨w.heap.size, 1, none⟩ = some (.int .i64 t) := (HK_6.out.cell 1).trans rfl
          have cK2 : w6.cell? ⟨w.heap.size, 2, none⟩ = some (.int .i64 c) := (HK_6.out.cell 2).trans rfl
          have cK3 : w6.cell? ⟨w.heap.size, 3, none⟩ = some (.int .i64 v) := (HK_6.out.cell 3).trans rfl
          have lK := HK_6.out.lt
          have cP0 : w6.cell? ⟨w.heap.size + 1, 0, none⟩ = some (.int .i64 x0) := (HP_6.out.cell 0).trans rfl
          have cP1 : w6.cell? ⟨w.heap.size + 1, 1, none⟩ = some (.int .i64 x1) := (HP_6.out.cell 1).trans rfl
          have cP2 : w6.cell? ⟨w.heap.size + 1, 2, none⟩ = some (.int .i64 x2) := (HP_6.out.cell 2).trans rfl
          have cP3 : w6.cell? ⟨w.heap.size + 1, 3, none⟩ = some (.int .i64 x3) := (HP_6.out.cell 3).trans rfl
          have cP4 : w6.cell? ⟨w.heap.size + 1, 4, none⟩ = some (.int .i64 x4) := (HP_6.out.cell 4).trans rfl
          have cP5 : w6.cell? ⟨w.heap.size + 1, 5, none⟩ = some (.int .i64 x5) := (HP_6.out.cell 5).trans rfl
          have cP6 : w6.cell? ⟨w.heap.size + 1, 6, none⟩ = some (.int .i64 x6) := (HP_6.out.cell 6).trans rfl
          have cP7 : w6.cell? ⟨w.heap.size + 1, 7, none⟩ = some (.int .i64 x7) := (HP_6.out.cell 7).trans rfl
          have cP8 : w6.cell? ⟨w.heap.size + 1, 8, none⟩ = some (.bool x8) := (HP_6.out.cell 8).trans rfl
          have cP9 : w6.cell? ⟨w.heap.size + 1, 9, none⟩ = some (.int .i64 x9) := (HP_6.out.cell 9).trans rfl
          have cP10 : w6.cell? ⟨w.heap.size + 1, 10, none⟩ = some (.int .i64 x10) := (HP_6.out.cell 10).trans rfl
          have cP11 : w6.cell? ⟨w.heap.size + 1, 11, none⟩ = some (.int .i64 x11) := (HP_6.out.cell 11).trans rfl
          have cP12 : w6.cell? ⟨w.heap.size + 1, 12, none⟩ = some (.int .i64 x12) := (HP_6.out.cell 12).trans rfl
          have cP13 : w6.cell? ⟨w.heap.size + 1, 13, none⟩ = some (.bool x13) := (HP_6.out.cell 13).trans rfl
          have lP := HP_6.out.lt
          have cR0 : w6.cell? ⟨w2.heap.size, 0, none⟩ = some (.int .i64 0) := (HR_6.out.cell 0).trans rfl
          have cR1 : w6.cell? ⟨w2.heap.size, 1, none⟩ = some (.int .i64 0) := (HR_6.out.cell 1).trans rfl
          have cR2 : w6.cell? ⟨w2.heap.size, 2, none⟩ = some (.int .i64 0) := (HR_6.out.cell 2).trans rfl
          have cR3 : w6.cell? ⟨w2.heap.size, 3, none⟩ = some (.int .i64 0) := (HR_6.out.cell 3).trans rfl
          have lR := HR_6.out.lt
          have cW0 : w6.cell? ⟨w3.heap.size, 0, none⟩ = some (.int .i64 x1) := (HW_6.out.cell 0).trans rfl
          have cW1 : w6.cell? ⟨w3.heap.size, 1, none⟩ = some (.int .i64 x0) := (HW_6.out.cell 1).trans rfl
          have cW2 : w6.cell? ⟨w3.heap.size, 2, none⟩ = some (.int .i64 x3) := (HW_6.out.cell 2).trans rfl
          have cW3 : w6.cell? ⟨w3.heap.size, 3, none⟩ = some (.int .i64 x4) := (HW_6.out.cell 3).trans rfl
          have lW := HW_6.out.lt
          have cX0 : w6.cell? ⟨w4.heap.size, 0, none⟩ = some (.int .i64 0) := (HX_6.out.cell 0).trans rfl
          have cX1 : w6.cell? ⟨w4.heap.size, 1, none⟩ = some (.int .i64 0) := (HX_6.out.cell 1).trans rfl
          have cX2 : w6.cell? ⟨w4.heap.size, 2, none⟩ = some (.int .i64 0) := (HX_6.out.cell 2).trans rfl
          have cX3 : w6.cell? ⟨w4.heap.size, 3, none⟩ = some (.int .i64 0) := (HX_6.out.cell 3).trans rfl
          have lX := HX_6.out.lt
          have cY0 : w6.cell? ⟨w5.heap.size, 0, none⟩ = some (.int .i64 o) := (HY_6.out.cell 0).trans rfl
          have cY1 : w6.cell? ⟨w5.heap.size, 1, none⟩ = some (.int .i64 0) := (HY_6.out.cell 1).trans rfl
          have cY2 : w6.cell? ⟨w5.heap.size, 2, none⟩ = some (.int .i64 0) := (HY_6.out.cell 2).trans rfl
          have cY3 : w6.cell? ⟨w5.heap.size, 3, none⟩ = some (.int .i64 v) := (HY_6.out.cell 3).trans rfl
          have lY := HY_6.out.lt
          go_wp2_with fail
          with_reducible refine (HLb.out _).mono ?_
          rintro e w7 ⟨rfl, hN⟩
          have HK_7 := Lib.hid ((HK_6.out.alloc (.cells #[.int .i64 o, .int .i64 0, .int .i64 0, .int .i64 v] 23)).keep hN)
          have HP_7 := Lib.hid ((HP_6.out.alloc (.cells #[.int .i64 o, .int .i64 0, .int .i64 0, .int .i64 v] 23)).keep hN)
          have HR_7 := Lib.hid ((HR_6.out.alloc (.cells #[.int .i64 o, .int .i64 0, .int .i64 0, .int .i64 v] 23)).keep hN)
          have HW_7 := Lib.hid ((HW_6.out.alloc (.cells #[.int .i64 o, .int .i64 0, .int .i64 0, .int .i64 v] 23)).keep hN)
          have HX_7 := Lib.hid ((HX_6.out.alloc (.cells #[.int .i64 o, .int .i64 0, .int .i64 0, .int .i64 v] 23)).keep hN)
          have HY_7 := Lib.hid ((HY_6.out.alloc (.cells #[.int .i64 o, .int .i64 0, .int .i64 0, .int .i64 v] 23)).keep hN)
          have HB_7 := Lib.hid ((Has.new_at w6 23 #[.int .i64 o, .int .i64 0, .int .i64 0, .int .i64 v] (w6.heap.size) (by simp)).keep hN)
          have HN_7 := Lib.hid ((HN_6.out.alloc (.cells #[.int .i64 o, .int .i64 0, .int .i64 0, .int .i64 v] 23)).then_new hN)
          clear HK_6 HP_6 HR_6 HW_6 HX_6 HY_6 HN_6 cK0 cK1 cK2 cK3 lK cP0 cP1 cP2 cP3 cP4 cP5 cP6 cP7 cP8 cP9 cP10 cP11 cP12 cP13 lP cR0 cR1 cR2 cR3 lR cW0 cW1 cW2 cW3 lW cX0 cX1 cX2 cX3 lX cY0 cY1 cY2 cY3 lY hN
          have cK0 : w7.cell? ⟨w.heap.size, 0, none⟩ = some (.int .i64 o) := (HK_7.out.cell 0).trans rfl
          have cK1 : w7.cell? ⟨w.heap.size, 1, none⟩ = some (.int .i64 t) := (HK_7.out.cell 1).trans rfl
          have cK2 : w7.cell? ⟨w.heap.size, 2, none⟩ = some (.int .i64 c) := (HK_7.out.cell 2).trans rfl
          have cK3 : w7.cell? ⟨w.heap.size, 3, none⟩ = some (.int .i64 v) := (HK_7.out.cell 3).trans rfl
          have lK := HK_7.out.lt
          have cP0 : w7.cell? ⟨w.heap.size + 1, 0, none⟩ = some (.int .i64 x0) := (HP_7.out.cell 0).trans rfl
          have cP1 : w7.cell? ⟨w.heap.size + 1, 1, none⟩ = some (.int .i64 x1) := (HP_7.out.cell 1).trans rfl
          have cP2 : w7.cell? ⟨w.heap.size + 1, 2, none⟩ = some (.int .i64 x2) := (HP_7.out.cell 2).trans rfl
          have cP3 : w7.cell? ⟨w.heap.size + 1, 3, none⟩ = some (.int .i64 x3) := (HP_7.out.cell 3).trans rfl
          have cP4 : w7.cell? ⟨w.heap.size + 1, 4, none⟩ = some (.int .i64 x4) := (HP_7.out.cell 4).trans rfl
          have cP5 : w7.cell? ⟨w.heap.size + 1, 5, none⟩ = some (.int .i64 x5) := (HP_7.out.cell 5).trans rfl
          have cP6 : w7.cell? ⟨w.heap.size + 1, 6, none⟩ = some (.int .i64 x6) := (HP_7.out.cell 6).trans rfl
          have cP7 : w7.cell? ⟨w.heap.size + 1, 7, none⟩ = some (.int .i64 x7) := (HP_7.out.cell 7).trans rfl
          have cP8 : w7.cell? ⟨w.heap.size + 1, 8, none⟩ = some (.bool x8) := (HP_7.out.cell 8).trans rfl
          have cP9 : w7.cell? ⟨w.heap.size + 1, 9, none⟩ = some (.int .i64 x9) := (HP_7.out.cell 9).trans rfl
          have cP10 : w7.cell? ⟨w.heap.size + 1, 10, none⟩ = some (.int .i64 x10) := (HP_7.out.cell 10).trans rfl
          have cP11 : w7.cell? ⟨w.heap.size + 1, 11, none⟩ = some (.int .i64 x11) := (HP_7.out.cell 11).trans rfl
          have cP12 : w7.cell? ⟨w.heap.size + 1, 12, none⟩ = some (.int .i64 x12) := (HP_7.out.cell 12).trans rfl
          have cP13 : w7.cell? ⟨w.heap.size + 1, 13, none⟩ = some (.bool x13) := (HP_7.out.cell 13).trans rfl
          have lP := HP_7.out.lt
          have cR0 : w7.cell? ⟨w2.heap.size, 0, none⟩ = some (.int .i64 0) := (HR_7.out.cell 0).trans rfl
          have cR1 : w7.cell? ⟨w2.heap.size, 1, none⟩ = some (.int .i64 0) := (HR_7.out.cell 1).trans rfl
          have cR2 : w7.cell? ⟨w2.heap.size, 2, none⟩ = some (.int .i64 0) := (HR_7.out.cell 2).trans rfl
          have cR3 : w7.cell? ⟨w2.heap.size, 3, none⟩ = some (.int .i64 0) := (HR_7.out.cell 3).trans rfl
          have lR := HR_7.out.lt
          have cW0 : w7.cell? ⟨w3.heap.size, 0, none⟩ = some (.int .i64 x1) := (HW_7.out.cell 0).trans rfl
          have cW1 : w7.cell? ⟨w3.heap.size, 1, none⟩ = some (.int .i64 x0) := (HW_7.out.cell 1).trans rfl
          have cW2 : w7.cell? ⟨w3.heap.size, 2, none⟩ = some (.int .i64 x3) := (HW_7.out.cell 2).trans rfl
          have cW3 : w7.cell? ⟨w3.heap.size, 3, none⟩ = some (.int .i64 x4) := (HW_7.out.cell 3).trans rfl
          have lW := HW_7.out.lt
          have cX0 : w7.cell? ⟨w4.heap.size, 0, none⟩ = some (.int .i64 0) := (HX_7.out.cell 0).trans rfl
          have cX1 : w7.cell? ⟨w4.heap.size, 1, none⟩ = some (.int .i64 0) := (HX_7.out.cell 1).trans rfl
          have cX2 : w7.cell? ⟨w4.heap.size, 2, none⟩ = some (.int .i64 0) := (HX_7.out.cell 2).trans rfl
          have cX3 : w7.cell? ⟨w4.heap.size, 3, none⟩ = some (.int .i64 0) := (HX_7.out.cell 3).trans rfl
          have lX := HX_7.out.lt
          have cY0 : w7.cell? ⟨w5.heap.size, 0, none⟩ = some (.int .i64 o) := (HY_7.out.cell 0).trans rfl
          have cY1 : w7.cell? ⟨w5.heap.size, 1, none⟩ = some (.int .i64 0) := (HY_7.out.cell 1).trans rfl
          have cY2 : w7.cell? ⟨w5.heap.size, 2, none⟩ = some (.int .i64 0) := (HY_7.out.cell 2).trans rfl
          have cY3 : w7.cell? ⟨w5.heap.size, 3, none⟩ = some (.int .i64 v) := (HY_7.out.cell 3).trans rfl
          have lY := HY_7.out.lt
          have cB0 : w7.cell? ⟨w6.heap.size, 0, none⟩ = some (.int .i64 o) := (HB_7.out.cell 0).trans rfl
          have cB1 : w7.cell? ⟨w6.heap.size, 1, none⟩ = some (.int .i64 0) := (HB_7.out.cell 1).trans rfl
          have cB2 : w7.cell? ⟨w6.heap.size, 2, none⟩ = some (.int .i64 0) := (HB_7.out.cell 2).trans rfl
          have cB3 : w7.cell? ⟨w6.heap.size, 3, none⟩ = some (.int .i64 v) := (HB_7.out.cell 3).trans rfl
          have lB := HB_7.out.lt
          go_wp2_with fail
          go_ret
          exact ⟨rfl, HN_7.out⟩
        · have h1' : (lb == 1) = false := beq_eq_false_iff_ne.2 h1
          have HBa : Hid (∀ w, Calls Try.prog 21 #[.int .i64 o, .int .i64 v] w fun e w' => e = .returned (.tuple #[.agg #[.int .i64 0, .int .i64 0, .int .i64 0, .int .i64 0], .int .i64 2]) ∧ New w w') := fun w => by have h := HBa0.out w; rw [if_neg h1, if_neg h1] at h; exact h
          clear h1
          have cK0 : w4.cell? ⟨w.heap.size, 0, none⟩ = some (.int .i64 o) := (HK_4.out.cell 0).trans rfl
          have cK1 : w4.cell? ⟨w.heap.size, 1, none⟩ = some (.int .i64 t) := (HK_4.out.cell 1).trans rfl
          have cK2 : w4.cell? ⟨w.heap.size, 2, none⟩ = some (.int .i64 c) := (HK_4.out.cell 2).trans rfl
          have cK3 : w4.cell? ⟨w.heap.size, 3, none⟩ = some (.int .i64 v) := (HK_4.out.cell 3).trans rfl
          have lK := HK_4.out.lt
          have cP0 : w4.cell? ⟨w.heap.size + 1, 0, none⟩ = some (.int .i64 x0) := (HP_4.out.cell 0).trans rfl
          have cP1 : w4.cell? ⟨w.heap.size + 1, 1, none⟩ = some (.int .i64 x1) := (HP_4.out.cell 1).trans rfl
          have cP2 : w4.cell? ⟨w.heap.size + 1, 2, none⟩ = some (.int .i64 x2) := (HP_4.out.cell 2).trans rfl
          have cP3 : w4.cell? ⟨w.heap.size + 1, 3, none⟩ = some (.int .i64 x3) := (HP_4.out.cell 3).trans rfl
          have cP4 : w4.cell? ⟨w.heap.size + 1, 4, none⟩ = some (.int .i64 x4) := (HP_4.out.cell 4).trans rfl
          have cP5 : w4.cell? ⟨w.heap.size + 1, 5, none⟩ = some (.int .i64 x5) := (HP_4.out.cell 5).trans rfl
          have cP6 : w4.cell? ⟨w.heap.size + 1, 6, none⟩ = some (.int .i64 x6) := (HP_4.out.cell 6).trans rfl
          have cP7 : w4.cell? ⟨w.heap.size + 1, 7, none⟩ = some (.int .i64 x7) := (HP_4.out.cell 7).trans rfl
          have cP8 : w4.cell? ⟨w.heap.size + 1, 8, none⟩ = some (.bool x8) := (HP_4.out.cell 8).trans rfl
          have cP9 : w4.cell? ⟨w.heap.size + 1, 9, none⟩ = some (.int .i64 x9) := (HP_4.out.cell 9).trans rfl
          have cP10 : w4.cell? ⟨w.heap.size + 1, 10, none⟩ = some (.int .i64 x10) := (HP_4.out.cell 10).trans rfl
          have cP11 : w4.cell? ⟨w.heap.size + 1, 11, none⟩ = some (.int .i64 x11) := (HP_4.out.cell 11).trans rfl
          have cP12 : w4.cell? ⟨w.heap.size + 1, 12, none⟩ = some (.int .i64 x12) := (HP_4.out.cell 12).trans rfl
          have cP13 : w4.cell? ⟨w.heap.size + 1, 13, none⟩ = some (.bool x13) := (HP_4.out.cell 13).trans rfl
          have lP := HP_4.out.lt
          have cR0 : w4.cell? ⟨w2.heap.size, 0, none⟩ = some (.int .i64 0) := (HR_4.out.cell 0).trans rfl
          have cR1 : w4.cell? ⟨w2.heap.size, 1, none⟩ = some (.int .i64 0) := (HR_4.out.cell 1).trans rfl
          have cR2 : w4.cell? ⟨w2.heap.size, 2, none⟩ = some (.int .i64 0) := (HR_4.out.cell 2).trans rfl
          have cR3 : w4.cell? ⟨w2.heap.size, 3, none⟩ = some (.int .i64 0) := (HR_4.out.cell 3).trans rfl
          have lR := HR_4.out.lt
          have cW0 : w4.cell? ⟨w3.heap.size, 0, none⟩ = some (.int .i64 x1) := (HW_4.out.cell 0).trans rfl
          have cW1 : w4.cell? ⟨w3.heap.size, 1, none⟩ = some (.int .i64 x0) := (HW_4.out.cell 1).trans rfl
          have cW2 : w4.cell? ⟨w3.heap.size, 2, none⟩ = some (.int .i64 x3) := (HW_4.out.cell 2).trans rfl
          have cW3 : w4.cell? ⟨w3.heap.size, 3, none⟩ = some (.int .i64 x4) := (HW_4.out.cell 3).trans rfl
          have lW := HW_4.out.lt
          go_wp2_with fail
          with_reducible refine (HBa.out _).mono ?_
          rintro e w5 ⟨rfl, hN⟩
          have HK_5 := Lib.hid ((HK_4.out.alloc (.cells #[.int .i64 0, .int .i64 0, .int .i64 0, .int .i64 0] 23)).keep hN)
          have HP_5 := Lib.hid ((HP_4.out.alloc (.cells #[.int .i64 0, .int .i64 0, .int .i64 0, .int .i64 0] 23)).keep hN)
          have HR_5 := Lib.hid ((HR_4.out.alloc (.cells #[.int .i64 0, .int .i64 0, .int .i64 0, .int .i64 0] 23)).keep hN)
          have HW_5 := Lib.hid ((HW_4.out.alloc (.cells #[.int .i64 0, .int .i64 0, .int .i64 0, .int .i64 0] 23)).keep hN)
          have HX_5 := Lib.hid ((Has.new_at w4 23 #[.int .i64 0, .int .i64 0, .int .i64 0, .int .i64 0] (w4.heap.size) (by simp)).keep hN)
          have HN_5 := Lib.hid ((HN_4.out.alloc (.cells #[.int .i64 0, .int .i64 0, .int .i64 0, .int .i64 0] 23)).then_new hN)
          clear HK_4 HP_4 HR_4 HW_4 HN_4 cK0 cK1 cK2 cK3 lK cP0 cP1 cP2 cP3 cP4 cP5 cP6 cP7 cP8 cP9 cP10 cP11 cP12 cP13 lP cR0 cR1 cR2 cR3 lR cW0 cW1 cW2 cW3 lW hN
          have cK0 : w5.cell? ⟨w.heap.size, 0, none⟩ = some (.int .i64 o) := (HK_5.out.cell 0).trans rfl
          have cK1 : w5.cell? ⟨w.heap.size, 1, none⟩ = some (.int .i64 t) := (HK_5.out.cell 1).trans rfl
          have cK2 : w5.cell? ⟨w.heap.size, 2, none⟩ = some (.int .i64 c) := (HK_5.out.cell 2).trans rfl
          have cK3 : w5.cell? ⟨w.heap.size, 3, none⟩ = some (.int .i64 v) := (HK_5.out.cell 3).trans rfl
          have lK := HK_5.out.lt
          have cP0 : w5.cell? ⟨w.heap.size + 1, 0, none⟩ = some (.int .i64 x0) := (HP_5.out.cell 0).trans rfl
          have cP1 : w5.cell? ⟨w.heap.size + 1, 1, none⟩ = some (.int .i64 x1) := (HP_5.out.cell 1).trans rfl
          have cP2 : w5.cell? ⟨w.heap.size + 1, 2, none⟩ = some (.int .i64 x2) := (HP_5.out.cell 2).trans rfl
          have cP3 : w5.cell? ⟨w.heap.size + 1, 3, none⟩ = some (.int .i64 x3) := (HP_5.out.cell 3).trans rfl
          have cP4 : w5.cell? ⟨w.heap.size + 1, 4, none⟩ = some (.int .i64 x4) := (HP_5.out.cell 4).trans rfl
          have cP5 : w5.cell? ⟨w.heap.size + 1, 5, none⟩ = some (.int .i64 x5) := (HP_5.out.cell 5).trans rfl
          have cP6 : w5.cell? ⟨w.heap.size + 1, 6, none⟩ = some (.int .i64 x6) := (HP_5.out.cell 6).trans rfl
          have cP7 : w5.cell? ⟨w.heap.size + 1, 7, none⟩ = some (.int .i64 x7) := (HP_5.out.cell 7).trans rfl
          have cP8 : w5.cell? ⟨w.heap.size + 1, 8, none⟩ = some (.bool x8) := (HP_5.out.cell 8).trans rfl
          have cP9 : w5.cell? ⟨w.heap.size + 1, 9, none⟩ = some (.int .i64 x9) := (HP_5.out.cell 9).trans rfl
          have cP10 : w5.cell? ⟨w.heap.size + 1, 10, none⟩ = some (.int .i64 x10) := (HP_5.out.cell 10).trans rfl
          have cP11 : w5.cell? ⟨w.heap.size + 1, 11, none⟩ = some (.int .i64 x11) := (HP_5.out.cell 11).trans rfl
          have cP12 : w5.cell? ⟨w.heap.size + 1, 12, none⟩ = some (.int .i64 x12) := (HP_5.out.cell 12).trans rfl
          have cP13 : w5.cell? ⟨w.heap.size + 1, 13, none⟩ = some (.bool x13) := (HP_5.out.cell 13).trans rfl
          have lP := HP_5.out.lt
          have cR0 : w5.cell? ⟨w2.heap.size, 0, none⟩ = some (.int .i64 0) := (HR_5.out.cell 0).trans rfl
          have cR1 : w5.cell? ⟨w2.heap.size, 1, none⟩ = some (.int .i64 0) := (HR_5.out.cell 1).trans rfl
          have cR2 : w5.cell? ⟨w2.heap.size, 2, none⟩ = some (.int .i64 0) := (HR_5.out.cell 2).trans rfl
          have cR3 : w5.cell? ⟨w2.heap.size, 3, none⟩ = some (.int .i64 0) := (HR_5.out.cell 3).trans rfl
          have lR := HR_5.out.lt
          have cW0 : w5.cell? ⟨w3.heap.size, 0, none⟩ = some (.int .i64 x1) := (HW_5.out.cell 0).trans rfl
          have cW1 : w5.cell? ⟨w3.heap.size, 1, none⟩ = some (.int .i64 x0) := (HW_5.out.cell 1).trans rfl
          have cW2 : w5.cell? ⟨w3.heap.size, 2, none⟩ = some (.int .i64 x3) := (HW_5.out.cell 2).trans rfl
          have cW3 : w5.cell? ⟨w3.heap.size, 3, none⟩ = some (.int .i64 x4) := (HW_5.out.cell 3).trans rfl
          have lW := HW_5.out.lt
          have cX0 : w5.cell? ⟨w4.heap.size, 0, none⟩ = some (.int .i64 0) := (HX_5.out.cell 0).trans rfl
          have cX1 : w5.cell? ⟨w4.heap.size, 1, none⟩ = some (.int .i64 0) := (HX_5.out.cell 1).trans rfl
          have cX2 : w5.cell? ⟨w4.heap.size, 2, none⟩ = some (.int .i64 0) := (HX_5.out.cell 2).trans rfl
          have cX3 : w5.cell? ⟨w4.heap.size, 3, none⟩ = some (.int .i64 0) := (HX_5.out.cell 3).trans rfl
          have lX := HX_5.out.lt
          go_wp2_with fail
          with_reducible refine (HLw.out _).mono ?_
          rintro e w6 ⟨rfl, hN⟩
          have HK_6 := Lib.hid ((HK_5.out.alloc (.cells #[.int .i64 0, .int .i64 0, .int .i64 0, .int .i64 0] 23)).keep hN)
          have HP_6 := Lib.hid ((HP_5.out.alloc (.cells #[.int .i64 0, .int .i64 0, .int .i64 0, .int .i64 0] 23)).keep hN)
          have HR_6 := Lib.hid ((HR_5.out.alloc (.cells #[.int .i64 0, .int .i64 0, .int .i64 0, .int .i64 0] 23)).keep hN)
          have HW_6 := Lib.hid ((HW_5.out.alloc (.cells #[.int .i64 0, .int .i64 0, .int .i64 0, .int .i64 0] 23)).keep hN)
          have HX_6 := Lib.hid ((HX_5.out.alloc (.cells #[.int .i64 0, .int .i64 0, .int .i64 0, .int .i64 0] 23)).keep hN)
          have HY_6 := Lib.hid ((Has.new_at w5 23 #[.int .i64 0, .int .i64 0, .int .i64 0, .int .i64 0] (w5.heap.size) (by simp)).keep hN)
          have HN_6 := Lib.hid ((HN_5.out.alloc (.cells #[.int .i64 0, .int .i64 0, .int .i64 0, .int .i64 0] 23)).then_new hN)
          clear HK_5 HP_5 HR_5 HW_5 HX_5 HN_5 cK0 cK1 cK2 cK3 lK cP0 cP1 cP2 cP3 cP4 cP5 cP6 cP7 cP8 cP9 cP10 cP11 cP12 cP13 lP cR0 cR1 cR2 cR3 lR cW0 cW1 cW2 cW3 lW cX0 cX1 cX2 cX3 lX hN
          have cK0 : w6.cell? ⟨w.heap.size, 0, none⟩ = some (.int .i64 o) := (HK_6.out.cell 0).trans rfl
          have cK1 : w6.cell? ⟨w.heap.size, 1, none⟩ = some (.int .i64 t) := (HK_6.out.cell 1).trans rfl
          have cK2 : w6.cell? ⟨w.heap.size, 2, none⟩ = some (.int .i64 c) := (HK_6.out.cell 2).trans rfl
          have cK3 : w6.cell? ⟨w.heap.size, 3, none⟩ = some (.int .i64 v) := (HK_6.out.cell 3).trans rfl
          have lK := HK_6.out.lt
          have cP0 : w6.cell? ⟨w.heap.size + 1, 0, none⟩ = some (.int .i64 x0) := (HP_6.out.cell 0).trans rfl
          have cP1 : w6.cell? ⟨w.heap.size + 1, 1, none⟩ = some (.int .i64 x1) := (HP_6.out.cell 1).trans rfl
          have cP2 : w6.cell? ⟨w.heap.size + 1, 2, none⟩ = some (.int .i64 x2) := (HP_6.out.cell 2).trans rfl
          have cP3 : w6.cell? ⟨w.heap.size + 1, 3, none⟩ = some (.int .i64 x3) := (HP_6.out.cell 3).trans rfl
          have cP4 : w6.cell? ⟨w.heap.size + 1, 4, none⟩ = some (.int .i64 x4) := (HP_6.out.cell 4).trans rfl
          have cP5 : w6.cell? ⟨w.heap.size + 1, 5, none⟩ = some (.int .i64 x5) := (HP_6.out.cell 5).trans rfl
          have cP6 : w6.cell? ⟨w.heap.size + 1, 6, none⟩ = some (.int .i64 x6) := (HP_6.out.cell 6).trans rfl
          have cP7 : w6.cell? ⟨w.heap.size + 1, 7, none⟩ = some (.int .i64 x7) := (HP_6.out.cell 7).trans rfl
          have cP8 : w6.cell? ⟨w.heap.size + 1, 8, none⟩ = some (.bool x8) := (HP_6.out.cell 8).trans rfl
          have cP9 : w6.cell? ⟨w.heap.size + 1, 9, none⟩ = some (.int .i64 x9) := (HP_6.out.cell 9).trans rfl
          have cP10 : w6.cell? ⟨w.heap.size + 1, 10, none⟩ = some (.int .i64 x10) := (HP_6.out.cell 10).trans rfl
          have cP11 : w6.cell? ⟨w.heap.size + 1, 11, none⟩ = some (.int .i64 x11) := (HP_6.out.cell 11).trans rfl
          have cP12 : w6.cell? ⟨w.heap.size + 1, 12, none⟩ = some (.int .i64 x12) := (HP_6.out.cell 12).trans rfl
          have cP13 : w6.cell? ⟨w.heap.size + 1, 13, none⟩ = some (.bool x13) := (HP_6.out.cell 13).trans rfl
          have lP := HP_6.out.lt
          have cR0 : w6.cell? ⟨w2.heap.size, 0, none⟩ = some (.int .i64 0) := (HR_6.out.cell 0).trans rfl
          have cR1 : w6.cell? ⟨w2.heap.size, 1, none⟩ = some (.int .i64 0) := (HR_6.out.cell 1).trans rfl
          have cR2 : w6.cell? ⟨w2.heap.size, 2, none⟩ = some (.int .i64 0) := (HR_6.out.cell 2).trans rfl
          have cR3 : w6.cell? ⟨w2.heap.size, 3, none⟩ = some (.int .i64 0) := (HR_6.out.cell 3).trans rfl
          have lR := HR_6.out.lt
          have cW0 : w6.cell? ⟨w3.heap.size, 0, none⟩ = some (.int .i64 x1) := (HW_6.out.cell 0).trans rfl
          have cW1 : w6.cell? ⟨w3.heap.size, 1, none⟩ = some (.int .i64 x0) := (HW_6.out.cell 1).trans rfl
          have cW2 : w6.cell? ⟨w3.heap.size, 2, none⟩ = some (.int .i64 x3) := (HW_6.out.cell 2).trans rfl
          have cW3 : w6.cell? ⟨w3.heap.size, 3, none⟩ = some (.int .i64 x4) := (HW_6.out.cell 3).trans rfl
          have lW := HW_6.out.lt
          have cX0 : w6.cell? ⟨w4.heap.size, 0, none⟩ = some (.int .i64 0) := (HX_6.out.cell 0).trans rfl
          have cX1 : w6.cell? ⟨w4.heap.size, 1, none⟩ = some (.int .i64 0) := (HX_6.out.cell 1).trans rfl
          have cX2 : w6.cell? ⟨w4.heap.size, 2, none⟩ = some (.int .i64 0) := (HX_6.out.cell 2).trans rfl
          have cX3 : w6.cell? ⟨w4.heap.size, 3, none⟩ = some (.int .i64 0) := (HX_6.out.cell 3).trans rfl
          have lX := HX_6.out.lt
          have cY0 : w6.cell? ⟨w5.heap.size, 0, none⟩ = some (.int .i64 0) := (HY_6.out.cell 0).trans rfl
          have cY1 : w6.cell? ⟨w5.heap.size, 1, none⟩ = some (.int .i64 0) := (HY_6.out.cell 1).trans rfl
          have cY2 : w6.cell? ⟨w5.heap.size, 2, none⟩ = some (.int .i64 0) := (HY_6.out.cell 2).trans rfl
          have cY3 : w6.cell? ⟨w5.heap.size, 3, none⟩ = some (.int .i64 0) := (HY_6.out.cell 3).trans rfl
          have lY := HY_6.out.lt
          go_wp2_with fail
          with_reducible refine (HLb.out _).mono ?_
          rintro e w7 ⟨rfl, hN⟩
          have HK_7 := Lib.hid ((HK_6.out.alloc (.cells #[.int .i64 o, .int .i64 0, .int .i64 0, .int .i64 v] 23)).keep hN)
          have HP_7 := Lib.hid ((HP_6.out.alloc (.cells #[.int .i64 o, .int .i64 0, .int .i64 0, .int .i64 v] 23)).keep hN)
          have HR_7 := Lib.hid ((HR_6.out.alloc (.cells #[.int .i64 o, .int .i64 0, .int .i64 0, .int .i64 v] 23)).keep hN)
          have HW_7 := Lib.hid ((HW_6.out.alloc (.cells #[.int .i64 o, .int .i64 0, .int .i64 0, .int .i64 v] 23)).keep hN)
          have HX_7 := Lib.hid ((HX_6.out.alloc (.cells #[.int .i64 o, .int .i64 0, .int .i64 0, .int .i64 v] 23)).keep hN)
          have HY_7 := Lib.hid ((HY_6.out.alloc (.cells #[.int .i64 o, .int .i64 0, .int .i64 0, .int .i64 v] 23)).keep hN)
          have HB_7 := Lib.hid ((Has.new_at w6 23 #[.int .i64 o, .int .i64 0, .int .i64 0, .int .i64 v] (w6.heap.size) (by simp)).keep hN)
          have HN_7 := Lib.hid ((HN_6.out.alloc (.cells #[.int .i64 o, .int .i64 0, .int .i64 0, .int .i64 v] 23)).then_new hN)
          clear HK_6 HP_6 HR_6 HW_6 HX_6 HY_6 HN_6 cK0 cK1 cK2 cK3 lK cP0 cP1 cP2 cP3 cP4 cP5 cP6 cP7 cP8 cP9 cP10 cP11 cP12 cP13 lP cR0 cR1 cR2 cR3 lR cW0 cW1 cW2 cW3 lW cX0 cX1 cX2 cX3 lX cY0 cY1 cY2 cY3 lY hN
          have cK0 : w7.cell? ⟨w.heap.size, 0, none⟩ = some (.int .i64 o) := (HK_7.out.cell 0).trans rfl
          have cK1 : w7.cell? ⟨w.heap.size, 1, none⟩ = some (.int .i64 t) := (HK_7.out.cell 1).trans rfl
          have cK2 : w7.cell? ⟨w.heap.size, 2, none⟩ = some (.int .i64 c) := (HK_7.out.cell 2).trans rfl
          have cK3 : w7.cell? ⟨w.heap.size, 3, none⟩ = some (.int .i64 v) := (HK_7.out.cell 3).trans rfl
          have lK := HK_7.out.lt
          have cP0 : w7.cell? ⟨w.heap.size + 1, 0, none⟩ = some (.int .i64 x0) := (HP_7.out.cell 0).trans rfl
          have cP1 : w7.cell? ⟨w.heap.size + 1, 1, none⟩ = some (.int .i64 x1) := (HP_7.out.cell 1).trans rfl
          have cP2 : w7.cell? ⟨w.heap.size + 1, 2, none⟩ = some (.int .i64 x2) := (HP_7.out.cell 2).trans rfl
          have cP3 : w7.cell? ⟨w.heap.size + 1, 3, none⟩ = some (.int .i64 x3) := (HP_7.out.cell 3).trans rfl
          have cP4 : w7.cell? ⟨w.heap.size + 1, 4, none⟩ = some (.int .i64 x4) := (HP_7.out.cell 4).trans rfl
          have cP5 : w7.cell? ⟨w.heap.size + 1, 5, none⟩ = some (.int .i64 x5) := (HP_7.out.cell 5).trans rfl
          have cP6 : w7.cell? ⟨w.heap.size + 1, 6, none⟩ = some (.int .i64 x6) := (HP_7.out.cell 6).trans rfl
          have cP7 : w7.cell? ⟨w.heap.size + 1, 7, none⟩ = some (.int .i64 x7) := (HP_7.out.cell 7).trans rfl
          have cP8 : w7.cell? ⟨w.heap.size + 1, 8, none⟩ = some (.bool x8) := (HP_7.out.cell 8).trans rfl
          have cP9 : w7.cell? ⟨w.heap.size + 1, 9, none⟩ = some (.int .i64 x9) := (HP_7.out.cell 9).trans rfl
          have cP10 : w7.cell? ⟨w.heap.size + 1, 10, none⟩ = some (.int .i64 x10) := (HP_7.out.cell 10).trans rfl
          have cP11 : w7.cell? ⟨w.heap.size + 1, 11, none⟩ = some (.int .i64 x11) := (HP_7.out.cell 11).trans rfl
          have cP12 : w7.cell? ⟨w.heap.size + 1, 12, none⟩ = some (.int .i64 x12) := (HP_7.out.cell 12).trans rfl
          have cP13 : w7.cell? ⟨w.heap.size + 1, 13, none⟩ = some (.bool x13) := (HP_7.out.cell 13).trans rfl
          have lP := HP_7.out.lt
          have cR0 : w7.cell? ⟨w2.heap.size, 0, none⟩ = some (.int .i64 0) := (HR_7.out.cell 0).trans rfl
          have cR1 : w7.cell? ⟨w2.heap.size, 1, none⟩ = some (.int .i64 0) := (HR_7.out.cell 1).trans rfl
          have cR2 : w7.cell? ⟨w2.heap.size, 2, none⟩ = some (.int .i64 0) := (HR_7.out.cell 2).trans rfl
          have cR3 : w7.cell? ⟨w2.heap.size, 3, none⟩ = some (.int .i64 0) := (HR_7.out.cell 3).trans rfl
          have lR := HR_7.out.lt
          have cW0 : w7.cell? ⟨w3.heap.size, 0, none⟩ = some (.int .i64 x1) := (HW_7.out.cell 0).trans rfl
          have cW1 : w7.cell? ⟨w3.heap.size, 1, none⟩ = some (.int .i64 x0) := (HW_7.out.cell 1).trans rfl
          have cW2 : w7.cell? ⟨w3.heap.size, 2, none⟩ = some (.int .i64 x3) := (HW_7.out.cell 2).trans rfl
          have cW3 : w7.cell? ⟨w3.heap.size, 3, none⟩ = some (.int .i64 x4) := (HW_7.out.cell 3).trans rfl
          have lW := HW_7.out.lt
          have cX0 : w7.cell? ⟨w4.heap.size, 0, none⟩ = some (.int .i64 0) := (HX_7.out.cell 0).trans rfl
          have cX1 : w7.cell? ⟨w4.heap.size, 1, none⟩ = some (.int .i64 0) := (HX_7.out.cell 1).trans rfl
          have cX2 : w7.cell? ⟨w4.heap.size, 2, none⟩ = some (.int .i64 0) := (HX_7.out.cell 2).trans rfl
          have cX3 : w7.cell? ⟨w4.heap.size, 3, none⟩ = some (.int .i64 0) := (HX_7.out.cell 3).trans rfl
          have lX := HX_7.out.lt
          have cY0 : w7.cell? ⟨w5.heap.size, 0, none⟩ = some (.int .i64 0) := (HY_7.out.cell 0).trans rfl
          have cY1 : w7.cell? ⟨w5.heap.size, 1, none⟩ = some (.int .i64 0) := (HY_7.out.cell 1).trans rfl
          have cY2 : w7.cell? ⟨w5.heap.size, 2, none⟩ = some (.int .i64 0) := (HY_7.out.cell 2).trans rfl
          have cY3 : w7.cell? ⟨w5.heap.size, 3, none⟩ = some (.int .i64 0) := (HY_7.out.cell 3).trans rfl
          have lY := HY_7.out.lt
          have cB0 : w7.cell? ⟨w6.heap.size, 0, none⟩ = some (.int .i64 o) := (HB_7.out.cell 0).trans rfl
          have cB1 : w7.cell? ⟨w6.heap.size, 1, none⟩ = some (.int .i64 0) := (HB_7.out.cell 1).trans rfl
          have cB2 : w7.cell? ⟨w6.heap.size, 2, none⟩ = some (.int .i64 0) := (HB_7.out.cell 2).trans rfl
          have cB3 : w7.cell? ⟨w6.heap.size, 3, none⟩ = some (.int .i64 v) := (HB_7.out.cell 3).trans rfl
          have lB := HB_7.out.lt
          go_wp2_with fail
          go_ret
          exact ⟨rfl, HN_7.out⟩
    · obtain ⟨e1, e2⟩ := rol_yes hb h255
      rw [e1, e2] at HRo
      have h' : (k.v == 255) = false := beq_eq_false_iff_ne.2 h255
      clear e1 e2 hb h255
      obtain ⟨o, t, c, v⟩ := k
      try simp only at hv
      change Hid (∀ w, Calls Try.prog 19 _ w fun e w' => e = .returned (.tuple #[.agg #[.int .i64 o, .int .i64 t, .int .i64 c, .int .i64 (v + 1)], .int .i64 0]) ∧ New w w') at HRo
      go_enter Try.func4, Try.ntmps4
      go_wp2_with fail
      with_reducible refine (awake_any _).mono ?_
      rintro e w1 ⟨rfl, hN⟩
      have HK_1 := Lib.hid (((Has.new_at w 23 #[.int .i64 o, .int .i64 t, .int .i64 c, .int .i64 v] (w.heap.size) (by simp)).alloc (.cells #[.int .i64 x0, .int .i64 x1, .int .i64 x2, .int .i64 x3, .int .i64 x4, .int .i64 x5, .int .i64 x6, .int .i64 x7, .bool x8, .int .i64 x9, .int .i64 x10, .int .i64 x11, .int .i64 x12, .bool x13] 41)).keep hN)
      have HP_1 := Lib.hid ((Has.new_at (w.alloc (.cells #[.int .i64 o, .int .i64 t, .int .i64 c, .int .i64 v] 23)) 41 #[.int .i64 x0, .int .i64 x1, .int .i64 x2, .int .i64 x3, .int .i64 x4, .int .i64 x5, .int .i64 x6, .int .i64 x7, .bool x8, .int .i64 x9, .int .i64 x10, .int .i64 x11, .int .i64 x12, .bool x13] (w.heap.size + 1) (by simp)).keep hN)
      have HN_1 := Lib.hid ((((Chg.refl (fun _ => False) w).alloc (.cells #[.int .i64 o, .int .i64 t, .int .i64 c, .int .i64 v] 23)).alloc (.cells #[.int .i64 x0, .int .i64 x1, .int .i64 x2, .int .i64 x3, .int .i64 x4, .int .i64 x5, .int .i64 x6, .int .i64 x7, .bool x8, .int .i64 x9, .int .i64 x10, .int .i64 x11, .int .i64 x12, .bool x13] 41)).then_new hN)
      clear hN
      have cK0 : w1.cell? ⟨w.heap.size, 0, none⟩ = some (.int .i64 o) := (HK_1.out.cell 0).trans rfl
      have cK1 : w1.cell? ⟨w.heap.size, 1, none⟩ = some (.int .i64 t) := (HK_1.out.cell 1).trans rfl
      have cK2 : w1.cell? ⟨w.heap.size, 2, none⟩ = some (.int .i64 c) := (HK_1.out.cell 2).trans rfl
      have cK3 : w1.cell? ⟨w.heap.size, 3, none⟩ = some (.int .i64 v) := (HK_1.out.cell 3).trans rfl
      have lK := HK_1.out.lt
      have cP0 : w1.cell? ⟨w.heap.size + 1, 0, none⟩ = some (.int .i64 x0) := (HP_1.out.cell 0).trans rfl
      have cP1 : w1.cell? ⟨w.heap.size + 1, 1, none⟩ = some (.int .i64 x1) := (HP_1.out.cell 1).trans rfl
      have cP2 : w1.cell? ⟨w.heap.size + 1, 2, none⟩ = some (.int .i64 x2) := (HP_1.out.cell 2).trans rfl
      have cP3 : w1.cell? ⟨w.heap.size + 1, 3, none⟩ = some (.int .i64 x3) := (HP_1.out.cell 3).trans rfl
      have cP4 : w1.cell? ⟨w.heap.size + 1, 4, none⟩ = some (.int .i64 x4) := (HP_1.out.cell 4).trans rfl
      have cP5 : w1.cell? ⟨w.heap.size + 1, 5, none⟩ = some (.int .i64 x5) := (HP_1.out.cell 5).trans rfl
      have cP6 : w1.cell? ⟨w.heap.size + 1, 6, none⟩ = some (.int .i64 x6) := (HP_1.out.cell 6).trans rfl
      have cP7 : w1.cell? ⟨w.heap.size + 1, 7, none⟩ = some (.int .i64 x7) := (HP_1.out.cell 7).trans rfl
      have cP8 : w1.cell? ⟨w.heap.size + 1, 8, none⟩ = some (.bool x8) := (HP_1.out.cell 8).trans rfl
      have cP9 : w1.cell? ⟨w.heap.size + 1, 9, none⟩ = some (.int .i64 x9) := (HP_1.out.cell 9).trans rfl
      have cP10 : w1.cell? ⟨w.heap.size + 1, 10, none⟩ = some (.int .i64 x10) := (HP_1.out.cell 10).trans rfl
      have cP11 : w1.cell? ⟨w.heap.size + 1, 11, none⟩ = some (.int .i64 x11) := (HP_1.out.cell 11).trans rfl
      have cP12 : w1.cell? ⟨w.heap.size + 1, 12, none⟩ = some (.int .i64 x12) := (HP_1.out.cell 12).trans rfl
      have cP13 : w1.cell? ⟨w.heap.size + 1, 13, none⟩ = some (.bool x13) := (HP_1.out.cell 13).trans rfl
      have lP := HP_1.out.lt
      go_wp2_with fail
      with_reducible refine (HRo.out _).mono ?_
      rintro e w2 ⟨rfl, hN⟩
      have HK_2 := Lib.hid (HK_1.out.keep hN)
      have HP_2 := Lib.hid (HP_1.out.keep hN)
      have HN_2 := Lib.hid (HN_1.out.then_new hN)
      clear HK_1 HP_1 HN_1 cK0 cK1 cK2 cK3 lK cP0 cP1 cP2 cP3 cP4 cP5 cP6 cP7 cP8 cP9 cP10 cP11 cP12 cP13 lP hN
      have cK0 : w2.cell? ⟨w.heap.size, 0, none⟩ = some (.int .i64 o) := (HK_2.out.cell 0).trans rfl
      have cK1 : w2.cell? ⟨w.heap.size, 1, none⟩ = some (.int .i64 t) := (HK_2.out.cell 1).trans rfl
      have cK2 : w2.cell? ⟨w.heap.size, 2, none⟩ = some (.int .i64 c) := (HK_2.out.cell 2).trans rfl
      have cK3 : w2.cell? ⟨w.heap.size, 3, none⟩ = some (.int .i64 v) := (HK_2.out.cell 3).trans rfl
      have lK := HK_2.out.lt
      have cP0 : w2.cell? ⟨w.heap.size + 1, 0, none⟩ = some (.int .i64 x0) := (HP_2.out.cell 0).trans rfl
      have cP1 : w2.cell? ⟨w.heap.size + 1, 1, none⟩ = some (.int .i64 x1) := (HP_2.out.cell 1).trans rfl
      have cP2 : w2.cell? ⟨w.heap.size + 1, 2, none⟩ = some (.int .i64 x2) := (HP_2.out.cell 2).trans rfl
      have cP3 : w2.cell? ⟨w.heap.size + 1, 3, none⟩ = some (.int .i64 x3) := (HP_2.out.cell 3).trans rfl
      have cP4 : w2.cell? ⟨w.heap.size + 1, 4, none⟩ = some (.int .i64 x4) := (HP_2.out.cell 4).trans rfl
      have cP5 : w2.cell? ⟨w.heap.size + 1, 5, none⟩ = some (.int .i64 x5) := (HP_2.out.cell 5).trans rfl
      have cP6 : w2.cell? ⟨w.heap.size + 1, 6, none⟩ = some (.int .i64 x6) := (HP_2.out.cell 6).trans rfl
      have cP7 : w2.cell? ⟨w.heap.size + 1, 7, none⟩ = some (.int .i64 x7) := (HP_2.out.cell 7).trans rfl
      have cP8 : w2.cell? ⟨w.heap.size + 1, 8, none⟩ = some (.bool x8) := (HP_2.out.cell 8).trans rfl
      have cP9 : w2.cell? ⟨w.heap.size + 1, 9, none⟩ = some (.int .i64 x9) := (HP_2.out.cell 9).trans rfl
      have cP10 : w2.cell? ⟨w.heap.size + 1, 10, none⟩ = some (.int .i64 x10) := (HP_2.out.cell 10).trans rfl
      have cP11 : w2.cell? ⟨w.heap.size + 1, 11, none⟩ = some (.int .i64 x11) := (HP_2.out.cell 11).trans rfl
      have cP12 : w2.cell? ⟨w.heap.size + 1, 12, none⟩ = some (.int .i64 x12) := (HP_2.out.cell 12).trans rfl
      have cP13 : w2.cell? ⟨w.heap.size + 1, 13, none⟩ = some (.bool x13) := (HP_2.out.cell 13).trans rfl
      have lP := HP_2.out.lt
      go_wp2_with fail
      with_reducible refine (HRi.out _).mono ?_
      rintro e w3 ⟨rfl, hN⟩
      have HK_3 := Lib.hid ((HK_2.out.alloc (.cells #[.int .i64 o, .int .i64 t, .int .i64 c, .int .i64 (v + 1)] 23)).keep hN)
      have HP_3 := Lib.hid ((HP_2.out.alloc (.cells #[.int .i64 o, .int .i64 t, .int .i64 c, .int .i64 (v + 1)] 23)).keep hN)
      have HR_3 := Lib.hid ((Has.new_at w2 23 #[.int .i64 o, .int .i64 t, .int .i64 c, .int .i64 (v + 1)] (w2.heap.size) (by simp)).keep hN)
      have HN_3 := Lib.hid ((HN_2.out.alloc (.cells #[.int .i64 o, .int .i64 t, .int .i64 c, .int .i64 (v + 1)] 23)).then_new hN)
      clear HK_2 HP_2 HN_2 cK0 cK1 cK2 cK3 lK cP0 cP1 cP2 cP3 cP4 cP5 cP6 cP7 cP8 cP9 cP10 cP11 cP12 cP13 lP hN
      have cK0 : w3.cell? ⟨w.heap.size, 0, none⟩ = some (.int .i64 o) := (HK_3.out.cell 0).trans rfl
      have cK1 : w3.cell? ⟨w.heap.size, 1, none⟩ = some (.int .i64 t) := (HK_3.out.cell 1).trans rfl
      have cK2 : w3.cell? ⟨w.heap.size, 2, none⟩ = some (.int .i64 c) := (HK_3.out.cell 2).trans rfl
      have cK3 : w3.cell? ⟨w.heap.size, 3, none⟩ = some (.int .i64 v) := (HK_3.out.cell 3).trans rfl
      have lK := HK_3.out.lt
      have cP0 : w3.cell? ⟨w.heap.size + 1, 0, none⟩ = some (.int .i64 x0) := (HP_3.out.cell 0).trans rfl
      have cP1 : w3.cell? ⟨w.heap.size + 1, 1, none⟩ = some (.int .i64 x1) := (HP_3.out.cell 1).trans rfl
      have cP2 : w3.cell? ⟨w.heap.size + 1, 2, none⟩ = some (.int .i64 x2) := (HP_3.out.cell 2).trans rfl
      have cP3 : w3.cell? ⟨w.heap.size + 1, 3, none⟩ = some (.int .i64 x3) := (HP_3.out.cell 3).trans rfl
      have cP4 : w3.cell? ⟨w.heap.size + 1, 4, none⟩ = some (.int .i64 x4) := (HP_3.out.cell 4).trans rfl
      have cP5 : w3.cell? ⟨w.heap.size + 1, 5, none⟩ = some (.int .i64 x5) := (HP_3.out.cell 5).trans rfl
      have cP6 : w3.cell? ⟨w.heap.size + 1, 6, none⟩ = some (.int .i64 x6) := (HP_3.out.cell 6).trans rfl
      have cP7 : w3.cell? ⟨w.heap.size + 1, 7, none⟩ = some (.int .i64 x7) := (HP_3.out.cell 7).trans rfl
      have cP8 : w3.cell? ⟨w.heap.size + 1, 8, none⟩ = some (.bool x8) := (HP_3.out.cell 8).trans rfl
      have cP9 : w3.cell? ⟨w.heap.size + 1, 9, none⟩ = some (.int .i64 x9) := (HP_3.out.cell 9).trans rfl
      have cP10 : w3.cell? ⟨w.heap.size + 1, 10, none⟩ = some (.int .i64 x10) := (HP_3.out.cell 10).trans rfl
      have cP11 : w3.cell? ⟨w.heap.size + 1, 11, none⟩ = some (.int .i64 x11) := (HP_3.out.cell 11).trans rfl
      have cP12 : w3.cell? ⟨w.heap.size + 1, 12, none⟩ = some (.int .i64 x12) := (HP_3.out.cell 12).trans rfl
      have cP13 : w3.cell? ⟨w.heap.size + 1, 13, none⟩ = some (.bool x13) := (HP_3.out.cell 13).trans rfl
      have lP := HP_3.out.lt
      have cR0 : w3.cell? ⟨w2.heap.size, 0, none⟩ = some (.int .i64 o) := (HR_3.out.cell 0).trans rfl
      have cR1 : w3.cell? ⟨w2.heap.size, 1, none⟩ = some (.int .i64 t) := (HR_3.out.cell 1).trans rfl
      have cR2 : w3.cell? ⟨w2.heap.size, 2, none⟩ = some (.int .i64 c) := (HR_3.out.cell 2).trans rfl
      have cR3 : w3.cell? ⟨w2.heap.size, 3, none⟩ = some (.int .i64 (v + 1)) := (HR_3.out.cell 3).trans rfl
      have lR := HR_3.out.lt
      go_wp2_with fail
      with_reducible refine (From_any ⟨o, t, c, v + 1⟩ _ 1 1 _ _ _ (Kys.one (k := ⟨o, t, c, v⟩) (Has.new w3 23 _)) (fun k hk => by rw [hk]; simp) (by omega)).mono ?_
      rintro e w4 ⟨rfl, hN⟩
      rw [frB_one, Hfr.out]
      have HK_4 := Lib.hid ((HK_3.out.alloc (.cells #[.int .i64 o, .int .i64 t, .int .i64 c, .int .i64 v] 23)).keep hN)
      have HP_4 := Lib.hid ((HP_3.out.alloc (.cells #[.int .i64 o, .int .i64 t, .int .i64 c, .int .i64 v] 23)).keep hN)
      have HR_4 := Lib.hid ((HR_3.out.alloc (.cells #[.int .i64 o, .int .i64 t, .int .i64 c, .int .i64 v] 23)).keep hN)
      have HN_4 := Lib.hid ((HN_3.out.alloc (.cells #[.int .i64 o, .int .i64 t, .int .i64 c, .int .i64 v] 23)).then_new hN)
      clear HK_3 HP_3 HR_3 HN_3 cK0 cK1 cK2 cK3 lK cP0 cP1 cP2 cP3 cP4 cP5 cP6 cP7 cP8 cP9 cP10 cP11 cP12 cP13 lP cR0 cR1 cR2 cR3 lR hN
      by_cases h3 : lp = 3
      · subst h3
        have HPr : Hid (∀ w, Calls Try.prog 20 #[PrV x0 x1 x2 x3 x4 x5 x6 x7 x9 x10 x11 x12 x8 x13] w fun e w' => e = .returned (.tuple #[.agg #[.int .i64 x1, .int .i64 x0, .int .i64 x3, .int .i64 x4], .int .i64 0]) ∧ New w w') := fun w => by have h := HPr0.out w; rw [if_pos rfl, if_pos rfl] at h; exact h
        have cK0 : w4.cell? ⟨w.heap.size, 0, none⟩ = some (.int .i64 o) := (HK_4.out.cell 0).trans rfl
        have cK1 : w4.cell? ⟨w.heap.size, 1, none⟩ = some (.int .i64 t) := (HK_4.out.cell 1).trans rfl
        have cK2 : w4.cell? ⟨w.heap.size, 2, none⟩ = some (.int .i64 c) := (HK_4.out.cell 2).trans rfl
        have cK3 : w4.cell? ⟨w.heap.size, 3, none⟩ = some (.int .i64 v) := (HK_4.out.cell 3).trans rfl
        have lK := HK_4.out.lt
        have cP0 : w4.cell? ⟨w.heap.size + 1, 0, none⟩ = some (.int .i64 x0) := (HP_4.out.cell 0).trans rfl
        have cP1 : w4.cell? ⟨w.heap.size + 1, 1, none⟩ = some (.int .i64 x1) := (HP_4.out.cell 1).trans rfl
        have cP2 : w4.cell? ⟨w.heap.size + 1, 2, none⟩ = some (.int .i64 x2) := (HP_4.out.cell 2).trans rfl
        have cP3 : w4.cell? ⟨w.heap.size + 1, 3, none⟩ = some (.int .i64 x3) := (HP_4.out.cell 3).trans rfl
        have cP4 : w4.cell? ⟨w.heap.size + 1, 4, none⟩ = some (.int .i64 x4) := (HP_4.out.cell 4).trans rfl
        have cP5 : w4.cell? ⟨w.heap.size + 1, 5, none⟩ = some (.int .i64 x5) := (HP_4.out.cell 5).trans rfl
        have cP6 : w4.cell? ⟨w.heap.size + 1, 6, none⟩ = some (.int .i64 x6) := (HP_4.out.cell 6).trans rfl
        have cP7 : w4.cell? ⟨w.heap.size + 1, 7, none⟩ = some (.int .i64 x7) := (HP_4.out.cell 7).trans rfl
        have cP8 : w4.cell? ⟨w.heap.size + 1, 8, none⟩ = some (.bool x8) := (HP_4.out.cell 8).trans rfl
        have cP9 : w4.cell? ⟨w.heap.size + 1, 9, none⟩ = some (.int .i64 x9) := (HP_4.out.cell 9).trans rfl
        have cP10 : w4.cell? ⟨w.heap.size + 1, 10, none⟩ = some (.int .i64 x10) := (HP_4.out.cell 10).trans rfl
        have cP11 : w4.cell? ⟨w.heap.size + 1, 11, none⟩ = some (.int .i64 x11) := (HP_4.out.cell 11).trans rfl
        have cP12 : w4.cell? ⟨w.heap.size + 1, 12, none⟩ = some (.int .i64 x12) := (HP_4.out.cell 12).trans rfl
        have cP13 : w4.cell? ⟨w.heap.size + 1, 13, none⟩ = some (.bool x13) := (HP_4.out.cell 13).trans rfl
        have lP := HP_4.out.lt
        have cR0 : w4.cell? ⟨w2.heap.size, 0, none⟩ = some (.int .i64 o) := (HR_4.out.cell 0).trans rfl
        have cR1 : w4.cell? ⟨w2.heap.size, 1, none⟩ = some (.int .i64 t) := (HR_4.out.cell 1).trans rfl
        have cR2 : w4.cell? ⟨w2.heap.size, 2, none⟩ = some (.int .i64 c) := (HR_4.out.cell 2).trans rfl
        have cR3 : w4.cell? ⟨w2.heap.size, 3, none⟩ = some (.int .i64 (v + 1)) := (HR_4.out.cell 3).trans rfl
        have lR := HR_4.out.lt
        go_wp2_with fail
        with_reducible refine (HPr.out _).mono ?_
        rintro e w5 ⟨rfl, hN⟩
        have HK_5 := Lib.hid ((HK_4.out.alloc (.cells #[.int .i64 x1, .int .i64 x0, .int .i64 x3, .int .i64 x4] 23)).keep hN)
        have HP_5 := Lib.hid ((HP_4.out.alloc (.cells #[.int .i64 x1, .int .i64 x0, .int .i64 x3, .int .i64 x4] 23)).keep hN)
        have HR_5 := Lib.hid ((HR_4.out.alloc (.cells #[.int .i64 x1, .int .i64 x0, .int .i64 x3, .int .i64 x4] 23)).keep hN)
        have HW_5 := Lib.hid ((Has.new_at w4 23 #[.int .i64 x1, .int .i64 x0, .int .i64 x3, .int .i64 x4] (w4.heap.size) (by simp)).keep hN)
        have HN_5 := Lib.hid ((HN_4.out.alloc (.cells #[.int .i64 x1, .int .i64 x0, .int .i64 x3, .int .i64 x4] 23)).then_new hN)
        clear HK_4 HP_4 HR_4 HN_4 cK0 cK1 cK2 cK3 lK cP0 cP1 cP2 cP3 cP4 cP5 cP6 cP7 cP8 cP9 cP10 cP11 cP12 cP13 lP cR0 cR1 cR2 cR3 lR hN
        by_cases h1 : lb = 1
        · subst h1
          have HBa : Hid (∀ w, Calls Try.prog 21 #[.int .i64 o, .int .i64 v] w fun e w' => e = .returned (.tuple #[.agg #[.int .i64 o, .int .i64 0, .int .i64 0, .int .i64 v], .int .i64 0]) ∧ New w w') := fun w => by have h := HBa0.out w; rw [if_pos rfl, if_pos rfl] at h; exact h
          have cK0 : w5.cell? ⟨w.heap.size, 0, none⟩ = some (.int .i64 o) := (HK_5.out.cell 0).trans rfl
          have cK1 : w5.cell? ⟨w.heap.size, 1, none⟩ = some (.int .i64 t) := (HK_5.out.cell 1).trans rfl
          have cK2 : w5.cell? ⟨w.heap.size, 2, none⟩ = some (.int .i64 c) := (HK_5.out.cell 2).trans rfl
          have cK3 : w5.cell? ⟨w.heap.size, 3, none⟩ = some (.int .i64 v) := (HK_5.out.cell 3).trans rfl
          have lK := HK_5.out.lt
          have cP0 : w5.cell? ⟨w.heap.size + 1, 0, none⟩ = some (.int .i64 x0) := (HP_5.out.cell 0).trans rfl
          have cP1 : w5.cell? ⟨w.heap.size + 1, 1, none⟩ = some (.int .i64 x1) := (HP_5.out.cell 1).trans rfl
          have cP2 : w5.cell? ⟨w.heap.size + 1, 2, none⟩ = some (.int .i64 x2) := (HP_5.out.cell 2).trans rfl
          have cP3 : w5.cell? ⟨w.heap.size + 1, 3, none⟩ = some (.int .i64 x3) := (HP_5.out.cell 3).trans rfl
          have cP4 : w5.cell? ⟨w.heap.size + 1, 4, none⟩ = some (.int .i64 x4) := (HP_5.out.cell 4).trans rfl
          have cP5 : w5.cell? ⟨w.heap.size + 1, 5, none⟩ = some (.int .i64 x5) := (HP_5.out.cell 5).trans rfl
          have cP6 : w5.cell? ⟨w.heap.size + 1, 6, none⟩ = some (.int .i64 x6) := (HP_5.out.cell 6).trans rfl
          have cP7 : w5.cell? ⟨w.heap.size + 1, 7, none⟩ = some (.int .i64 x7) := (HP_5.out.cell 7).trans rfl
          have cP8 : w5.cell? ⟨w.heap.size + 1, 8, none⟩ = some (.bool x8) := (HP_5.out.cell 8).trans rfl
          have cP9 : w5.cell? ⟨w.heap.size + 1, 9, none⟩ = some (.int .i64 x9) := (HP_5.out.cell 9).trans rfl
          have cP10 : w5.cell? ⟨w.heap.size + 1, 10, none⟩ = some (.int .i64 x10) := (HP_5.out.cell 10).trans rfl
          have cP11 : w5.cell? ⟨w.heap.size + 1, 11, none⟩ = some (.int .i64 x11) := (HP_5.out.cell 11).trans rfl
          have cP12 : w5.cell? ⟨w.heap.size + 1, 12, none⟩ = some (.int .i64 x12) := (HP_5.out.cell 12).trans rfl
          have cP13 : w5.cell? ⟨w.heap.size + 1, 13, none⟩ = some (.bool x13) := (HP_5.out.cell 13).trans rfl
          have lP := HP_5.out.lt
          have cR0 : w5.cell? ⟨w2.heap.size, 0, none⟩ = some (.int .i64 o) := (HR_5.out.cell 0).trans rfl
          have cR1 : w5.cell? ⟨w2.heap.size, 1, none⟩ = some (.int .i64 t) := (HR_5.out.cell 1).trans rfl
          have cR2 : w5.cell? ⟨w2.heap.size, 2, none⟩ = some (.int .i64 c) := (HR_5.out.cell 2).trans rfl
          have cR3 : w5.cell? ⟨w2.heap.size, 3, none⟩ = some (.int .i64 (v + 1)) := (HR_5.out.cell 3).trans rfl
          have lR := HR_5.out.lt
          have cW0 : w5.cell? ⟨w4.heap.size, 0, none⟩ = some (.int .i64 x1) := (HW_5.out.cell 0).trans rfl
          have cW1 : w5.cell? ⟨w4.heap.size, 1, none⟩ = some (.int .i64 x0) := (HW_5.out.cell 1).trans rfl
          have cW2 : w5.cell? ⟨w4.heap.size, 2, none⟩ = some (.int .i64 x3) := (HW_5.out.cell 2).trans rfl
          have cW3 : w5.cell? ⟨w4.heap.size, 3, none⟩ = some (.int .i64 x4) := (HW_5.out.cell 3).trans rfl
          have lW := HW_5.out.lt
          go_wp2_with fail
          with_reducible refine (HBa.out _).mono ?_
          rintro e w6 ⟨rfl, hN⟩
          have HK_6 := Lib.hid ((HK_5.out.alloc (.cells #[.int .i64 x1, .int .i64 x0, .int .i64 x3, .int .i64 x4] 23)).keep hN)
          have HP_6 := Lib.hid ((HP_5.out.alloc (.cells #[.int .i64 x1, .int .i64 x0, .int .i64 x3, .int .i64 x4] 23)).keep hN)
          have HR_6 := Lib.hid ((HR_5.out.alloc (.cells #[.int .i64 x1, .int .i64 x0, .int .i64 x3, .int .i64 x4] 23)).keep hN)
          have HW_6 := Lib.hid ((HW_5.out.alloc (.cells #[.int .i64 x1, .int .i64 x0, .int .i64 x3, .int .i64 x4] 23)).keep hN)
          have HX_6 := Lib.hid ((Has.new_at w5 23 #[.int .i64 x1, .int .i64 x0, .int .i64 x3, .int .i64 x4] (w5.heap.size) (by simp)).keep hN)
          have HN_6 := Lib.hid ((HN_5.out.alloc (.cells #[.int .i64 x1, .int .i64 x0, .int .i64 x3, .int .i64 x4] 23)).then_new hN)
          clear HK_5 HP_5 HR_5 HW_5 HN_5 cK0 cK1 cK2 cK3 lK cP0 cP1 cP2 cP3 cP4 cP5 cP6 cP7 cP8 cP9 cP10 cP11 cP12 cP13 lP cR0 cR1 cR2 cR3 lR cW0 cW1 cW2 cW3 lW hN
          have cK0 : w6.cell? ⟨w.heap.size, 0, none⟩ = some (.int .i64 o) := (HK_6.out.cell 0).trans rfl
          have cK1 : w6.cell? ⟨w.heap.size, 1, none⟩ = some (.int .i64 t) := (HK_6.out.cell 1).trans rfl
          have cK2 : w6.cell? ⟨w.heap.size, 2, none⟩ = some (.int .i64 c) := (HK_6.out.cell 2).trans rfl
          have cK3 : w6.cell? ⟨w.heap.size, 3, none⟩ = some (.int .i64 v) := (HK_6.out.cell 3).trans rfl
          have lK := HK_6.out.lt
          have cP0 : w6.cell? ⟨w.heap.size + 1, 0, none⟩ = some (.int .i64 x0) := (HP_6.out.cell 0).trans rfl
          have cP1 : w6.cell? ⟨w.heap.size + 1, 1, none⟩ = some (.int .i64 x1) := (HP_6.out.cell 1).trans rfl
          have cP2 : w6.cell? ⟨w.heap.size + 1, 2, none⟩ = some (.int .i64 x2) := (HP_6.out.cell 2).trans rfl
          have cP3 : w6.cell? ⟨w.heap.size + 1, 3, none⟩ = some (.int .i64 x3) := (HP_6.out.cell 3).trans rfl
          have cP4 : w6.cell? ⟨w.heap.size + 1, 4, none⟩ = some (.int .i64 x4) := (HP_6.out.cell 4).trans rfl
          have cP5 : w6.cell? ⟨w.heap.size + 1, 5, none⟩ = some (.int .i64 x5) := (HP_6.out.cell 5).trans rfl
          have cP6 : w6.cell? ⟨w.heap.size + 1, 6, none⟩ = some (.int .i64 x6) := (HP_6.out.cell 6).trans rfl
          have cP7 : w6.cell? ⟨w.heap.size + 1, 7, none⟩ = some (.int .i64 x7) := (HP_6.out.cell 7).trans rfl
          have cP8 : w6.cell? ⟨w.heap.size + 1, 8, none⟩ = some (.bool x8) := (HP_6.out.cell 8).trans rfl
          have cP9 : w6.cell? ⟨w.heap.size + 1, 9, none⟩ = some (.int .i64 x9) := (HP_6.out.cell 9).trans rfl
          have cP10 : w6.cell? ⟨w.heap.size + 1, 10, none⟩ = some (.int .i64 x10) := (HP_6.out.cell 10).trans rfl
          have cP11 : w6.cell? ⟨w.heap.size + 1, 11, none⟩ = some (.int .i64 x11) := (HP_6.out.cell 11).trans rfl
          have cP12 : w6.cell? ⟨w.heap.size + 1, 12, none⟩ = some (.int .i64 x12) := (HP_6.out.cell 12).trans rfl
          have cP13 : w6.cell? ⟨w.heap.size + 1, 13, none⟩ = some (.bool x13) := (HP_6.out.cell 13).trans rfl
          have lP := HP_6.out.lt
          have cR0 : w6.cell? ⟨w2.heap.size, 0, none⟩ = some (.int .i64 o) := (HR_6.out.cell 0).trans rfl
          have cR1 : w6.cell? ⟨w2.heap.size, 1, none⟩ = some (.int .i64 t) := (HR_6.out.cell 1).trans rfl
          have cR2 : w6.cell? ⟨w2.heap.size, 2, none⟩ = some (.int .i64 c) := (HR_6.out.cell 2).trans rfl
          have cR3 : w6.cell? ⟨w2.heap.size, 3, none⟩ = some (.int .i64 (v + 1)) := (HR_6.out.cell 3).trans rfl
          have lR := HR_6.out.lt
          have cW0 : w6.cell? ⟨w4.heap.size, 0, none⟩ = some (.int .i64 x1) := (HW_6.out.cell 0).trans rfl
          have cW1 : w6.cell? ⟨w4.heap.size, 1, none⟩ = some (.int .i64 x0) := (HW_6.out.cell 1).trans rfl
          have cW2 : w6.cell? ⟨w4.heap.size, 2, none⟩ = some (.int .i64 x3) := (HW_6.out.cell 2).trans rfl
          have cW3 : w6.cell? ⟨w4.heap.size, 3, none⟩ = some (.int .i64 x4) := (HW_6.out.cell 3).trans rfl
          have lW := HW_6.out.lt
          have cX0 : w6.cell? ⟨w5.heap.size, 0, none⟩ = some (.int .i64 x1) := (HX_6.out.cell 0).trans rfl
          have cX1 : w6.cell? ⟨w5.heap.size, 1, none⟩ = some (.int .i64 x0) := (HX_6.out.cell 1).trans rfl
          have cX2 : w6.cell? ⟨w5.heap.size, 2, none⟩ = some (.int .i64 x3) := (HX_6.out.cell 2).trans rfl
          have cX3 : w6.cell? ⟨w5.heap.size, 3, none⟩ = some (.int .i64 x4) := (HX_6.out.cell 3).trans rfl
          have lX := HX_6.out.lt
          go_wp2_with fail
          with_reducible refine (HLw.out _).mono ?_
          rintro e w7 ⟨rfl, hN⟩
          have HK_7 := Lib.hid ((HK_6.out.alloc (.cells #[.int .i64 o, .int .i64 0, .int .i64 0, .int .i64 v] 23)).keep hN)
          have HP_7 := Lib.hid ((HP_6.out.alloc (.cells #[.int .i64 o, .int .i64 0, .int .i64 0, .int .i64 v] 23)).keep hN)
          have HR_7 := Lib.hid ((HR_6.out.alloc (.cells #[.int .i64 o, .int .i64 0, .int .i64 0, .int .i64 v] 23)).keep hN)
          have HW_7 := Lib.hid ((HW_6.out.alloc (.cells #[.int .i64 o, .int .i64 0, .int .i64 0, .int .i64 v] 23)).keep hN)
          have HX_7 := Lib.hid ((HX_6.out.alloc (.cells #[.int .i64 o, .int .i64 0, .int .i64 0, .int .i64 v] 23)).keep hN)
          have HY_7 := Lib.hid ((Has.new_at w6 23 #[.int .i64 o, .int .i64 0, .int .i64 0, .int .i64 v] (w6.heap.size) (by simp)).keep hN)
          have HN_7 := Lib.hid ((HN_6.out.alloc (.cells #[.int .i64 o, .int .i64 0, .int .i64 0, .int .i64 v] 23)).then_new hN)
          clear HK_6 HP_6 HR_6 HW_6 HX_6 HN_6 cK0 cK1 cK2 cK3 lK cP0 cP1 cP2 cP3 cP4 cP5 cP6 cP7 cP8 cP9 cP10 cP11 cP12 cP13 lP cR0 cR1 cR2 cR3 lR cW0 cW1 cW2 cW3 lW cX0 cX1 cX2 cX3 lX hN
          have cK0 : w7.cell? ⟨w.heap.size, 0, none⟩ = some (.int .i64 o) := (HK_7.out.cell 0).trans rfl
          have cK1 : w7.cell? ⟨w.heap.size, 1, none⟩ = some (.int .i64 t) := (HK_7.out.cell 1).trans rfl
          have cK2 : w7.cell? ⟨w.heap.size, 2, none⟩ = some (.int .i64 c) := (HK_7.out.cell 2).trans rfl
          have cK3 : w7.cell? ⟨w.heap.size, 3, none⟩ = some (.int .i64 v) := (HK_7.out.cell 3).trans rfl
          have lK := HK_7.out.lt
          have cP0 : w7.cell? ⟨w.heap.size + 1, 0, none⟩ = some (.int .i64 x0) := (HP_7.out.cell 0).trans rfl
          have cP1 : w7.cell? ⟨w.heap.size + 1, 1, none⟩ = some (.int .i64 x1) := (HP_7.out.cell 1).trans rfl
          have cP2 : w7.cell? ⟨w.heap.size + 1, 2, none⟩ = some (.int .i64 x2) := (HP_7.out.cell 2).trans rfl
          have cP3 : w7.cell? ⟨w.heap.size + 1, 3, none⟩ = some (.int .i64 x3) := (HP_7.out.cell 3).trans rfl
          have cP4 : w7.cell? ⟨w.heap.size + 1, 4, none⟩ = some (.int .i64 x4) := (HP_7.out.cell 4).trans rfl
          have cP5 : w7.cell? ⟨w.heap.size + 1, 5, none⟩ = some (.int .i64 x5) := (HP_7.out.cell 5).trans rfl
          have cP6 : w7.cell? ⟨w.heap.size + 1, 6, none⟩ = some (.int .i64 x6) := (HP_7.out.cell 6).trans rfl
          have cP7 : w7.cell? ⟨w.heap.size + 1, 7, none⟩ = some (.int .i64 x7) := (HP_7.out.cell 7).trans rfl
          have cP8 : w7.cell? ⟨w.heap.size + 1, 8, none⟩ = some (.bool x8) := (HP_7.out.cell 8).trans rfl
          have cP9 : w7.cell? ⟨w.heap.size + 1, 9, none⟩ = some (.int .i64 x9) := (HP_7.out.cell 9).trans rfl
          have cP10 : w7.cell? ⟨w.heap.size + 1, 10, none⟩ = some (.int .i64 x10) := (HP_7.out.cell 10).trans rfl
          have cP11 : w7.cell? ⟨w.heap.size + 1, 11, none⟩ = some (.int .i64 x11) := (HP_7.out.cell 11).trans rfl
          have cP12 : w7.cell? ⟨w.heap.size + 1, 12, none⟩ = some (.int .i64 x12) := (HP_7.out.cell 12).trans rfl
          have cP13 : w7.cell? ⟨w.heap.size + 1, 13, none⟩ = some (.bool x13) := (HP_7.out.cell 13).trans rfl
          have lP := HP_7.out.lt
          have cR0 : w7.cell? ⟨w2.heap.size, 0, none⟩ = some (.int .i64 o) := (HR_7.out.cell 0).trans rfl
          have cR1 : w7.cell? ⟨w2.heap.size, 1, none⟩ = some (.int .i64 t) := (HR_7.out.cell 1).trans rfl
          have cR2 : w7.cell? ⟨w2.heap.size, 2, none⟩ = some (.int .i64 c) := (HR_7.out.cell 2).trans rfl
          have cR3 : w7.cell? ⟨w2.heap.size, 3, none⟩ = some (.int .i64 (v + 1)) := (HR_7.out.cell 3).trans rfl
          have lR := HR_7.out.lt
          have cW0 : w7.cell? ⟨w4.heap.size, 0, none⟩ = some (.int .i64 x1) := (HW_7.out.cell 0).trans rfl
          have cW1 : w7.cell? ⟨w4.heap.size, 1, none⟩ = some (.int .i64 x0) := (HW_7.out.cell 1).trans rfl
          have cW2 : w7.cell? ⟨w4.heap.size, 2, none⟩ = some (.int .i64 x3) := (HW_7.out.cell 2).trans rfl
          have cW3 : w7.cell? ⟨w4.heap.size, 3, none⟩ = some (.int .i64 x4) := (HW_7.out.cell 3).trans rfl
          have lW := HW_7.out.lt
          have cX0 : w7.cell? ⟨w5.heap.size, 0, none⟩ = some (.int .i64 x1) := (HX_7.out.cell 0).trans rfl
          have cX1 : w7.cell? ⟨w5.heap.size, 1, none⟩ = some (.int .i64 x0) := (HX_7.out.cell 1).trans rfl
          have cX2 : w7.cell? ⟨w5.heap.size, 2, none⟩ = some (.int .i64 x3) := (HX_7.out.cell 2).trans rfl
          have cX3 : w7.cell? ⟨w5.heap.size, 3, none⟩ = some (.int .i64 x4) := (HX_7.out.cell 3).trans rfl
          have lX := HX_7.out.lt
          have cY0 : w7.cell? ⟨w6.heap.size, 0, none⟩ = some (.int .i64 o) := (HY_7.out.cell 0).trans rfl
          have cY1 : w7.cell? ⟨w6.heap.size, 1, none⟩ = some (.int .i64 0) := (HY_7.out.cell 1).trans rfl
          have cY2 : w7.cell? ⟨w6.heap.size, 2, none⟩ = some (.int .i64 0) := (HY_7.out.cell 2).trans rfl
          have cY3 : w7.cell? ⟨w6.heap.size, 3, none⟩ = some (.int .i64 v) := (HY_7.out.cell 3).trans rfl
          have lY := HY_7.out.lt
          go_wp2_with fail
          with_reducible refine (HLb.out _).mono ?_
          rintro e w8 ⟨rfl, hN⟩
          have HK_8 := Lib.hid ((HK_7.out.alloc (.cells #[.int .i64 o, .int .i64 0, .int .i64 0, .int .i64 v] 23)).keep hN)
          have HP_8 := Lib.hid ((HP_7.out.alloc (.cells #[.int .i64 o, .int .i64 0, .int .i64 0, .int .i64 v] 23)).keep hN)
          have HR_8 := Lib.hid ((HR_7.out.alloc (.cells #[.int .i64 o, .int .i64 0, .int .i64 0, .int .i64 v] 23)).keep hN)
          have HW_8 := Lib.hid ((HW_7.out.alloc (.cells #[.int .i64 o, .int .i64 0, .int .i64 0, .int .i64 v] 23)).keep hN)
          have HX_8 := Lib.hid ((HX_7.out.alloc (.cells #[.int .i64 o, .int .i64 0, .int .i64 0, .int .i64 v] 23)).keep hN)
          have HY_8 := Lib.hid ((HY_7.out.alloc (.cells #[.int .i64 o, .int .i64 0, .int .i64 0, .int .i64 v] 23)).keep hN)
          have HB_8 := Lib.hid ((Has.new_at w7 23 #[.int .i64 o, .int .i64 0, .int .i64 0, .int .i64 v] (w7.heap.size) (by simp)).keep hN)
          have HN_8 := Lib.hid ((HN_7.out.alloc (.cells #[.int .i64 o, .int .i64 0, .int .i64 0, .int .i64 v] 23)).then_new hN)
          clear HK_7 HP_7 HR_7 HW_7 HX_7 HY_7 HN_7 cK0 cK1 cK2 cK3 lK cP0 cP1 cP2 cP3 cP4 cP5 cP6 cP7 cP8 cP9 cP10 cP11 cP12 cP13 lP cR0 cR1 cR2 cR3 lR cW0 cW1 cW2 cW3 lW cX0 cX1 cX2 cX3 lX cY0 cY1 cY2 cY3 lY hN
          have cK0 : w8.cell? ⟨w.heap.size, 0, none⟩ = some (.int .i64 o) := (HK_8.out.cell 0).trans rfl
          have cK1 : w8.cell? ⟨w.heap.size, 1, none⟩ = some (.int .i64 t) := (HK_8.out.cell 1).trans rfl
          have cK2 : w8.cell? ⟨w.heap.size, 2, none⟩ = some (.int .i64 c) := (HK_8.out.cell 2).trans rfl
          have cK3 : w8.cell? ⟨w.heap.size, 3, none⟩ = some (.int .i64 v) := (HK_8.out.cell 3).trans rfl
          have lK := HK_8.out.lt
          have cP0 : w8.cell? ⟨w.heap.size + 1, 0, none⟩ = some (.int .i64 x0) := (HP_8.out.cell 0).trans rfl
          have cP1 : w8.cell? ⟨w.heap.size + 1, 1, none⟩ = some (.int .i64 x1) := (HP_8.out.cell 1).trans rfl
          have cP2 : w8.cell? ⟨w.heap.size + 1, 2, none⟩ = some (.int .i64 x2) := (HP_8.out.cell 2).trans rfl
          have cP3 : w8.cell? ⟨w.heap.size + 1, 3, none⟩ = some (.int .i64 x3) := (HP_8.out.cell 3).trans rfl
          have cP4 : w8.cell? ⟨w.heap.size + 1, 4, none⟩ = some (.int .i64 x4) := (HP_8.out.cell 4).trans rfl
          have cP5 : w8.cell? ⟨w.heap.size + 1, 5, none⟩ = some (.int .i64 x5) := (HP_8.out.cell 5).trans rfl
          have cP6 : w8.cell? ⟨w.heap.size + 1, 6, none⟩ = some (.int .i64 x6) := (HP_8.out.cell 6).trans rfl
          have cP7 : w8.cell? ⟨w.heap.size + 1, 7, none⟩ = some (.int .i64 x7) := (HP_8.out.cell 7).trans rfl
          have cP8 : w8.cell? ⟨w.heap.size + 1, 8, none⟩ = some (.bool x8) := (HP_8.out.cell 8).trans rfl
          have cP9 : w8.cell? ⟨w.heap.size + 1, 9, none⟩ = some (.int .i64 x9) := (HP_8.out.cell 9).trans rfl
          have cP10 : w8.cell? ⟨w.heap.size + 1, 10, none⟩ = some (.int .i64 x10) := (HP_8.out.cell 10).trans rfl
          have cP11 : w8.cell? ⟨w.heap.size + 1, 11, none⟩ = some (.int .i64 x11) := (HP_8.out.cell 11).trans rfl
          have cP12 : w8.cell? ⟨w.heap.size + 1, 12, none⟩ = some (.int .i64 x12) := (HP_8.out.cell 12).trans rfl
          have cP13 : w8.cell? ⟨w.heap.size + 1, 13, none⟩ = some (.bool x13) := (HP_8.out.cell 13).trans rfl
          have lP := HP_8.out.lt
          have cR0 : w8.cell? ⟨w2.heap.size, 0, none⟩ = some (.int .i64 o) := (HR_8.out.cell 0).trans rfl
          have cR1 : w8.cell? ⟨w2.heap.size, 1, none⟩ = some (.int .i64 t) := (HR_8.out.cell 1).trans rfl
          have cR2 : w8.cell? ⟨w2.heap.size, 2, none⟩ = some (.int .i64 c) := (HR_8.out.cell 2).trans rfl
          have cR3 : w8.cell? ⟨w2.heap.size, 3, none⟩ = some (.int .i64 (v + 1)) := (HR_8.out.cell 3).trans rfl
          have lR := HR_8.out.lt
          have cW0 : w8.cell? ⟨w4.heap.size, 0, none⟩ = some (.int .i64 x1) := (HW_8.out.cell 0).trans rfl
          have cW1 : w8.cell? ⟨w4.heap.size, 1, none⟩ = some (.int .i64 x0) := (HW_8.out.cell 1).trans rfl
          have cW2 : w8.cell? ⟨w4.heap.size, 2, none⟩ = some (.int .i64 x3) := (HW_8.out.cell 2).trans rfl
          have cW3 : w8.cell? ⟨w4.heap.size, 3, none⟩ = some (.int .i64 x4) := (HW_8.out.cell 3).trans rfl
          have lW := HW_8.out.lt
          have cX0 : w8.cell? ⟨w5.heap.size, 0, none⟩ = some (.int .i64 x1) := (HX_8.out.cell 0).trans rfl
          have cX1 : w8.cell? ⟨w5.heap.size, 1, none⟩ = some (.int .i64 x0) := (HX_8.out.cell 1).trans rfl
          have cX2 : w8.cell? ⟨w5.heap.size, 2, none⟩ = some (.int .i64 x3) := (HX_8.out.cell 2).trans rfl
          have cX3 : w8.cell? ⟨w5.heap.size, 3, none⟩ = some (.int .i64 x4) := (HX_8.out.cell 3).trans rfl
          have lX := HX_8.out.lt
          have cY0 : w8.cell? ⟨w6.heap.size, 0, none⟩ = some (.int .i64 o) := (HY_8.out.cell 0).trans rfl
          have cY1 : w8.cell? ⟨w6.heap.size, 1, none⟩ = some (.int .i64 0) := (HY_8.out.cell 1).trans rfl
          have cY2 : w8.cell? ⟨w6.heap.size, 2, none⟩ = some (.int .i64 0) := (HY_8.out.cell 2).trans rfl
          have cY3 : w8.cell? ⟨w6.heap.size, 3, none⟩ = some (.int .i64 v) := (HY_8.out.cell 3).trans rfl
          have lY := HY_8.out.lt
          have cB0 : w8.cell? ⟨w7.heap.size, 0, none⟩ = some (.int .i64 o) := (HB_8.out.cell 0).trans rfl
          have cB1 : w8.cell? ⟨w7.heap.size, 1, none⟩ = some (.int .i64 0) := (HB_8.out.cell 1).trans rfl
          have cB2 : w8.cell? ⟨w7.heap.size, 2, none⟩ = some (.int .i64 0) := (HB_8.out.cell 2).trans rfl
          have cB3 : w8.cell? ⟨w7.heap.size, 3, none⟩ = some (.int .i64 v) := (HB_8.out.cell 3).trans rfl
          have lB := HB_8.out.lt
          go_wp2_with fail
          go_ret
          exact ⟨rfl, HN_8.out⟩
        · have h1' : (lb == 1) = false := beq_eq_false_iff_ne.2 h1
          have HBa : Hid (∀ w, Calls Try.prog 21 #[.int .i64 o, .int .i64 v] w fun e w' => e = .returned (.tuple #[.agg #[.int .i64 0, .int .i64 0, .int .i64 0, .int .i64 0], .int .i64 2]) ∧ New w w') := fun w => by have h := HBa0.out w; rw [if_neg h1, if_neg h1] at h; exact h
          clear h1
          have cK0 : w5.cell? ⟨w.heap.size, 0, none⟩ = some (.int .i64 o) := (HK_5.out.cell 0).trans rfl
          have cK1 : w5.cell? ⟨w.heap.size, 1, none⟩ = some (.int .i64 t) := (HK_5.out.cell 1).trans rfl
          have cK2 : w5.cell? ⟨w.heap.size, 2, none⟩ = some (.int .i64 c) := (HK_5.out.cell 2).trans rfl
          have cK3 : w5.cell? ⟨w.heap.size, 3, none⟩ = some (.int .i64 v) := (HK_5.out.cell 3).trans rfl
          have lK := HK_5.out.lt
          have cP0 : w5.cell? ⟨w.heap.size + 1, 0, none⟩ = some (.int .i64 x0) := (HP_5.out.cell 0).trans rfl
          have cP1 : w5.cell? ⟨w.heap.size + 1, 1, none⟩ = some (.int .i64 x1) := (HP_5.out.cell 1).trans rfl
          have cP2 : w5.cell? ⟨w.heap.size + 1, 2, none⟩ = some (.int .i64 x2) := (HP_5.out.cell 2).trans rfl
          have cP3 : w5.cell? ⟨w.heap.size + 1, 3, none⟩ = some (.int .i64 x3) := (HP_5.out.cell 3).trans rfl
          have cP4 : w5.cell? ⟨w.heap.size + 1, 4, none⟩ = some (.int .i64 x4) := (HP_5.out.cell 4).trans rfl
          have cP5 : w5.cell? ⟨w.heap.size + 1, 5, none⟩ = some (.int .i64 x5) := (HP_5.out.cell 5).trans rfl
          have cP6 : w5.cell? ⟨w.heap.size + 1, 6, none⟩ = some (.int .i64 x6) := (HP_5.out.cell 6).trans rfl
          have cP7 : w5.cell? ⟨w.heap.size + 1, 7, none⟩ = some (.int .i64 x7) := (HP_5.out.cell 7).trans rfl
          have cP8 : w5.cell? ⟨w.heap.size + 1, 8, none⟩ = some (.bool x8) := (HP_5.out.cell 8).trans rfl
          have cP9 : w5.cell? ⟨w.heap.size + 1, 9, none⟩ = some (.int .i64 x9) := (HP_5.out.cell 9).trans rfl
          have cP10 : w5.cell? ⟨w.heap.size + 1, 10, none⟩ = some (.int .i64 x10) := (HP_5.out.cell 10).trans rfl
          have cP11 : w5.cell? ⟨w.heap.size + 1, 11, none⟩ = some (.int .i64 x11) := (HP_5.out.cell 11).trans rfl
          have cP12 : w5.cell? ⟨w.heap.size + 1, 12, none⟩ = some (.int .i64 x12) := (HP_5.out.cell 12).trans rfl
          have cP13 : w5.cell? ⟨w.heap.size + 1, 13, none⟩ = some (.bool x13) := (HP_5.out.cell 13).trans rfl
          have lP := HP_5.out.lt
          have cR0 : w5.cell? ⟨w2.heap.size, 0, none⟩ = some (.int .i64 o) := (HR_5.out.cell 0).trans rfl
          have cR1 : w5.cell? ⟨w2.heap.size, 1, none⟩ = some (.int .i64 t) := (HR_5.out.cell 1).trans rfl
          have cR2 : w5.cell? ⟨w2.heap.size, 2, none⟩ = some (.int .i64 c) := (HR_5.out.cell 2).trans rfl
          have cR3 : w5.cell? ⟨w2.heap.size, 3, none⟩ = some (.int .i64 (v + 1)) := (HR_5.out.cell 3).trans rfl
          have lR := HR_5.out.lt
          have cW0 : w5.cell? ⟨w4.heap.size, 0, none⟩ = some (.int .i64 x1) := (HW_5.out.cell 0).trans rfl
          have cW1 : w5.cell? ⟨w4.heap.size, 1, none⟩ = some (.int .i64 x0) := (HW_5.out.cell 1).trans rfl
          have cW2 : w5.cell? ⟨w4.heap.size, 2, none⟩ = some (.int .i64 x3) := (HW_5.out.cell 2).trans rfl
          have cW3 : w5.cell? ⟨w4.heap.size, 3, none⟩ = some (.int .i64 x4) := (HW_5.out.cell 3).trans rfl
          have lW := HW_5.out.lt
          go_wp2_with fail
          with_reducible refine (HBa.out _).mono ?_
          rintro e w6 ⟨rfl, hN⟩
          have HK_6 := Lib.hid ((HK_5.out.alloc (.cells #[.int .i64 x1, .int .i64 x0, .int .i64 x3, .int .i64 x4] 23)).keep hN)
          have HP_6 := Lib.hid ((HP_5.out.alloc (.cells #[.int .i64 x1, .int .i64 x0, .int .i64 x3, .int .i64 x4] 23)).keep hN)
          have HR_6 := Lib.hid ((HR_5.out.alloc (.cells #[.int .i64 x1, .int .i64 x0, .int .i64 x3, .int .i64 x4] 23)).keep hN)
          have HW_6 := Lib.hid ((HW_5.out.alloc (.cells #[.int .i64 x1, .int .i64 x0, .int .i64 x3, .int .i64 x4] 23)).keep hN)
          have HX_6 := Lib.hid ((Has.new_at w5 23 #[.int .i64 x1, .int .i64 x0, .int .i64 x3, .int .i64 x4] (w5.heap.size) (by simp)).keep hN)
          have HN_6 := Lib.hid ((HN_5.out.alloc (.cells #[.int .i64 x1, .int .i64 x0, .int .i64 x3, .int .i64 x4] 23)).then_new hN)
          clear HK_5 HP_5 HR_5 HW_5 HN_5 cK0 cK1 cK2 cK3 lK cP0 cP1 cP2 cP3 cP4 cP5 cP6 cP7 cP8 cP9 cP10 cP11 cP12 cP13 lP cR0 cR1 cR2 cR3 lR cW0 cW1 cW2 cW3 lW hN
          have cK0 : w6.cell? ⟨w.heap.size, 0, none⟩ = some (.int .i64 o) := (HK_6.out.cell 0).trans rfl
          have cK1 : w6.cell? ⟨w.heap.size, 1, none⟩ = some (.int .i64 t) := (HK_6.out.cell 1).trans rfl
          have cK2 : w6.cell? ⟨w.heap.size, 2, none⟩ = some (.int .i64 c) := (HK_6.out.cell 2).trans rfl
          have cK3 : w6.cell? ⟨w.heap.size, 3, none⟩ = some (.int .i64 v) := (HK_6.out.cell 3).trans rfl
          have lK := HK_6.out.lt
          have cP0 : w6.cell? ⟨w.heap.size + 1, 0, none⟩ = some (.int .i64 x0) := (HP_6.out.cell 0).trans rfl
          have cP1 : w6.cell? ⟨w.heap.size + 1, 1, none⟩ = some (.int .i64 x1) := (HP_6.out.cell 1).trans rfl
          have cP2 : w6.cell? ⟨w.heap.size + 1, 2, none⟩ = some (.int .i64 x2) := (HP_6.out.cell 2).trans rfl
          have cP3 : w6.cell? ⟨w.heap.size + 1, 3, none⟩ = some (.int .i64 x3) := (HP_6.out.cell 3).trans rfl
          have cP4 : w6.cell? ⟨w.heap.size + 1, 4, none⟩ = some (.int .i64 x4) := (HP_6.out.cell 4).trans rfl
          have cP5 : w6.cell? ⟨w.heap.size + 1, 5, none⟩ = some (.int .i64 x5) := (HP_6.out.cell 5).trans rfl
          have cP6 : w6.cell? ⟨w.heap.size + 1, 6, none⟩ = some (.int .i64 x6) := (HP_6.out.cell 6).trans rfl
          have cP7 : w6.cell? ⟨w.heap.size + 1, 7, none⟩ = some (.int .i64 x7) := (HP_6.out.cell 7).trans rfl
          have cP8 : w6.cell? ⟨w.heap.size + 1, 8, none⟩ = some (.bool x8) := (HP_6.out.cell 8).trans rfl
          have cP9 : w6.cell? ⟨w.heap.size + 1, 9, none⟩ = some (.int .i64 x9) := (HP_6.out.cell 9).trans rfl
          have cP10 : w6.cell? ⟨w.heap.size + 1, 10, none⟩ = some (.int .i64 x10) := (HP_6.out.cell 10).trans rfl
          have cP11 : w6.cell? ⟨w.heap.size + 1, 11, none⟩ = some (.int .i64 x11) := (HP_6.out.cell 11).trans rfl
          have cP12 : w6.cell? ⟨w.heap.size + 1, 12, none⟩ = some (.int .i64 x12) := (HP_6.out.cell 12).trans rfl
          have cP13 : w6.cell? ⟨w.heap.size + 1, 13, none⟩ = some (.bool x13) := (HP_6.out.cell 13).trans rfl
          have lP := HP_6.out.lt
          have cR0 : w6.cell? ⟨w2.heap.size, 0, none⟩ = some (.int .i64 o) := (HR_6.out.cell 0).trans rfl
          have cR1 : w6.cell? ⟨w2.heap.size, 1, none⟩ = some (.int .i64 t) := (HR_6.out.cell 1).trans rfl
          have cR2 : w6.cell? ⟨w2.heap.size, 2, none⟩ = some (.int .i64 c) := (HR_6.out.cell 2).trans rfl
          have cR3 : w6.cell? ⟨w2.heap.size, 3, none⟩ = some (.int .i64 (v + 1)) := (HR_6.out.cell 3).trans rfl
          have lR := HR_6.out.lt
          have cW0 : w6.cell? ⟨w4.heap.size, 0, none⟩ = some (.int .i64 x1) := (HW_6.out.cell 0).trans rfl
          have cW1 : w6.cell? ⟨w4.heap.size, 1, none⟩ = some (.int .i64 x0) := (HW_6.out.cell 1).trans rfl
          have cW2 : w6.cell? ⟨w4.heap.size, 2, none⟩ = some (.int .i64 x3) := (HW_6.out.cell 2).trans rfl
          have cW3 : w6.cell? ⟨w4.heap.size, 3, none⟩ = some (.int .i64 x4) := (HW_6.out.cell 3).trans rfl
          have lW := HW_6.out.lt
          have cX0 : w6.cell? ⟨w5.heap.size, 0, none⟩ = some (.int .i64 x1) := (HX_6.out.cell 0).trans rfl
          have cX1 : w6.cell? ⟨w5.heap.size, 1, none⟩ = some (.int .i64 x0) := (HX_6.out.cell 1).trans rfl
          have cX2 : w6.cell? ⟨w5.heap.size, 2, none⟩ = some (.int .i64 x3) := (HX_6.out.cell 2).trans rfl
          have cX3 : w6.cell? ⟨w5.heap.size, 3, none⟩ = some (.int .i64 x4) := (HX_6.out.cell 3).trans rfl
          have lX := HX_6.out.lt
          go_wp2_with fail
          with_reducible refine (HLw.out _).mono ?_
          rintro e w7 ⟨rfl, hN⟩
          have HK_7 := Lib.hid ((HK_6.out.alloc (.cells #[.int .i64 0, .int .i64 0, .int .i64 0, .int .i64 0] 23)).keep hN)
          have HP_7 := Lib.hid ((HP_6.out.alloc (.cells #[.int .i64 0, .int .i64 0, .int .i64 0, .int .i64 0] 23)).keep hN)
          have HR_7 := Lib.hid ((HR_6.out.alloc (.cells #[.int .i64 0, .int .i64 0, .int .i64 0, .int .i64 0] 23)).keep hN)
          have HW_7 := Lib.hid ((HW_6.out.alloc (.cells #[.int .i64 0, .int .i64 0, .int .i64 0, .int .i64 0] 23)).keep hN)
          have HX_7 := Lib.hid ((HX_6.out.alloc (.cells #[.int .i64 0, .int .i64 0, .int .i64 0, .int .i64 0] 23)).keep hN)
          have HY_7 := Lib.hid ((Has.new_at w6 23 #[.int .i64 0, .int .i64 0, .int .i64 0, .int .i64 0] (w6.heap.size) (by simp)).keep hN)
          have HN_7 := Lib.hid ((HN_6.out.alloc (.cells #[.int .i64 0, .int .i64 0, .int .i64 0, .int .i64 0] 23)).then_new hN)
          clear HK_6 HP_6 HR_6 HW_6 HX_6 HN_6 cK0 cK1 cK2 cK3 lK cP0 cP1 cP2 cP3 cP4 cP5 cP6 cP7 cP8 cP9 cP10 cP11 cP12 cP13 lP cR0 cR1 cR2 cR3 lR cW0 cW1 cW2 cW3 lW cX0 cX1 cX2 cX3 lX hN
          have cK0 : w7.cell? ⟨w.heap.size, 0, none⟩ = some (.int .i64 o) := (HK_7.out.cell 0).trans rfl
          have cK1 : w7.cell? ⟨w.heap.size, 1, none⟩ = some (.int .i64 t) := (HK_7.out.cell 1).trans rfl
          have cK2 : w7.cell? ⟨w.heap.size, 2, none⟩ = some (.int .i64 c) := (HK_7.out.cell 2).trans rfl
          have cK3 : w7.cell? ⟨w.heap.size, 3, none⟩ = some (.int .i64 v) := (HK_7.out.cell 3).trans rfl
          have lK := HK_7.out.lt
          have cP0 : w7.cell? ⟨w.heap.size + 1, 0, none⟩ = some (.int .i64 x0) := (HP_7.out.cell 0).trans rfl
          have cP1 : w7.cell? ⟨w.heap.size + 1, 1, none⟩ = some (.int .i64 x1) := (HP_7.out.cell 1).trans rfl
          have cP2 : w7.cell? ⟨w.heap.size + 1, 2, none⟩ = some (.int .i64 x2) := (HP_7.out.cell 2).trans rfl
          have cP3 : w7.cell? ⟨w.heap.size + 1, 3, none⟩ = some (.int .i64 x3) := (HP_7.out.cell 3).trans rfl
          have cP4 : w7.cell? ⟨w.heap.size + 1, 4, none⟩ = some (.int .i64 x4) := (HP_7.out.cell 4).trans rfl
          have cP5 : w7.cell? ⟨w.heap.size + 1, 5, none⟩ = some (.int .i64 x5) := (HP_7.out.cell 5).trans rfl
          have cP6 : w7.cell? ⟨w.heap.size + 1, 6, none⟩ = some (.int .i64 x6) := (HP_7.out.cell 6).trans rfl
          have cP7 : w7.cell? ⟨w.heap.size + 1, 7, none⟩ = some (.int .i64 x7) := (HP_7.out.cell 7).trans rfl
          have cP8 : w7.cell? ⟨w.heap.size + 1, 8, none⟩ = some (.bool x8) := (HP_7.out.cell 8).trans rfl
          have cP9 : w7.cell? ⟨w.heap.size + 1, 9, none⟩ = some (.int .i64 x9) := (HP_7.out.cell 9).trans rfl
          have cP10 : w7.cell? ⟨w.heap.size + 1, 10, none⟩ = some (.int .i64 x10) := (HP_7.out.cell 10).trans rfl
          have cP11 : w7.cell? ⟨w.heap.size + 1, 11, none⟩ = some (.int .i64 x11) := (HP_7.out.cell 11).trans rfl
          have cP12 : w7.cell? ⟨w.heap.size + 1, 12, none⟩ = some (.int .i64 x12) := (HP_7.out.cell 12).trans rfl
          have cP13 : w7.cell? ⟨w.heap.size + 1, 13, none⟩ = some (.bool x13) := (HP_7.out.cell 13).trans rfl
          have lP := HP_7.out.lt
          have cR0 : w7.cell? ⟨w2.heap.size, 0, none⟩ = some (.int .i64 o) := (HR_7.out.cell 0).trans rfl
          have cR1 : w7.cell? ⟨w2.heap.size, 1, none⟩ = some (.int .i64 t) := (HR_7.out.cell 1).trans rfl
          have cR2 : w7.cell? ⟨w2.heap.size, 2, none⟩ = some (.int .i64 c) := (HR_7.out.cell 2).trans rfl
          have cR3 : w7.cell? ⟨w2.heap.size, 3, none⟩ = some (.int .i64 (v + 1)) := (HR_7.out.cell 3).trans rfl
          have lR := HR_7.out.lt
          have cW0 : w7.cell? ⟨w4.heap.size, 0, none⟩ = some (.int .i64 x1) := (HW_7.out.cell 0).trans rfl
          have cW1 : w7.cell? ⟨w4.heap.size, 1, none⟩ = some (.int .i64 x0) := (HW_7.out.cell 1).trans rfl
          have cW2 : w7.cell? ⟨w4.heap.size, 2, none⟩ = some (.int .i64 x3) := (HW_7.out.cell 2).trans rfl
          have cW3 : w7.cell? ⟨w4.heap.size, 3, none⟩ = some (.int .i64 x4) := (HW_7.out.cell 3).trans rfl
          have lW := HW_7.out.lt
          have cX0 : w7.cell? ⟨w5.heap.size, 0, none⟩ = some (.int .i64 x1) := (HX_7.out.cell 0).trans rfl
          have cX1 : w7.cell? ⟨w5.heap.size, 1, none⟩ = some (.int .i64 x0) := (HX_7.out.cell 1).trans rfl
          have cX2 : w7.cell? ⟨w5.heap.size, 2, none⟩ = some (.int .i64 x3) := (HX_7.out.cell 2).trans rfl
          have cX3 : w7.cell? ⟨w5.heap.size, 3, none⟩ = some (.int .i64 x4) := (HX_7.out.cell 3).trans rfl
          have lX := HX_7.out.lt
          have cY0 : w7.cell? ⟨w6.heap.size, 0, none⟩ = some (.int .i64 0) := (HY_7.out.cell 0).trans rfl
          have cY1 : w7.cell? ⟨w6.heap.size, 1, none⟩ = some (.int .i64 0) := (HY_7.out.cell 1).trans rfl
          have cY2 : w7.cell? ⟨w6.heap.size, 2, none⟩ = some (.int .i64 0) := (HY_7.out.cell 2).trans rfl
          have cY3 : w7.cell? ⟨w6.heap.size, 3, none⟩ = some (.int .i64 0) := (HY_7.out.cell 3).trans rfl
          have lY := HY_7.out.lt
          go_wp2_with fail
          with_reducible refine (HLb.out _).mono ?_
          rintro e w8 ⟨rfl, hN⟩
          have HK_8 := Lib.hid ((HK_7.out.alloc (.cells #[.int .i64 o, .int .i64 0, .int .i64 0, .int .i64 v] 23)).keep hN)
          have HP_8 := Lib.hid ((HP_7.out.alloc (.cells #[.int .i64 o, .int .i64 0, .int .i64 0, .int .i64 v] 23)).keep hN)
          have HR_8 := Lib.hid ((HR_7.out.alloc (.cells #[.int .i64 o, .int .i64 0, .int .i64 0, .int .i64 v] 23)).keep hN)
          have HW_8 := Lib.hid ((HW_7.out.alloc (.cells #[.int .i64 o, .int .i64 0, .int .i64 0, .int .i64 v] 23)).keep hN)
          have HX_8 := Lib.hid ((HX_7.out.alloc (.cells #[.int .i64 o, .int .i64 0, .int .i64 0, .int .i64 v] 23)).keep hN)
          have HY_8 := Lib.hid ((HY_7.out.alloc (.cells #[.int .i64 o, .int .i64 0, .int .i64 0, .int .i64 v] 23)).keep hN)
          have HB_8 := Lib.hid ((Has.new_at w7 23 #[.int .i64 o, .int .i64 0, .int .i64 0, .int .i64 v] (w7.heap.size) (by simp)).keep hN)
          have HN_8 := Lib.hid ((HN_7.out.alloc (.cells #[.int .i64 o, .int .i64 0, .int .i64 0, .int .i64 v] 23)).then_new hN)
          clear HK_7 HP_7 HR_7 HW_7 HX_7 HY_7 HN_7 cK0 cK1 cK2 cK3 lK cP0 cP1 cP2 cP3 cP4 cP5 cP6 cP7 cP8 cP9 cP10 cP11 cP12 cP13 lP cR0 cR1 cR2 cR3 lR cW0 cW1 cW2 cW3 lW cX0 cX1 cX2 cX3 lX cY0 cY1 cY2 cY3 lY hN
          have cK0 : w8.cell? ⟨w.heap.size, 0, none⟩ = some (.int .i64 o) := (HK_8.out.cell 0).trans rfl
          have cK1 : w8.cell? ⟨w.heap.size, 1, none⟩ = some (.int .i64 t) := (HK_8.out.cell 1).trans rfl
          have cK2 : w8.cell? ⟨w.heap.size, 2, none⟩ = some (.int .i64 c) := (HK_8.out.cell 2).trans rfl
          have cK3 : w8.cell? ⟨w.heap.size, 3, none⟩ = some (.int .i64 v) := (HK_8.out.cell 3).trans rfl
          have lK := HK_8.out.lt
          have cP0 : w8.cell? ⟨w.heap.size + 1, 0, none⟩ = some (.int .i64 x0) := (HP_8.out.cell 0).trans rfl
          have cP1 : w8.cell? ⟨w.heap.size + 1, 1, none⟩ = some (.int .i64 x1) := (HP_8.out.cell 1).trans rfl
          have cP2 : w8.cell? ⟨w.heap.size + 1, 2, none⟩ = some (.int .i64 x2) := (HP_8.out.cell 2).trans rfl
          have cP3 : w8.cell? ⟨w.heap.size + 1, 3, none⟩ = some (.int .i64 x3) := (HP_8.out.cell 3).trans rfl
          have cP4 : w8.cell? ⟨w.heap.size + 1, 4, none⟩ = some (.int .i64 x4) := (HP_8.out.cell 4).trans rfl
          have cP5 : w8.cell? ⟨w.heap.size + 1, 5, none⟩ = some (.int .i64 x5) := (HP_8.out.cell 5).trans rfl
          have cP6 : w8.cell? ⟨w.heap.size + 1, 6, none⟩ = some (.int .i64 x6) := (HP_8.out.cell 6).trans rfl
          have cP7 : w8.cell? ⟨w.heap.size + 1, 7, none⟩ = some (.int .i64 x7) := (HP_8.out.cell 7).trans rfl
          have cP8 : w8.cell? ⟨w.heap.size + 1, 8, none⟩ = some (.bool x8) := (HP_8.out.cell 8).trans rfl
          have cP9 : w8.cell? ⟨w.heap.size + 1, 9, none⟩ = some (.int .i64 x9) := (HP_8.out.cell 9).trans rfl
          have cP10 : w8.cell? ⟨w.heap.size + 1, 10, none⟩ = some (.int .i64 x10) := (HP_8.out.cell 10).trans rfl
          have cP11 : w8.cell? ⟨w.heap.size + 1, 11, none⟩ = some (.int .i64 x11) := (HP_8.out.cell 11).trans rfl
          have cP12 : w8.cell? ⟨w.heap.size + 1, 12, none⟩ = some (.int .i64 x12) := (HP_8.out.cell 12).trans rfl
          have cP13 : w8.cell? ⟨w.heap.size + 1, 13, none⟩ = some (.bool x13) := (HP_8.out.cell 13).trans rfl
          have lP := HP_8.out.lt
          have cR0 : w8.cell? ⟨w2.heap.size, 0, none⟩ = some (.int .i64 o) := (HR_8.out.cell 0).trans rfl
          have cR1 : w8.cell? ⟨w2.heap.size, 1, none⟩ = some (.int .i64 t) := (HR_8.out.cell 1).trans rfl
          have cR2 : w8.cell? ⟨w2.heap.size, 2, none⟩ = some (.int .i64 c) := (HR_8.out.cell 2).trans rfl
          have cR3 : w8.cell? ⟨w2.heap.size, 3, none⟩ = some (.int .i64 (v + 1)) := (HR_8.out.cell 3).trans rfl
          have lR := HR_8.out.lt
          have cW0 : w8.cell? ⟨w4.heap.size, 0, none⟩ = some (.int .i64 x1) := (HW_8.out.cell 0).trans rfl
          have cW1 : w8.cell? ⟨w4.heap.size, 1, none⟩ = some (.int .i64 x0) := (HW_8.out.cell 1).trans rfl
          have cW2 : w8.cell? ⟨w4.heap.size, 2, none⟩ = some (.int .i64 x3) := (HW_8.out.cell 2).trans rfl
          have cW3 : w8.cell? ⟨w4.heap.size, 3, none⟩ = some (.int .i64 x4) := (HW_8.out.cell 3).trans rfl
          have lW := HW_8.out.lt
          have cX0 : w8.cell? ⟨w5.heap.size, 0, none⟩ = some (.int .i64 x1) := (HX_8.out.cell 0).trans rfl
          have cX1 : w8.cell? ⟨w5.heap.size, 1, none⟩ = some (.int .i64 x0) := (HX_8.out.cell 1).trans rfl
          have cX2 : w8.cell? ⟨w5.heap.size, 2, none⟩ = some (.int .i64 x3) := (HX_8.out.cell 2).trans rfl
          have cX3 : w8.cell? ⟨w5.heap.size, 3, none⟩ = some (.int .i64 x4) := (HX_8.out.cell 3).trans rfl
          have lX := HX_8.out.lt
          have cY0 : w8.cell? ⟨w6.heap.size, 0, none⟩ = some (.int .i64 0) := (HY_8.out.cell 0).trans rfl
          have cY1 : w8.cell? ⟨w6.heap.size, 1, none⟩ = some (.int .i64 0) := (HY_8.out.cell 1).trans rfl
          have cY2 : w8.cell? ⟨w6.heap.size, 2, none⟩ = some (.int .i64 0) := (HY_8.out.cell 2).trans rfl
          have cY3 : w8.cell? ⟨w6.heap.size, 3, none⟩ = some (.int .i64 0) := (HY_8.out.cell 3).trans rfl
          have lY := HY_8.out.lt
          have cB0 : w8.cell? ⟨w7.heap.size, 0, none⟩ = some (.int .i64 o) := (HB_8.out.cell 0).trans rfl
          have cB1 : w8.cell? ⟨w7.heap.size, 1, none⟩ = some (.int .i64 0) := (HB_8.out.cell 1).trans rfl
          have cB2 : w8.cell? ⟨w7.heap.size, 2, none⟩ = some (.int .i64 0) := (HB_8.out.cell 2).trans rfl
          have cB3 : w8.cell? ⟨w7.heap.size, 3, none⟩ = some (.int .i64 v) := (HB_8.out.cell 3).trans rfl
          have lB := HB_8.out.lt
          go_wp2_with fail
          go_ret
          exact ⟨rfl, HN_8.out⟩
      · have h3' : (lp == 3) = false := beq_eq_false_iff_ne.2 h3
        have HPr : Hid (∀ w, Calls Try.prog 20 #[PrV x0 x1 x2 x3 x4 x5 x6 x7 x9 x10 x11 x12 x8 x13] w fun e w' => e = .returned (.tuple #[.agg #[.int .i64 0, .int .i64 0, .int .i64 0, .int .i64 0], .int .i64 2]) ∧ New w w') := fun w => by have h := HPr0.out w; rw [if_neg h3, if_neg h3] at h; exact h
        clear h3
        have cK0 : w4.cell? ⟨w.heap.size, 0, none⟩ = some (.int .i64 o) := (HK_4.out.cell 0).trans rfl
        have cK1 : w4.cell? ⟨w.heap.size, 1, none⟩ = some (.int .i64 t) := (HK_4.out.cell 1).trans rfl
        have cK2 : w4.cell? ⟨w.heap.size, 2, none⟩ = some (.int .i64 c) := (HK_4.out.cell 2).trans rfl
        have cK3 : w4.cell? ⟨w.heap.size, 3, none⟩ = some (.int .i64 v) := (HK_4.out.cell 3).trans rfl
        have lK := HK_4.out.lt
        have cP0 : w4.cell? ⟨w.heap.size + 1, 0, none⟩ = some (.int .i64 x0) := (HP_4.out.cell 0).trans rfl
        have cP1 : w4.cell? ⟨w.heap.size + 1, 1, none⟩ = some (.int .i64 x1) := (HP_4.out.cell 1).trans rfl
        have cP2 : w4.cell? ⟨w.heap.size + 1, 2, none⟩ = some (.int .i64 x2) := (HP_4.out.cell 2).trans rfl
        have cP3 : w4.cell? ⟨w.heap.size + 1, 3, none⟩ = some (.int .i64 x3) := (HP_4.out.cell 3).trans rfl
        have cP4 : w4.cell? ⟨w.heap.size + 1, 4, none⟩ = some (.int .i64 x4) := (HP_4.out.cell 4).trans rfl
        have cP5 : w4.cell? ⟨w.heap.size + 1, 5, none⟩ = some (.int .i64 x5) := (HP_4.out.cell 5).trans rfl
        have cP6 : w4.cell? ⟨w.heap.size + 1, 6, none⟩ = some (.int .i64 x6) := (HP_4.out.cell 6).trans rfl
        have cP7 : w4.cell? ⟨w.heap.size + 1, 7, none⟩ = some (.int .i64 x7) := (HP_4.out.cell 7).trans rfl
        have cP8 : w4.cell? ⟨w.heap.size + 1, 8, none⟩ = some (.bool x8) := (HP_4.out.cell 8).trans rfl
        have cP9 : w4.cell? ⟨w.heap.size + 1, 9, none⟩ = some (.int .i64 x9) := (HP_4.out.cell 9).trans rfl
        have cP10 : w4.cell? ⟨w.heap.size + 1, 10, none⟩ = some (.int .i64 x10) := (HP_4.out.cell 10).trans rfl
        have cP11 : w4.cell? ⟨w.heap.size + 1, 11, none⟩ = some (.int .i64 x11) := (HP_4.out.cell 11).trans rfl
        have cP12 : w4.cell? ⟨w.heap.size + 1, 12, none⟩ = some (.int .i64 x12) := (HP_4.out.cell 12).trans rfl
        have cP13 : w4.cell? ⟨w.heap.size + 1, 13, none⟩ = some (.bool x13) := (HP_4.out.cell 13).trans rfl
        have lP := HP_4.out.lt
        have cR0 : w4.cell? ⟨w2.heap.size, 0, none⟩ = some (.int .i64 o) := (HR_4.out.cell 0).trans rfl
        have cR1 : w4.cell? ⟨w2.heap.size, 1, none⟩ = some (.int .i64 t) := (HR_4.out.cell 1).trans rfl
        have cR2 : w4.cell? ⟨w2.heap.size, 2, none⟩ = some (.int .i64 c) := (HR_4.out.cell 2).trans rfl
        have cR3 : w4.cell? ⟨w2.heap.size, 3, none⟩ = some (.int .i64 (v + 1)) := (HR_4.out.cell 3).trans rfl
        have lR := HR_4.out.lt
        go_wp2_with fail
        with_reducible refine (HPr.out _).mono ?_
        rintro e w5 ⟨rfl, hN⟩
        have HK_5 := Lib.hid ((HK_4.out.alloc (.cells #[.int .i64 x1, .int .i64 x0, .int .i64 x3, .int .i64 x4] 23)).keep hN)
        have HP_5 := Lib.hid ((HP_4.out.alloc (.cells #[.int .i64 x1, .int .i64 x0, .int .i64 x3, .int .i64 x4] 23)).keep hN)
        have HR_5 := Lib.hid ((HR_4.out.alloc (.cells #[.int .i64 x1, .int .i64 x0, .int .i64 x3, .int .i64 x4] 23)).keep hN)
        have HW_5 := Lib.hid ((Has.new_at w4 23 #[.int .i64 x1, .int .i64 x0, .int .i64 x3, .int .i64 x4] (w4.heap.size) (by simp)).keep hN)
        have HN_5 := Lib.hid ((HN_4.out.alloc (.cells #[.int .i64 x1, .int .i64 x0, .int .i64 x3, .int .i64 x4] 23)).then_new hN)
        clear HK_4 HP_4 HR_4 HN_4 cK0 cK1 cK2 cK3 lK cP0 cP1 cP2 cP3 cP4 cP5 cP6 cP7 cP8 cP9 cP10 cP11 cP12 cP13 lP cR0 cR1 cR2 cR3 lR hN
        by_cases h1 : lb = 1
        · subst h1
          have HBa : Hid (∀ w, Calls Try.prog 21 #[.int .i64 o, .int .i64 v] w fun e w' => e = .returned (.tuple #[.agg #[.int .i64 o, .int .i64 0, .int .i64 0, .int .i64 v], .int .i64 0]) ∧ New w w') := fun w => by have h := HBa0.out w; rw [if_pos rfl, if_pos rfl] at h; exact h
          have cK0 : w5.cell? ⟨w.heap.size, 0, none⟩ = some (.int .i64 o) := (HK_5.out.cell 0).trans rfl
          have cK1 : w5.cell? ⟨w.heap.size, 1, none⟩ = some (.int .i64 t) := (HK_5.out.cell 1).trans rfl
          have cK2 : w5.cell? ⟨w.heap.size, 2, none⟩ = some (.int .i64 c) := (HK_5.out.cell 2).trans rfl
          have cK3 : w5.cell? ⟨w.heap.size, 3, none⟩ = some (.int .i64 v) := (HK_5.out.cell 3).trans rfl
          have lK := HK_5.out.lt
          have cP0 : w5.cell? ⟨w.heap.size + 1, 0, none⟩ = some (.int .i64 x0) := (HP_5.out.cell 0).trans rfl
          have cP1 : w5.cell? ⟨w.heap.size + 1, 1, none⟩ = some (.int .i64 x1) := (HP_5.out.cell 1).trans rfl
          have cP2 : w5.cell? ⟨w.heap.size + 1, 2, none⟩ = some (.int .i64 x2) := (HP_5.out.cell 2).trans rfl
          have cP3 : w5.cell? ⟨w.heap.size + 1, 3, none⟩ = some (.int .i64 x3) := (HP_5.out.cell 3).trans rfl
          have cP4 : w5.cell? ⟨w.heap.size + 1, 4, none⟩ = some (.int .i64 x4) := (HP_5.out.cell 4).trans rfl
          have cP5 : w5.cell? ⟨w.heap.size + 1, 5, none⟩ = some (.int .i64 x5) := (HP_5.out.cell 5).trans rfl
          have cP6 : w5.cell? ⟨w.heap.size + 1, 6, none⟩ = some (.int .i64 x6) := (HP_5.out.cell 6).trans rfl
          have cP7 : w5.cell? ⟨w.heap.size + 1, 7, none⟩ = some (.int .i64 x7) := (HP_5.out.cell 7).trans rfl
          have cP8 : w5.cell? ⟨w.heap.size + 1, 8, none⟩ = some (.bool x8) := (HP_5.out.cell 8).trans rfl
          have cP9 : w5.cell? ⟨w.heap.size + 1, 9, none⟩ = some (.int .i64 x9) := (HP_5.out.cell 9).trans rfl
          have cP10 : w5.cell? ⟨w.heap.size + 1, 10, none⟩ = some (.int .i64 x10) := (HP_5.out.cell 10).trans rfl
          have cP11 : w5.cell? ⟨w.heap.size + 1, 11, none⟩ = some (.int .i64 x11) := (HP_5.out.cell 11).trans rfl
          have cP12 : w5.cell? ⟨w.heap.size + 1, 12, none⟩ = some (.int .i64 x12) := (HP_5.out.cell 12).trans rfl
          have cP13 : w5.cell? ⟨w.heap.size + 1, 13, none⟩ = some (.bool x13) := (HP_5.out.cell 13).trans rfl
          have lP := HP_5.out.lt
          have cR0 : w5.cell? ⟨w2.heap.size, 0, none⟩ = some (.int .i64 o) := (HR_5.out.cell 0).trans rfl
          have cR1 : w5.cell? ⟨w2.heap.size, 1, none⟩ = some (.int .i64 t) := (HR_5.out.cell 1).trans rfl
          have cR2 : w5.cell? ⟨w2.heap.size, 2, none⟩ = some (.int .i64 c) := (HR_5.out.cell 2).trans rfl
          have cR3 : w5.cell? ⟨w2.heap.size, 3, none⟩ = some (.int .i64 (v + 1)) := (HR_5.out.cell 3).trans rfl
          have lR := HR_5.out.lt
          have cW0 : w5.cell? ⟨w4.heap.size, 0, none⟩ = some (.int .i64 x1) := (HW_5.out.cell 0).trans rfl
          have cW1 : w5.cell? ⟨w4.heap.size, 1, none⟩ = some (.int .i64 x0) := (HW_5.out.cell 1).trans rfl
          have cW2 : w5.cell? ⟨w4.heap.size, 2, none⟩ = some (.int .i64 x3) := (HW_5.out.cell 2).trans rfl
          have cW3 : w5.cell? ⟨w4.heap.size, 3, none⟩ = some (.int .i64 x4) := (HW_5.out.cell 3).trans rfl
          have lW := HW_5.out.lt
          go_wp2_with fail
          with_reducible refine (HBa.out _).mono ?_
          rintro e w6 ⟨rfl, hN⟩
          have HK_6 := Lib.hid ((HK_5.out.alloc (.cells #[.int .i64 0, .int .i64 0, .int .i64 0, .int .i64 0] 23)).keep hN)
          have HP_6 := Lib.hid ((HP_5.out.alloc (.cells #[.int .i64 0, .int .i64 0, .int .i64 0, .int .i64 0] 23)).keep hN)
          have HR_6 := Lib.hid ((HR_5.out.alloc (.cells #[.int .i64 0, .int .i64 0, .int .i64 0, .int .i64 0] 23)).keep hN)
          have HW_6 := Lib.hid ((HW_5.out.alloc (.cells #[.int .i64 0, .int .i64 0, .int .i64 0, .int .i64 0] 23)).keep hN)
          have HX_6 := Lib.hid ((Has.new_at w5 23 #[.int .i64 0, .int .i64 0, .int .i64 0, .int .i64 0] (w5.heap.size) (by simp)).keep hN)
          have HN_6 := Lib.hid ((HN_5.out.alloc (.cells #[.int .i64 0, .int .i64 0, .int .i64 0, .int .i64 0] 23)).then_new hN)
          clear HK_5 HP_5 HR_5 HW_5 HN_5 cK0 cK1 cK2 cK3 lK cP0 cP1 cP2 cP3 cP4 cP5 cP6 cP7 cP8 cP9 cP10 cP11 cP12 cP13 lP cR0 cR1 cR2 cR3 lR cW0 cW1 cW2 cW3 lW hN
          have cK0 : w6.cell? ⟨w.heap.size, 0, none⟩ = some (.int .i64 o) := (HK_6.out.cell 0).trans rfl
          have cK1 : w6.cell? ⟨w.heap.size, 1, none⟩ = some (.int .i64 t) := (HK_6.out.cell 1).trans rfl
          have cK2 : w6.cell? ⟨w.heap.size, 2, none⟩ = some (.int .i64 c) := (HK_6.out.cell 2).trans rfl
          have cK3 : w6.cell? ⟨w.heap.size, 3, none⟩ = some (.int .i64 v) := (HK_6.out.cell 3).trans rfl
          have lK := HK_6.out.lt
          have cP0 : w6.cell? ⟨w.heap.size + 1, 0, none⟩ = some (.int .i64 x0) := (HP_6.out.cell 0).trans rfl
          have cP1 : w6.cell? ⟨w.heap.size + 1, 1, none⟩ = some (.int .i64 x1) := (HP_6.out.cell 1).trans rfl
          have cP2 : w6.cell? ⟨w.heap.size + 1, 2, none⟩ = some (.int .i64 x2) := (HP_6.out.cell 2).trans rfl
          have cP3 : w6.cell? ⟨w.heap.size + 1, 3, none⟩ = some (.int .i64 x3) := (HP_6.out.cell 3).trans rfl
          have cP4 : w6.cell? ⟨w.heap.size + 1, 4, none⟩ = some (.int .i64 x4) := (HP_6.out.cell 4).trans rfl
          have cP5 : w6.cell? ⟨w.heap.size + 1, 5, none⟩ = some (.int .i64 x5) := (HP_6.out.cell 5).trans rfl
          have cP6 : w6.cell? ⟨w.heap.size + 1, 6, none⟩ = some (.int .i64 x6) := (HP_6.out.cell 6).trans rfl
          have cP7 : w6.cell? ⟨w.heap.size + 1, 7, none⟩ = some (.int .i64 x7) := (HP_6.out.cell 7).trans rfl
          have cP8 : w6.cell? ⟨w.heap.size + 1, 8, none⟩ = some (.bool x8) := (HP_6.out.cell 8).trans rfl
          have cP9 : w6.cell? ⟨w.heap.size + 1, 9, none⟩ = some (.int .i64 x9) := (HP_6.out.cell 9).trans rfl
          have cP10 : w6.cell? ⟨w.heap.size + 1, 10, none⟩ = some (.int .i64 x10) := (HP_6.out.cell 10).trans rfl
          have cP11 : w6.cell? ⟨w.heap.size + 1, 11, none⟩ = some (.int .i64 x11) := (HP_6.out.cell 11).trans rfl
          have cP12 : w6.cell? ⟨w.heap.size + 1, 12, none⟩ = some (.int .i64 x12) := (HP_6.out.cell 12).trans rfl
          have cP13 : w6.cell? ⟨w.heap.size + 1, 13, none⟩ = some (.bool x13) := (HP_6.out.cell 13).trans rfl
          have lP := HP_6.out.lt
          have cR0 : w6.cell? ⟨w2.heap.size, 0, none⟩ = some (.int .i64 o) := (HR_6.out.cell 0).trans rfl
          have cR1 : w6.cell? ⟨w2.heap.size, 1, none⟩ = some (.int .i64 t) := (HR_6.out.cell 1).trans rfl
          have cR2 : w6.cell? ⟨w2.heap.size, 2, none⟩ = some (.int .i64 c) := (HR_6.out.cell 2).trans rfl
          have cR3 : w6.cell? ⟨w2.heap.size, 3, none⟩ = some (.int .i64 (v + 1)) := (HR_6.out.cell 3).trans rfl
          have lR := HR_6.out.lt
          have cW0 : w6.cell? ⟨w4.heap.size, 0, none⟩ = some (.int .i64 x1) := (HW_6.out.cell 0).trans rfl
          have cW1 : w6.cell? ⟨w4.heap.size, 1, none⟩ = some (.int .i64 x0) := (HW_6.out.cell 1).trans rfl
          have cW2 : w6.cell? ⟨w4.heap.size, 2, none⟩ = some (.int .i64 x3) := (HW_6.out.cell 2).trans rfl
          have cW3 : w6.cell? ⟨w4.heap.size, 3, none⟩ = some (.int .i64 x4) := (HW_6.out.cell 3).trans rfl
          have lW := HW_6.out.lt
          have cX0 : w6.cell? ⟨w5.heap.size, 0, none⟩ = some (.int .i64 0) := (HX_6.out.cell 0).trans rfl
          have cX1 : w6.cell? ⟨w5.heap.size, 1, none⟩ = some (.int .i64 0) := (HX_6.out.cell 1).trans rfl
          have cX2 : w6.cell? ⟨w5.heap.size, 2, none⟩ = some (.int .i64 0) := (HX_6.out.cell 2).trans rfl
          have cX3 : w6.cell? ⟨w5.heap.size, 3, none⟩ = some (.int .i64 0) := (HX_6.out.cell 3).trans rfl
          have lX := HX_6.out.lt
          go_wp2_with fail
          with_reducible refine (HLw.out _).mono ?_
          rintro e w7 ⟨rfl, hN⟩
          have HK_7 := Lib.hid ((HK_6.out.alloc (.cells #[.int .i64 o, .int .i64 0, .int .i64 0, .int .i64 v] 23)).keep hN)
          have HP_7 := Lib.hid ((HP_6.out.alloc (.cells #[.int .i64 o, .int .i64 0, .int .i64 0, .int .i64 v] 23)).keep hN)
          have HR_7 := Lib.hid ((HR_6.out.alloc (.cells #[.int .i64 o, .int .i64 0, .int .i64 0, .int .i64 v] 23)).keep hN)
          have HW_7 := Lib.hid ((HW_6.out.alloc (.cells #[.int .i64 o, .int .i64 0, .int .i64 0, .int .i64 v] 23)).keep hN)
          have HX_7 := Lib.hid ((HX_6.out.alloc (.cells #[.int .i64 o, .int .i64 0, .int .i64 0, .int .i64 v] 23)).keep hN)
          have HY_7 := Lib.hid ((Has.new_at w6 23 #[.int .i64 o, .int .i64 0, .int .i64 0, .int .i64 v] (w6.heap.size) (by simp)).keep hN)
          have HN_7 := Lib.hid ((HN_6.out.alloc (.cells #[.int .i64 o, .int .i64 0, .int .i64 0, .int .i64 v] 23)).then_new hN)
          clear HK_6 HP_6 HR_6 HW_6 HX_6 HN_6 cK0 cK1 cK2 cK3 lK cP0 cP1 cP2 cP3 cP4 cP5 cP6 cP7 cP8 cP9 cP10 cP11 cP12 cP13 lP cR0 cR1 cR2 cR3 lR cW0 cW1 cW2 cW3 lW cX0 cX1 cX2 cX3 lX hN
          have cK0 : w7.cell? ⟨w.heap.size, 0, none⟩ = some (.int .i64 o) := (HK_7.out.cell 0).trans rfl
          have cK1 : w7.cell? ⟨w.heap.size, 1, none⟩ = some (.int .i64 t) := (HK_7.out.cell 1).trans rfl
          have cK2 : w7.cell? ⟨w.heap.size, 2, none⟩ = some (.int .i64 c) := (HK_7.out.cell 2).trans rfl
          have cK3 : w7.cell? ⟨w.heap.size, 3, none⟩ = some (.int .i64 v) := (HK_7.out.cell 3).trans rfl
          have lK := HK_7.out.lt
          have cP0 : w7.cell? ⟨w.heap.size + 1, 0, none⟩ = some (.int .i64 x0) := (HP_7.out.cell 0).trans rfl
          have cP1 : w7.cell? ⟨w.heap.size + 1, 1, none⟩ = some (.int .i64 x1) := (HP_7.out.cell 1).trans rfl
          have cP2 : w7.cell? ⟨w.heap.size + 1, 2, none⟩ = some (.int .i64 x2) := (HP_7.out.cell 2).trans rfl
          have cP3 : w7.cell? ⟨w.heap.size + 1, 3, none⟩ = some (.int .i64 x3) := (HP_7.out.cell 3).trans rfl
          have cP4 : w7.cell? ⟨w.heap.size + 1, 4, none⟩ = some (.int .i64 x4) := (HP_7.out.cell 4).trans rfl
          have cP5 : w7.cell? ⟨w.heap.size + 1, 5, none⟩ = some (.int .i64 x5) := (HP_7.out.cell 5).trans rfl
          have cP6 : w7.cell? ⟨w.heap.size + 1, 6, none⟩ = some (.int .i64 x6) := (HP_7.out.cell 6).trans rfl
          have cP7 : w7.cell? ⟨w.heap.size + 1, 7, none⟩ = some (.int .i64 x7) := (HP_7.out.cell 7).trans rfl
          have cP8 : w7.cell? ⟨w.heap.size + 1, 8, none⟩ = some (.bool x8) := (HP_7.out.cell 8).trans rfl
          have cP9 : w7.cell? ⟨w.heap.size + 1, 9, none⟩ = some (.int .i64 x9) := (HP_7.out.cell 9).trans rfl
          have cP10 : w7.cell? ⟨w.heap.size + 1, 10, none⟩ = some (.int .i64 x10) := (HP_7.out.cell 10).trans rfl
          have cP11 : w7.cell? ⟨w.heap.size + 1, 11, none⟩ = some (.int .i64 x11) := (HP_7.out.cell 11).trans rfl
          have cP12 : w7.cell? ⟨w.heap.size + 1, 12, none⟩ = some (.int .i64 x12) := (HP_7.out.cell 12).trans rfl
          have cP13 : w7.cell? ⟨w.heap.size + 1, 13, none⟩ = some (.bool x13) := (HP_7.out.cell 13).trans rfl
          have lP := HP_7.out.lt
          have cR0 : w7.cell? ⟨w2.heap.size, 0, none⟩ = some (.int .i64 o) := (HR_7.out.cell 0).trans rfl
          have cR1 : w7.cell? ⟨w2.heap.size, 1, none⟩ = some (.int .i64 t) := (HR_7.out.cell 1).trans rfl
          have cR2 : w7.cell? ⟨w2.heap.size, 2, none⟩ = some (.int .i64 c) := (HR_7.out.cell 2).trans rfl
          have cR3 : w7.cell? ⟨w2.heap.size, 3, none⟩ = some (.int .i64 (v + 1)) := (HR_7.out.cell 3).trans rfl
          have lR := HR_7.out.lt
          have cW0 : w7.cell? ⟨w4.heap.size, 0, none⟩ = some (.int .i64 x1) := (HW_7.out.cell 0).trans rfl
          have cW1 : w7.cell? ⟨w4.heap.size, 1, none⟩ = some (.int .i64 x0) := (HW_7.out.cell 1).trans rfl
          have cW2 : w7.cell? ⟨w4.heap.size, 2, none⟩ = some (.int .i64 x3) := (HW_7.out.cell 2).trans rfl
          have cW3 : w7.cell? ⟨w4.heap.size, 3, none⟩ = some (.int .i64 x4) := (HW_7.out.cell 3).trans rfl
          have lW := HW_7.out.lt
          have cX0 : w7.cell? ⟨w5.heap.size, 0, none⟩ = some (.int .i64 0) := (HX_7.out.cell 0).trans rfl
          have cX1 : w7.cell? ⟨w5.heap.size, 1, none⟩ = some (.int .i64 0) := (HX_7.out.cell 1).trans rfl
          have cX2 : w7.cell? ⟨w5.heap.size, 2, none⟩ = some (.int .i64 0) := (HX_7.out.cell 2).trans rfl
          have cX3 : w7.cell? ⟨w5.heap.size, 3, none⟩ = some (.int .i64 0) := (HX_7.out.cell 3).trans rfl
          have lX := HX_7.out.lt
          have cY0 : w7.cell? ⟨w6.heap.size, 0, none⟩ = some (.int .i64 o) := (HY_7.out.cell 0).trans rfl
          have cY1 : w7.cell? ⟨w6.heap.size, 1, none⟩ = some (.int .i64 0) := (HY_7.out.cell 1).trans rfl
          have cY2 : w7.cell? ⟨w6.heap.size, 2, none⟩ = some (.int .i64 0) := (HY_7.out.cell 2).trans rfl
          have cY3 : w7.cell? ⟨w6.heap.size, 3, none⟩ = some (.int .i64 v) := (HY_7.out.cell 3).trans rfl
          have lY := HY_7.out.lt
          go_wp2_with fail
          with_reducible refine (HLb.out _).mono ?_
          rintro e w8 ⟨rfl, hN⟩
          have HK_8 := Lib.hid ((HK_7.out.alloc (.cells #[.int .i64 o, .int .i64 0, .int .i64 0, .int .i64 v] 23)).keep hN)
          have HP_8 := Lib.hid ((HP_7.out.alloc (.cells #[.int .i64 o, .int .i64 0, .int .i64 0, .int .i64 v] 23)).keep hN)
          have HR_8 := Lib.hid ((HR_7.out.alloc (.cells #[.int .i64 o, .int .i64 0, .int .i64 0, .int .i64 v] 23)).keep hN)
          have HW_8 := Lib.hid ((HW_7.out.alloc (.cells #[.int .i64 o, .int .i64 0, .int .i64 0, .int .i64 v] 23)).keep hN)
          have HX_8 := Lib.hid ((HX_7.out.alloc (.cells #[.int .i64 o, .int .i64 0, .int .i64 0, .int .i64 v] 23)).keep hN)
          have HY_8 := Lib.hid ((HY_7.out.alloc (.cells #[.int .i64 o, .int .i64 0, .int .i64 0, .int .i64 v] 23)).keep hN)
          have HB_8 := Lib.hid ((Has.new_at w7 23 #[.int .i64 o, .int .i64 0, .int .i64 0, .int .i64 v] (w7.heap.size) (by simp)).keep hN)
          have HN_8 := Lib.hid ((HN_7.out.alloc (.cells #[.int .i64 o, .int .i64 0, .int .i64 0, .int .i64 v] 23)).then_new hN)
          clear HK_7 HP_7 HR_7 HW_7 HX_7 HY_7 HN_7 cK0 cK1 cK2 cK3 lK cP0 cP1 cP2 cP3 cP4 cP5 cP6 cP7 cP8 cP9 cP10 cP11 cP12 cP13 lP cR0 cR1 cR2 cR3 lR cW0 cW1 cW2 cW3 lW cX0 cX1 cX2 cX3 lX cY0 cY1 cY2 cY3 lY hN
          have cK0 : w8.cell? ⟨w.heap.size, 0, none⟩ = some (.int .i64 o) := (HK_8.out.cell 0).trans rfl
          have cK1 : w8.cell? ⟨w.heap.size, 1, none⟩ = some (.int .i64 t) := (HK_8.out.cell 1).trans rfl
          have cK2 : w8.cell? ⟨w.heap.size, 2, none⟩ = some (.int .i64 c) := (HK_8.out.cell 2).trans rfl
          have cK3 : w8.cell? ⟨w.heap.size, 3, none⟩ = some (.int .i64 v) := (HK_8.out.cell 3).trans rfl
          have lK := HK_8.out.lt
          have cP0 : w8.cell? ⟨w.heap.size + 1, 0, none⟩ = some (.int .i64 x0) := (HP_8.out.cell 0).trans rfl
          have cP1 : w8.cell? ⟨w.heap.size + 1, 1, none⟩ = some (.int .i64 x1) := (HP_8.out.cell 1).trans rfl
          have cP2 : w8.cell? ⟨w.heap.size + 1, 2, none⟩ = some (.int .i64 x2) := (HP_8.out.cell 2).trans rfl
          have cP3 : w8.cell? ⟨w.heap.size + 1, 3, none⟩ = some (.int .i64 x3) := (HP_8.out.cell 3).trans rfl
          have cP4 : w8.cell? ⟨w.heap.size + 1, 4, none⟩ = some (.int .i64 x4) := (HP_8.out.cell 4).trans rfl
          have cP5 : w8.cell? ⟨w.heap.size + 1, 5, none⟩ = some (.int .i64 x5) := (HP_8.out.cell 5).trans rfl
          have cP6 : w8.cell? ⟨w.heap.size + 1, 6, none⟩ = some (.int .i64 x6) := (HP_8.out.cell 6).trans rfl
          have cP7 : w8.cell? ⟨w.heap.size + 1, 7, none⟩ = some (.int .i64 x7) := (HP_8.out.cell 7).trans rfl
          have cP8 : w8.cell? ⟨w.heap.size + 1, 8, none⟩ = some (.bool x8) := (HP_8.out.cell 8).trans rfl
          have cP9 : w8.cell? ⟨w.heap.size + 1, 9, none⟩ = some (.int .i64 x9) := (HP_8.out.cell 9).trans rfl
          have cP10 : w8.cell? ⟨w.heap.size + 1, 10, none⟩ = some (.int .i64 x10) := (HP_8.out.cell 10).trans rfl
          have cP11 : w8.cell? ⟨w.heap.size + 1, 11, none⟩ = some (.int .i64 x11) := (HP_8.out.cell 11).trans rfl
          have cP12 : w8.cell? ⟨w.heap.size + 1, 12, none⟩ = some (.int .i64 x12) := (HP_8.out.cell 12).trans rfl
          have cP13 : w8.cell? ⟨w.heap.size + 1, 13, none⟩ = some (.bool x13) := (HP_8.out.cell 13).trans rfl
          have lP := HP_8.out.lt
          have cR0 : w8.cell? ⟨w2.heap.size, 0, none⟩ = some (.int .i64 o) := (HR_8.out.cell 0).trans rfl
          have cR1 : w8.cell? ⟨w2.heap.size, 1, none⟩ = some (.int .i64 t) := (HR_8.out.cell 1).trans rfl
          have cR2 : w8.cell? ⟨w2.heap.size, 2, none⟩ = some (.int .i64 c) := (HR_8.out.cell 2).trans rfl
          have cR3 : w8.cell? ⟨w2.heap.size, 3, none⟩ = some (.int .i64 (v + 1)) := (HR_8.out.cell 3).trans rfl
          have lR := HR_8.out.lt
          have cW0 : w8.cell? ⟨w4.heap.size, 0, none⟩ = some (.int .i64 x1) := (HW_8.out.cell 0).trans rfl
          have cW1 : w8.cell? ⟨w4.heap.size, 1, none⟩ = some (.int .i64 x0) := (HW_8.out.cell 1).trans rfl
          have cW2 : w8.cell? ⟨w4.heap.size, 2, none⟩ = some (.int .i64 x3) := (HW_8.out.cell 2).trans rfl
          have cW3 : w8.cell? ⟨w4.heap.size, 3, none⟩ = some (.int .i64 x4) := (HW_8.out.cell 3).trans rfl
          have lW := HW_8.out.lt
          have cX0 : w8.cell? ⟨w5.heap.size, 0, none⟩ = some (.int .i64 0) := (HX_8.out.cell 0).trans rfl
          have cX1 : w8.cell? ⟨w5.heap.size, 1, none⟩ = some (.int .i64 0) := (HX_8.out.cell 1).trans rfl
          have cX2 : w8.cell? ⟨w5.heap.size, 2, none⟩ = some (.int .i64 0) := (HX_8.out.cell 2).trans rfl
          have cX3 : w8.cell? ⟨w5.heap.size, 3, none⟩ = some (.int .i64 0) := (HX_8.out.cell 3).trans rfl
          have lX := HX_8.out.lt
          have cY0 : w8.cell? ⟨w6.heap.size, 0, none⟩ = some (.int .i64 o) := (HY_8.out.cell 0).trans rfl
          have cY1 : w8.cell? ⟨w6.heap.size, 1, none⟩ = some (.int .i64 0) := (HY_8.out.cell 1).trans rfl
          have cY2 : w8.cell? ⟨w6.heap.size, 2, none⟩ = some (.int .i64 0) := (HY_8.out.cell 2).trans rfl
          have cY3 : w8.cell? ⟨w6.heap.size, 3, none⟩ = some (.int .i64 v) := (HY_8.out.cell 3).trans rfl
          have lY := HY_8.out.lt
          have cB0 : w8.cell? ⟨w7.heap.size, 0, none⟩ = some (.int .i64 o) := (HB_8.out.cell 0).trans rfl
          have cB1 : w8.cell? ⟨w7.heap.size, 1, none⟩ = some (.int .i64 0) := (HB_8.out.cell 1).trans rfl
          have cB2 : w8.cell? ⟨w7.heap.size, 2, none⟩ = some (.int .i64 0) := (HB_8.out.cell 2).trans rfl
          have cB3 : w8.cell? ⟨w7.heap.size, 3, none⟩ = some (.int .i64 v) := (HB_8.out.cell 3).trans rfl
          have lB := HB_8.out.lt
          go_wp2_with fail
          go_ret
          exact ⟨rfl, HN_8.out⟩
        · have h1' : (lb == 1) = false := beq_eq_false_iff_ne.2 h1
          have HBa : Hid (∀ w, Calls Try.prog 21 #[.int .i64 o, .int .i64 v] w fun e w' => e = .returned (.tuple #[.agg #[.int .i64 0, .int .i64 0, .int .i64 0, .int .i64 0], .int .i64 2]) ∧ New w w') := fun w => by have h := HBa0.out w; rw [if_neg h1, if_neg h1] at h; exact h
          clear h1
          have cK0 : w5.cell? ⟨w.heap.size, 0, none⟩ = some (.int .i64 o) := (HK_5.out.cell 0).trans rfl
          have cK1 : w5.cell? ⟨w.heap.size, 1, none⟩ = some (.int .i64 t) := (HK_5.out.cell 1).trans rfl
          have cK2 : w5.cell? ⟨w.heap.size, 2, none⟩ = some (.int .i64 c) := (HK_5.out.cell 2).trans rfl
          have cK3 : w5.cell? ⟨w.heap.size, 3, none⟩ = some (.int .i64 v) := (HK_5.out.cell 3).trans rfl
          have lK := HK_5.out.lt
          have cP0 : w5.cell? ⟨w.heap.size + 1, 0, none⟩ = some (.int .i64 x0) := (HP_5.out.cell 0).trans rfl
          have cP1 : w5.cell? ⟨w.heap.size + 1, 1, none⟩ = some (.int .i64 x1) := (HP_5.out.cell 1).trans rfl
          have cP2 : w5.cell? ⟨w.heap.size + 1, 2, none⟩ = some (.int .i64 x2) := (HP_5.out.cell 2).trans rfl
          have cP3 : w5.cell? ⟨w.heap.size + 1, 3, none⟩ = some (.int .i64 x3) := (HP_5.out.cell 3).trans rfl
          have cP4 : w5.cell? ⟨w.heap.size + 1, 4, none⟩ = some (.int .i64 x4) := (HP_5.out.cell 4).trans rfl
          have cP5 : w5.cell? ⟨w.heap.size + 1, 5, none⟩ = some (.int .i64 x5) := (HP_5.out.cell 5).trans rfl
          have cP6 : w5.cell? ⟨w.heap.size + 1, 6, none⟩ = some (.int .i64 x6) := (HP_5.out.cell 6).trans rfl
          have cP7 : w5.cell? ⟨w.heap.size + 1, 7, none⟩ = some (.int .i64 x7) := (HP_5.out.cell 7).trans rfl
          have cP8 : w5.cell? ⟨w.heap.size + 1, 8, none⟩ = some (.bool x8) := (HP_5.out.cell 8).trans rfl
          have cP9 : w5.cell? ⟨w.heap.size + 1, 9, none⟩ = some (.int .i64 x9) := (HP_5.out.cell 9).trans rfl
          have cP10 : w5.cell? ⟨w.heap.size + 1, 10, none⟩ = some (.int .i64 x10) := (HP_5.out.cell 10).trans rfl
          have cP11 : w5.cell? ⟨w.heap.size + 1, 11, none⟩ = some (.int .i64 x11) := (HP_5.out.cell 11).trans rfl
          have cP12 : w5.cell? ⟨w.heap.size + 1, 12, none⟩ = some (.int .i64 x12) := (HP_5.out.cell 12).trans rfl
          have cP13 : w5.cell? ⟨w.heap.size + 1, 13, none⟩ = some (.bool x13) := (HP_5.out.cell 13).trans rfl
          have lP := HP_5.out.lt
          have cR0 : w5.cell? ⟨w2.heap.size, 0, none⟩ = some (.int .i64 o) := (HR_5.out.cell 0).trans rfl
          have cR1 : w5.cell? ⟨w2.heap.size, 1, none⟩ = some (.int .i64 t) := (HR_5.out.cell 1).trans rfl
          have cR2 : w5.cell? ⟨w2.heap.size, 2, none⟩ = some (.int .i64 c) := (HR_5.out.cell 2).trans rfl
          have cR3 : w5.cell? ⟨w2.heap.size, 3, none⟩ = some (.int .i64 (v + 1)) := (HR_5.out.cell 3).trans rfl
          have lR := HR_5.out.lt
          have cW0 : w5.cell? ⟨w4.heap.size, 0, none⟩ = some (.int .i64 x1) := (HW_5.out.cell 0).trans rfl
          have cW1 : w5.cell? ⟨w4.heap.size, 1, none⟩ = some (.int .i64 x0) := (HW_5.out.cell 1).trans rfl
          have cW2 : w5.cell? ⟨w4.heap.size, 2, none⟩ = some (.int .i64 x3) := (HW_5.out.cell 2).trans rfl
          have cW3 : w5.cell? ⟨w4.heap.size, 3, none⟩ = some (.int .i64 x4) := (HW_5.out.cell 3).trans rfl
          have lW := HW_5.out.lt
          go_wp2_with fail
          with_reducible refine (HBa.out _).mono ?_
          rintro e w6 ⟨rfl, hN⟩
          have HK_6 := Lib.hid ((HK_5.out.alloc (.cells #[.int .i64 0, .int .i64 0, .int .i64 0, .int .i64 0] 23)).keep hN)
          have HP_6 := Lib.hid ((HP_5.out.alloc (.cells #[.int .i64 0, .int .i64 0, .int .i64 0, .int .i64 0] 23)).keep hN)
          have HR_6 := Lib.hid ((HR_5.out.alloc (.cells #[.int .i64 0, .int .i64 0, .int .i64 0, .int .i64 0] 23)).keep hN)
          have HW_6 := Lib.hid ((HW_5.out.alloc (.cells #[.int .i64 0, .int .i64 0, .int .i64 0, .int .i64 0] 23)).keep hN)
          have HX_6 := Lib.hid ((Has.new_at w5 23 #[.int .i64 0, .int .i64 0, .int .i64 0, .int .i64 0] (w5.heap.size) (by simp)).keep hN)
          have HN_6 := Lib.hid ((HN_5.out.alloc (.cells #[.int .i64 0, .int .i64 0, .int .i64 0, .int .i64 0] 23)).then_new hN)
          clear HK_5 HP_5 HR_5 HW_5 HN_5 cK0 cK1 cK2 cK3 lK cP0 cP1 cP2 cP3 cP4 cP5 cP6 cP7 cP8 cP9 cP10 cP11 cP12 cP13 lP cR0 cR1 cR2 cR3 lR cW0 cW1 cW2 cW3 lW hN
          have cK0 : w6.cell? ⟨w.heap.size, 0, none⟩ = some (.int .i64 o) := (HK_6.out.cell 0).trans rfl
          have cK1 : w6.cell? ⟨w.heap.size, 1, none⟩ = some (.int .i64 t) := (HK_6.out.cell 1).trans rfl
          have cK2 : w6.cell? ⟨w.heap.size, 2, none⟩ = some (.int .i64 c) := (HK_6.out.cell 2).trans rfl
          have cK3 : w6.cell? ⟨w.heap.size, 3, none⟩ = some (.int .i64 v) := (HK_6.out.cell 3).trans rfl
          have lK := HK_6.out.lt
          have cP0 : w6.cell? ⟨w.heap.size + 1, 0, none⟩ = some (.int .i64 x0) := (HP_6.out.cell 0).trans rfl
          have cP1 : w6.cell? ⟨w.heap.size + 1, 1, none⟩ = some (.int .i64 x1) := (HP_6.out.cell 1).trans rfl
          have cP2 : w6.cell? ⟨w.heap.size + 1, 2, none⟩ = some (.int .i64 x2) := (HP_6.out.cell 2).trans rfl
          have cP3 : w6.cell? ⟨w.heap.size + 1, 3, none⟩ = some (.int .i64 x3) := (HP_6.out.cell 3).trans rfl
          have cP4 : w6.cell? ⟨w.heap.size + 1, 4, none⟩ = some (.int .i64 x4) := (HP_6.out.cell 4).trans rfl
          have cP5 : w6.cell? ⟨w.heap.size + 1, 5, none⟩ = some (.int .i64 x5) := (HP_6.out.cell 5).trans rfl
          have cP6 : w6.cell? ⟨w.heap.size + 1, 6, none⟩ = some (.int .i64 x6) := (HP_6.out.cell 6).trans rfl
          have cP7 : w6.cell? ⟨w.heap.size + 1, 7, none⟩ = some (.int .i64 x7) := (HP_6.out.cell 7).trans rfl
          have cP8 : w6.cell? ⟨w.heap.size + 1, 8, none⟩ = some (.bool x8) := (HP_6.out.cell 8).trans rfl
          have cP9 : w6.cell? ⟨w.heap.size + 1, 9, none⟩ = some (.int .i64 x9) := (HP_6.out.cell 9).trans rfl
          have cP10 : w6.cell? ⟨w.heap.size + 1, 10, none⟩ = some (.int .i64 x10) := (HP_6.out.cell 10).trans rfl
          have cP11 : w6.cell? ⟨w.heap.size + 1, 11, none⟩ = some (.int .i64 x11) := (HP_6.out.cell 11).trans rfl
          have cP12 : w6.cell? ⟨w.heap.size + 1, 12, none⟩ = some (.int .i64 x12) := (HP_6.out.cell 12).trans rfl
          have cP13 : w6.cell? ⟨w.heap.size + 1, 13, none⟩ = some (.bool x13) := (HP_6.out.cell 13).trans rfl
          have lP := HP_6.out.lt
          have cR0 : w6.cell? ⟨w2.heap.size, 0, none⟩ = some (.int .i64 o) := (HR_6.out.cell 0).trans rfl
          have cR1 : w6.cell? ⟨w2.heap.size, 1, none⟩ = some (.int .i64 t) := (HR_6.out.cell 1).trans rfl
          have cR2 : w6.cell? ⟨w2.heap.size, 2, none⟩ = some (.int .i64 c) := (HR_6.out.cell 2).trans rfl
          have cR3 : w6.cell? ⟨w2.heap.size, 3, none⟩ = some (.int .i64 (v + 1)) := (HR_6.out.cell 3).trans rfl
          have lR := HR_6.out.lt
          have cW0 : w6.cell? ⟨w4.heap.size, 0, none⟩ = some (.int .i64 x1) := (HW_6.out.cell 0).trans rfl
          have cW1 : w6.cell? ⟨w4.heap.size, 1, none⟩ = some (.int .i64 x0) := (HW_6.out.cell 1).trans rfl
          have cW2 : w6.cell? ⟨w4.heap.size, 2, none⟩ = some (.int .i64 x3) := (HW_6.out.cell 2).trans rfl
          have cW3 : w6.cell? ⟨w4.heap.size, 3, none⟩ = some (.int .i64 x4) := (HW_6.out.cell 3).trans rfl
          have lW := HW_6.out.lt
          have cX0 : w6.cell? ⟨w5.heap.size, 0, none⟩ = some (.int .i64 0) := (HX_6.out.cell 0).trans rfl
          have cX1 : w6.cell? ⟨w5.heap.size, 1, none⟩ = some (.int .i64 0) := (HX_6.out.cell 1).trans rfl
          have cX2 : w6.cell? ⟨w5.heap.size, 2, none⟩ = some (.int .i64 0) := (HX_6.out.cell 2).trans rfl
          have cX3 : w6.cell? ⟨w5.heap.size, 3, none⟩ = some (.int .i64 0) := (HX_6.out.cell 3).trans rfl
          have lX := HX_6.out.lt
          go_wp2_with fail
          with_reducible refine (HLw.out _).mono ?_
          rintro e w7 ⟨rfl, hN⟩
          have HK_7 := Lib.hid ((HK_6.out.alloc (.cells #[.int .i64 0, .int .i64 0, .int .i64 0, .int .i64 0] 23)).keep hN)
          have HP_7 := Lib.hid ((HP_6.out.alloc (.cells #[.int .i64 0, .int .i64 0, .int .i64 0, .int .i64 0] 23)).keep hN)
          have HR_7 := Lib.hid ((HR_6.out.alloc (.cells #[.int .i64 0, .int .i64 0, .int .i64 0, .int .i64 0] 23)).keep hN)
          have HW_7 := Lib.hid ((HW_6.out.alloc (.cells #[.int .i64 0, .int .i64 0, .int .i64 0, .int .i64 0] 23)).keep hN)
          have HX_7 := Lib.hid ((HX_6.out.alloc (.cells #[.int .i64 0, .int .i64 0, .int .i64 0, .int .i64 0] 23)).keep hN)
          have HY_7 := Lib.hid ((Has.new_at w6 23 #[.int .i64 0, .int .i64 0, .int .i64 0, .int .i64 0] (w6.heap.size) (by simp)).keep hN)
          have HN_7 := Lib.hid ((HN_6.out.alloc (.cells #[.int .i64 0, .int .i64 0, .int .i64 0, .int .i64 0] 23)).then_new hN)
          clear HK_6 HP_6 HR_6 HW_6 HX_6 HN_6 cK0 cK1 cK2 cK3 lK cP0 cP1 cP2 cP3 cP4 cP5 cP6 cP7 cP8 cP9 cP10 cP11 cP12 cP13 lP cR0 cR1 cR2 cR3 lR cW0 cW1 cW2 cW3 lW cX0 cX1 cX2 cX3 lX hN
          have cK0 : w7.cell? ⟨w.heap.size, 0, none⟩ = some (.int .i64 o) := (HK_7.out.cell 0).trans rfl
          have cK1 : w7.cell? ⟨w.heap.size, 1, none⟩ = some (.int .i64 t) := (HK_7.out.cell 1).trans rfl
          have cK2 : w7.cell? ⟨w.heap.size, 2, none⟩ = some (.int .i64 c) := (HK_7.out.cell 2).trans rfl
          have cK3 : w7.cell? ⟨w.heap.size, 3, none⟩ = some (.int .i64 v) := (HK_7.out.cell 3).trans rfl
          have lK := HK_7.out.lt
          have cP0 : w7.cell? ⟨w.heap.size + 1, 0, none⟩ = some (.int .i64 x0) := (HP_7.out.cell 0).trans rfl
          have cP1 : w7.cell? ⟨w.heap.size + 1, 1, none⟩ = some (.int .i64 x1) := (HP_7.out.cell 1).trans rfl
          have cP2 : w7.cell? ⟨w.heap.size + 1, 2, none⟩ = some (.int .i64 x2) := (HP_7.out.cell 2).trans rfl
          have cP3 : w7.cell? ⟨w.heap.size + 1, 3, none⟩ = some (.int .i64 x3) := (HP_7.out.cell 3).trans rfl
          have cP4 : w7.cell? ⟨w.heap.size + 1, 4, none⟩ = some (.int .i64 x4) := (HP_7.out.cell 4).trans rfl
          have cP5 : w7.cell? ⟨w.heap.size + 1, 5, none⟩ = some (.int .i64 x5) := (HP_7.out.cell 5).trans rfl
          have cP6 : w7.cell? ⟨w.heap.size + 1, 6, none⟩ = some (.int .i64 x6) := (HP_7.out.cell 6).trans rfl
          have cP7 : w7.cell? ⟨w.heap.size + 1, 7, none⟩ = some (.int .i64 x7) := (HP_7.out.cell 7).trans rfl
          have cP8 : w7.cell? ⟨w.heap.size + 1, 8, none⟩ = some (.bool x8) := (HP_7.out.cell 8).trans rfl
          have cP9 : w7.cell? ⟨w.heap.size + 1, 9, none⟩ = some (.int .i64 x9) := (HP_7.out.cell 9).trans rfl
          have cP10 : w7.cell? ⟨w.heap.size + 1, 10, none⟩ = some (.int .i64 x10) := (HP_7.out.cell 10).trans rfl
          have cP11 : w7.cell? ⟨w.heap.size + 1, 11, none⟩ = some (.int .i64 x11) := (HP_7.out.cell 11).trans rfl
          have cP12 : w7.cell? ⟨w.heap.size + 1, 12, none⟩ = some (.int .i64 x12) := (HP_7.out.cell 12).trans rfl
          have cP13 : w7.cell? ⟨w.heap.size + 1, 13, none⟩ = some (.bool x13) := (HP_7.out.cell 13).trans rfl
          have lP := HP_7.out.lt
          have cR0 : w7.cell? ⟨w2.heap.size, 0, none⟩ = some (.int .i64 o) := (HR_7.out.cell 0).trans rfl
          have cR1 : w7.cell? ⟨w2.heap.size, 1, none⟩ = some (.int .i64 t) := (HR_7.out.cell 1).trans rfl
          have cR2 : w7.cell? ⟨w2.heap.size, 2, none⟩ = some (.int .i64 c) := (HR_7.out.cell 2).trans rfl
          have cR3 : w7.cell? ⟨w2.heap.size, 3, none⟩ = some (.int .i64 (v + 1)) := (HR_7.out.cell 3).trans rfl
          have lR := HR_7.out.lt
          have cW0 : w7.cell? ⟨w4.heap.size, 0, none⟩ = some (.int .i64 x1) := (HW_7.out.cell 0).trans rfl
          have cW1 : w7.cell? ⟨w4.heap.size, 1, none⟩ = some (.int .i64 x0) := (HW_7.out.cell 1).trans rfl
          have cW2 : w7.cell? ⟨w4.heap.size, 2, none⟩ = some (.int .i64 x3) := (HW_7.out.cell 2).trans rfl
          have cW3 : w7.cell? ⟨w4.heap.size, 3, none⟩ = some (.int .i64 x4) := (HW_7.out.cell 3).trans rfl
          have lW := HW_7.out.lt
          have cX0 : w7.cell? ⟨w5.heap.size, 0, none⟩ = some (.int .i64 0) := (HX_7.out.cell 0).trans rfl
          have cX1 : w7.cell? ⟨w5.heap.size, 1, none⟩ = some (.int .i64 0) := (HX_7.out.cell 1).trans rfl
          have cX2 : w7.cell? ⟨w5.heap.size, 2, none⟩ = some (.int .i64 0) := (HX_7.out.cell 2).trans rfl
          have cX3 : w7.cell? ⟨w5.heap.size, 3, none⟩ = some (.int .i64 0) := (HX_7.out.cell 3).trans rfl
          have lX := HX_7.out.lt
          have cY0 : w7.cell? ⟨w6.heap.size, 0, none⟩ = some (.int .i64 0) := (HY_7.out.cell 0).trans rfl
          have cY1 : w7.cell? ⟨w6.heap.size, 1, none⟩ = some (.int .i64 0) := (HY_7.out.cell 1).trans rfl
          have cY2 : w7.cell? ⟨w6.heap.size, 2, none⟩ = some (.int .i64 0) := (HY_7.out.cell 2).trans rfl
          have cY3 : w7.cell? ⟨w6.heap.size, 3, none⟩ = some (.int .i64 0) := (HY_7.out.cell 3).trans rfl
          have lY := HY_7.out.lt
          go_wp2_with fail
          with_reducible refine (HLb.out _).mono ?_
          rintro e w8 ⟨rfl, hN⟩
          have HK_8 := Lib.hid ((HK_7.out.alloc (.cells #[.int .i64 o, .int .i64 0, .int .i64 0, .int .i64 v] 23)).keep hN)
          have HP_8 := Lib.hid ((HP_7.out.alloc (.cells #[.int .i64 o, .int .i64 0, .int .i64 0, .int .i64 v] 23)).keep hN)
          have HR_8 := Lib.hid ((HR_7.out.alloc (.cells #[.int .i64 o, .int .i64 0, .int .i64 0, .int .i64 v] 23)).keep hN)
          have HW_8 := Lib.hid ((HW_7.out.alloc (.cells #[.int .i64 o, .int .i64 0, .int .i64 0, .int .i64 v] 23)).keep hN)
          have HX_8 := Lib.hid ((HX_7.out.alloc (.cells #[.int .i64 o, .int .i64 0, .int .i64 0, .int .i64 v] 23)).keep hN)
          have HY_8 := Lib.hid ((HY_7.out.alloc (.cells #[.int .i64 o, .int .i64 0, .int .i64 0, .int .i64 v] 23)).keep hN)
          have HB_8 := Lib.hid ((Has.new_at w7 23 #[.int .i64 o, .int .i64 0, .int .i64 0, .int .i64 v] (w7.heap.size) (by simp)).keep hN)
          have HN_8 := Lib.hid ((HN_7.out.alloc (.cells #[.int .i64 o, .int .i64 0, .int .i64 0, .int .i64 v] 23)).then_new hN)
          clear HK_7 HP_7 HR_7 HW_7 HX_7 HY_7 HN_7 cK0 cK1 cK2 cK3 lK cP0 cP1 cP2 cP3 cP4 cP5 cP6 cP7 cP8 cP9 cP10 cP11 cP12 cP13 lP cR0 cR1 cR2 cR3 lR cW0 cW1 cW2 cW3 lW cX0 cX1 cX2 cX3 lX cY0 cY1 cY2 cY3 lY hN
          have cK0 : w8.cell? ⟨w.heap.size, 0, none⟩ = some (.int .i64 o) := (HK_8.out.cell 0).trans rfl
          have cK1 : w8.cell? ⟨w.heap.size, 1, none⟩ = some (.int .i64 t) := (HK_8.out.cell 1).trans rfl
          have cK2 : w8.cell? ⟨w.heap.size, 2, none⟩ = some (.int .i64 c) := (HK_8.out.cell 2).trans rfl
          have cK3 : w8.cell? ⟨w.heap.size, 3, none⟩ = some (.int .i64 v) := (HK_8.out.cell 3).trans rfl
          have lK := HK_8.out.lt
          have cP0 : w8.cell? ⟨w.heap.size + 1, 0, none⟩ = some (.int .i64 x0) := (HP_8.out.cell 0).trans rfl
          have cP1 : w8.cell? ⟨w.heap.size + 1, 1, none⟩ = some (.int .i64 x1) := (HP_8.out.cell 1).trans rfl
          have cP2 : w8.cell? ⟨w.heap.size + 1, 2, none⟩ = some (.int .i64 x2) := (HP_8.out.cell 2).trans rfl
          have cP3 : w8.cell? ⟨w.heap.size + 1, 3, none⟩ = some (.int .i64 x3) := (HP_8.out.cell 3).trans rfl
          have cP4 : w8.cell? ⟨w.heap.size + 1, 4, none⟩ = some (.int .i64 x4) := (HP_8.out.cell 4).trans rfl
          have cP5 : w8.cell? ⟨w.heap.size + 1, 5, none⟩ = some (.int .i64 x5) := (HP_8.out.cell 5).trans rfl
          have cP6 : w8.cell? ⟨w.heap.size + 1, 6, none⟩ = some (.int .i64 x6) := (HP_8.out.cell 6).trans rfl
          have cP7 : w8.cell? ⟨w.heap.size + 1, 7, none⟩ = some (.int .i64 x7) := (HP_8.out.cell 7).trans rfl
          have cP8 : w8.cell? ⟨w.heap.size + 1, 8, none⟩ = some (.bool x8) := (HP_8.out.cell 8).trans rfl
          have cP9 : w8.cell? ⟨w.heap.size + 1, 9, none⟩ = some (.int .i64 x9) := (HP_8.out.cell 9).trans rfl
          have cP10 : w8.cell? ⟨w.heap.size + 1, 10, none⟩ = some (.int .i64 x10) := (HP_8.out.cell 10).trans rfl
          have cP11 : w8.cell? ⟨w.heap.size + 1, 11, none⟩ = some (.int .i64 x11) := (HP_8.out.cell 11).trans rfl
          have cP12 : w8.cell? ⟨w.heap.size + 1, 12, none⟩ = some (.int .i64 x12) := (HP_8.out.cell 12).trans rfl
          have cP13 : w8.cell? ⟨w.heap.size + 1, 13, none⟩ = some (.bool x13) := (HP_8.out.cell 13).trans rfl
          have lP := HP_8.out.lt
          have cR0 : w8.cell? ⟨w2.heap.size, 0, none⟩ = some (.int .i64 o) := (HR_8.out.cell 0).trans rfl
          have cR1 : w8.cell? ⟨w2.heap.size, 1, none⟩ = some (.int .i64 t) := (HR_8.out.cell 1).trans rfl
          have cR2 : w8.cell? ⟨w2.heap.size, 2, none⟩ = some (.int .i64 c) := (HR_8.out.cell 2).trans rfl
          have cR3 : w8.cell? ⟨w2.heap.size, 3, none⟩ = some (.int .i64 (v + 1)) := (HR_8.out.cell 3).trans rfl
          have lR := HR_8.out.lt
          have cW0 : w8.cell? ⟨w4.heap.size, 0, none⟩ = some (.int .i64 x1) := (HW_8.out.cell 0).trans rfl
          have cW1 : w8.cell? ⟨w4.heap.size, 1, none⟩ = some (.int .i64 x0) := (HW_8.out.cell 1).trans rfl
          have cW2 : w8.cell? ⟨w4.heap.size, 2, none⟩ = some (.int .i64 x3) := (HW_8.out.cell 2).trans rfl
          have cW3 : w8.cell? ⟨w4.heap.size, 3, none⟩ = some (.int .i64 x4) := (HW_8.out.cell 3).trans rfl
          have lW := HW_8.out.lt
          have cX0 : w8.cell? ⟨w5.heap.size, 0, none⟩ = some (.int .i64 0) := (HX_8.out.cell 0).trans rfl
          have cX1 : w8.cell? ⟨w5.heap.size, 1, none⟩ = some (.int .i64 0) := (HX_8.out.cell 1).trans rfl
          have cX2 : w8.cell? ⟨w5.heap.size, 2, none⟩ = some (.int .i64 0) := (HX_8.out.cell 2).trans rfl
          have cX3 : w8.cell? ⟨w5.heap.size, 3, none⟩ = some (.int .i64 0) := (HX_8.out.cell 3).trans rfl
          have lX := HX_8.out.lt
          have cY0 : w8.cell? ⟨w6.heap.size, 0, none⟩ = some (.int .i64 0) := (HY_8.out.cell 0).trans rfl
          have cY1 : w8.cell? ⟨w6.heap.size, 1, none⟩ = some (.int .i64 0) := (HY_8.out.cell 1).trans rfl
          have cY2 : w8.cell? ⟨w6.heap.size, 2, none⟩ = some (.int .i64 0) := (HY_8.out.cell 2).trans rfl
          have cY3 : w8.cell? ⟨w6.heap.size, 3, none⟩ = some (.int .i64 0) := (HY_8.out.cell 3).trans rfl
          have lY := HY_8.out.lt
          have cB0 : w8.cell? ⟨w7.heap.size, 0, none⟩ = some (.int .i64 o) := (HB_8.out.cell 0).trans rfl
          have cB1 : w8.cell? ⟨w7.heap.size, 1, none⟩ = some (.int .i64 0) := (HB_8.out.cell 1).trans rfl
          have cB2 : w8.cell? ⟨w7.heap.size, 2, none⟩ = some (.int .i64 0) := (HB_8.out.cell 2).trans rfl
          have cB3 : w8.cell? ⟨w7.heap.size, 3, none⟩ = some (.int .i64 v) := (HB_8.out.cell 3).trans rfl
          have lB := HB_8.out.lt
          go_wp2_with fail
          go_ret
          exact ⟨rfl, HN_8.out⟩
end Go.Proofs.Ytkegafkmcdkphaa
