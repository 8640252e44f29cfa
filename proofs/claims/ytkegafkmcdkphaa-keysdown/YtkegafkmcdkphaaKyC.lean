/-
  What package keys does: Parent, Roll, Product, Batch.
-/
import Derived.Test.YtkegafkmcdkphaaKyB
namespace Go.Proofs.Ytkegafkmcdkphaa
open Go.RowKit
theorem par_no {k : Ky} (h : rightB k = false) : parK k = kz ∧ parE k = 2 := by unfold parK parE; rw [h]; exact ⟨rfl, rfl⟩
theorem par_zero {k : Ky} (h : rightB k = true) (hl : lev k = 0) : parK k = kz ∧ parE k = 21 := by unfold parK parE; rw [h, hl]; exact ⟨rfl, rfl⟩
theorem par_1 {k : Ky} (h : rightB k = true) (hl : lev k = 1) : parK k = ⟨0, k.t, k.c, k.v⟩ ∧ parE k = 0 := by unfold parK parE; rw [h, parR_eq, hl]; exact ⟨rfl, rfl⟩
theorem par_2 {k : Ky} (h : rightB k = true) (hl : lev k = 2) : parK k = ⟨k.o, 0, k.c, k.v⟩ ∧ parE k = 0 := by unfold parK parE; rw [h, parR_eq, hl]; exact ⟨rfl, rfl⟩
theorem par_3 {k : Ky} (h : rightB k = true) (hl : lev k = 3) : parK k = ⟨k.o, k.t, 0, k.v⟩ ∧ parE k = 0 := by unfold parK parE; rw [h, parR_eq, hl]; exact ⟨rfl, rfl⟩
theorem levI_yes {k : Ky} (h : rightB k = true) : levI k = (lev k : Int) := by unfold levI; rw [if_pos h]
theorem levI_no {k : Ky} (h : rightB k = false) : levI k = -1 := by unfold levI; rw [h]; rfl
theorem lev_parts (k : Ky) : lev k = 0 ∨ lev k = 1 ∨ lev k = 2 ∨ lev k = 3 := by have := lev_le k; omega
set_option maxRecDepth 100000 in
theorem Parent_any (k : Ky) (w : World) : Calls Try.prog 11 #[k.V] w fun e w' => e = .returned (.tuple #[(parK k).V, .int .i64 (parE k)]) ∧ New w w' := by
  obtain ⟨b, hb⟩ : ∃ b, rightB k = b := ⟨_, rfl⟩
  cases b with
  | false =>
    obtain ⟨hK, hE⟩ := par_no hb
    have HC := Lib.hid (Right_any k)
    rw [hb] at HC
    rw [hK, hE]
    clear hK hE hb
    have HH : Hid True := trivial
    obtain ⟨o, t, c, v⟩ := k
    go_enter Try.func11, Try.ntmps11
    go_wp2_with fail
    with_reducible refine (HC.out _).mono ?_
    rintro e w1 ⟨rfl, hN⟩
    have HB := Lib.hid (((Has.new w 23 #[.int .i64 o, .int .i64 t, .int .i64 c, .int .i64 v]).alloc (.cells #[.int .i64 0, .int .i64 0, .int .i64 0, .int .i64 0] 23)).keep hN)
    have HR := Lib.hid ((Has.new_at (w.alloc (.cells #[.int .i64 o, .int .i64 t, .int .i64 c, .int .i64 v] 23)) 23 #[.int .i64 0, .int .i64 0, .int .i64 0, .int .i64 0] (w.heap.size + 1) (by simp)).keep hN)
    have HN := Lib.hid ((((Chg.refl (fun _ => False) w).alloc _).alloc _).then_new hN)
    clear hN
    have c0 : w1.cell? ⟨w.heap.size, 0, none⟩ = some (.int .i64 o) := (HB.out.cell 0).trans rfl
    have c1 : w1.cell? ⟨w.heap.size, 1, none⟩ = some (.int .i64 t) := (HB.out.cell 1).trans rfl
    have c2 : w1.cell? ⟨w.heap.size, 2, none⟩ = some (.int .i64 c) := (HB.out.cell 2).trans rfl
    have c3 : w1.cell? ⟨w.heap.size, 3, none⟩ = some (.int .i64 v) := (HB.out.cell 3).trans rfl
    have r0 : w1.cell? ⟨w.heap.size + 1, 0, none⟩ = some (.int .i64 0) := (HR.out.cell 0).trans rfl
    have r1 : w1.cell? ⟨w.heap.size + 1, 1, none⟩ = some (.int .i64 0) := (HR.out.cell 1).trans rfl
    have r2 : w1.cell? ⟨w.heap.size + 1, 2, none⟩ = some (.int .i64 0) := (HR.out.cell 2).trans rfl
    have r3 : w1.cell? ⟨w.heap.size + 1, 3, none⟩ = some (.int .i64 0) := (HR.out.cell 3).trans rfl
    have z0 := HR.out.free 0
    have z1 := HR.out.free 1
    have z2 := HR.out.free 2
    have z3 := HR.out.free 3
    go_wp2_with fail
    obtain ⟨hX, hGX⟩ := setK HR.out (.int .i64 0) (.int .i64 0) (.int .i64 0) (.int .i64 0)
    generalize ((((w1.setCell ⟨w.heap.size + 1, 0, none⟩ (.int .i64 0)).setCell ⟨w.heap.size + 1, 1, none⟩ (.int .i64 0)).setCell ⟨w.heap.size + 1, 2, none⟩ (.int .i64 0)).setCell ⟨w.heap.size + 1, 3, none⟩ (.int .i64 0)) = wX at hX hGX ⊢
    have g0 := (hX.cell 0).trans rfl
    have g1 := (hX.cell 1).trans rfl
    have g2 := (hX.cell 2).trans rfl
    have g3 := (hX.cell 3).trans rfl
    refine bodyPost_ret (v := .tuple #[.agg #[.int .i64 0, .int .i64 0, .int .i64 0, .int .i64 0], .int .i64 2]) (by simp [results, Try.results11, go_sem, g0, g1, g2, g3]) rfl ?_
    exact ⟨by first | rfl | (simp only [HH.out]; rfl) | simp [HH.out], New.set HN.out hGX (by omega)⟩
  | true =>
    rcases lev_parts k with hl | hl | hl | hl
    · obtain ⟨hK, hE⟩ := par_zero hb hl
      have HC := Lib.hid (Right_any k)
      rw [hb] at HC
      rw [hK, hE]
      have HL := Lib.hid (Level_any k)
      rw [levI_yes hb, hl] at HL
      change Hid (∀ w, Calls Try.prog 16 _ w fun e w' => e = .returned (.int .i64 0) ∧ New w w') at HL
      clear hK hE hb hl
      have HH : Hid True := trivial
      obtain ⟨o, t, c, v⟩ := k
      go_enter Try.func11, Try.ntmps11
      go_wp2_with fail
      with_reducible refine (HC.out _).mono ?_
      rintro e w1 ⟨rfl, hN⟩
      have HB := Lib.hid (((Has.new w 23 #[.int .i64 o, .int .i64 t, .int .i64 c, .int .i64 v]).alloc (.cells #[.int .i64 0, .int .i64 0, .int .i64 0, .int .i64 0] 23)).keep hN)
      have HR := Lib.hid ((Has.new_at (w.alloc (.cells #[.int .i64 o, .int .i64 t, .int .i64 c, .int .i64 v] 23)) 23 #[.int .i64 0, .int .i64 0, .int .i64 0, .int .i64 0] (w.heap.size + 1) (by simp)).keep hN)
      have HN := Lib.hid ((((Chg.refl (fun _ => False) w).alloc _).alloc _).then_new hN)
      clear hN
      have c0 : w1.cell? ⟨w.heap.size, 0, none⟩ = some (.int .i64 o) := (HB.out.cell 0).trans rfl
      have c1 : w1.cell? ⟨w.heap.size, 1, none⟩ = some (.int .i64 t) := (HB.out.cell 1).trans rfl
      have c2 : w1.cell? ⟨w.heap.size, 2, none⟩ = some (.int .i64 c) := (HB.out.cell 2).trans rfl
      have c3 : w1.cell? ⟨w.heap.size, 3, none⟩ = some (.int .i64 v) := (HB.out.cell 3).trans rfl
      go_wp2_with fail
      with_reducible refine (HL.out _).mono ?_
      rintro e w2 ⟨rfl, hN2⟩
      have HB2 := Lib.hid (HB.out.keep hN2)
      have HR2 := Lib.hid (HR.out.keep hN2)
      have HN2 := Lib.hid (HN.out.then_new hN2)
      clear hN2 c0 c1 c2 c3 HB HR HN
      have r0 : w2.cell? ⟨w.heap.size + 1, 0, none⟩ = some (.int .i64 0) := (HR2.out.cell 0).trans rfl
      have r1 : w2.cell? ⟨w.heap.size + 1, 1, none⟩ = some (.int .i64 0) := (HR2.out.cell 1).trans rfl
      have r2 : w2.cell? ⟨w.heap.size + 1, 2, none⟩ = some (.int .i64 0) := (HR2.out.cell 2).trans rfl
      have r3 : w2.cell? ⟨w.heap.size + 1, 3, none⟩ = some (.int .i64 0) := (HR2.out.cell 3).trans rfl
      have z0 := HR2.out.free 0
      have z1 := HR2.out.free 1
      have z2 := HR2.out.free 2
      have z3 := HR2.out.free 3
      go_wp2_with fail
      obtain ⟨hX, hGX⟩ := setK HR2.out (.int .i64 0) (.int .i64 0) (.int .i64 0) (.int .i64 0)
      generalize ((((w2.setCell ⟨w.heap.size + 1, 0, none⟩ (.int .i64 0)).setCell ⟨w.heap.size + 1, 1, none⟩ (.int .i64 0)).setCell ⟨w.heap.size + 1, 2, none⟩ (.int .i64 0)).setCell ⟨w.heap.size + 1, 3, none⟩ (.int .i64 0)) = wX at hX hGX ⊢
      have g0 := (hX.cell 0).trans rfl
      have g1 := (hX.cell 1).trans rfl
      have g2 := (hX.cell 2).trans rfl
      have g3 := (hX.cell 3).trans rfl
      refine bodyPost_ret (v := .tuple #[.agg #[.int .i64 0, .int .i64 0, .int .i64 0, .int .i64 0], .int .i64 21]) (by simp [results, Try.results11, go_sem, g0, g1, g2, g3]) rfl ?_
      exact ⟨by first | rfl | (simp only [HH.out]; rfl) | simp [HH.out], New.set HN2.out hGX (by omega)⟩
    · obtain ⟨hK, hE⟩ := par_1 hb hl
      have HC := Lib.hid (Right_any k)
      rw [hb] at HC
      rw [hK, hE]
      have HL := Lib.hid (Level_any k)
      rw [levI_yes hb, hl] at HL
      change Hid (∀ w, Calls Try.prog 16 _ w fun e w' => e = .returned (.int .i64 1) ∧ New w w') at HL
      have HF := Lib.hid (fieldsOf_any k)
      clear hK hE hb hl
      have HH : Hid True := trivial
      obtain ⟨o, t, c, v⟩ := k
      go_enter Try.func11, Try.ntmps11
      go_wp2_with fail
      with_reducible refine (HC.out _).mono ?_
      rintro e w1 ⟨rfl, hN⟩
      have HB := Lib.hid (((Has.new w 23 #[.int .i64 o, .int .i64 t, .int .i64 c, .int .i64 v]).alloc (.cells #[.int .i64 0, .int .i64 0, .int .i64 0, .int .i64 0] 23)).keep hN)
      have HR := Lib.hid ((Has.new_at (w.alloc (.cells #[.int .i64 o, .int .i64 t, .int .i64 c, .int .i64 v] 23)) 23 #[.int .i64 0, .int .i64 0, .int .i64 0, .int .i64 0] (w.heap.size + 1) (by simp)).keep hN)
      have HN := Lib.hid ((((Chg.refl (fun _ => False) w).alloc _).alloc _).then_new hN)
      clear hN
      have c0 : w1.cell? ⟨w.heap.size, 0, none⟩ = some (.int .i64 o) := (HB.out.cell 0).trans rfl
      have c1 : w1.cell? ⟨w.heap.size, 1, none⟩ = some (.int .i64 t) := (HB.out.cell 1).trans rfl
      have c2 : w1.cell? ⟨w.heap.size, 2, none⟩ = some (.int .i64 c) := (HB.out.cell 2).trans rfl
      have c3 : w1.cell? ⟨w.heap.size, 3, none⟩ = some (.int .i64 v) := (HB.out.cell 3).trans rfl
      go_wp2_with fail
      with_reducible refine (HL.out _).mono ?_
      rintro e w2 ⟨rfl, hN2⟩
      have HB2 := Lib.hid (HB.out.keep hN2)
      have HR2 := Lib.hid (HR.out.keep hN2)
      have HN2 := Lib.hid (HN.out.then_new hN2)
      clear hN2 c0 c1 c2 c3 HB HR HN
      have c0 : w2.cell? ⟨w.heap.size, 0, none⟩ = some (.int .i64 o) := (HB2.out.cell 0).trans rfl
      have c1 : w2.cell? ⟨w.heap.size, 1, none⟩ = some (.int .i64 t) := (HB2.out.cell 1).trans rfl
      have c2 : w2.cell? ⟨w.heap.size, 2, none⟩ = some (.int .i64 c) := (HB2.out.cell 2).trans rfl
      have c3 : w2.cell? ⟨w.heap.size, 3, none⟩ = some (.int .i64 v) := (HB2.out.cell 3).trans rfl
      go_wp2_with fail
      with_reducible refine (HF.out _).mono ?_
      rintro e w3 ⟨rfl, hN3⟩
      have HB3 := Lib.hid (HB2.out.keep hN3)
      have HR3 := Lib.hid (HR2.out.keep hN3)
      have HN3 := Lib.hid (HN2.out.then_new hN3)
      clear hN3 c0 c1 c2 c3 HB2 HR2 HN2
      have c0 : w3.cell? ⟨w.heap.size, 0, none⟩ = some (.int .i64 o) := (HB3.out.cell 0).trans rfl
      have c1 : w3.cell? ⟨w.heap.size, 1, none⟩ = some (.int .i64 t) := (HB3.out.cell 1).trans rfl
      have c2 : w3.cell? ⟨w.heap.size, 2, none⟩ = some (.int .i64 c) := (HB3.out.cell 2).trans rfl
      have c3 : w3.cell? ⟨w.heap.size, 3, none⟩ = some (.int .i64 v) := (HB3.out.cell 3).trans rfl
      have hgx := HR3.out.lt
      have hgb := HB3.out.lt
      go_wp2_with fail
      with_reducible refine (key_any _ _ _ _ _).mono ?_
      rintro e w4 ⟨rfl, hN4⟩
      have HR4 := Lib.hid ((HR3.out.alloc _).keep hN4)
      have HN4 := Lib.hid ((HN3.out.alloc _).then_new hN4)
      clear hN4 c0 c1 c2 c3 HB3 HR3 HN3
      have r0 : w4.cell? ⟨w.heap.size + 1, 0, none⟩ = some (.int .i64 0) := (HR4.out.cell 0).trans rfl
      have r1 : w4.cell? ⟨w.heap.size + 1, 1, none⟩ = some (.int .i64 0) := (HR4.out.cell 1).trans rfl
      have r2 : w4.cell? ⟨w.heap.size + 1, 2, none⟩ = some (.int .i64 0) := (HR4.out.cell 2).trans rfl
      have r3 : w4.cell? ⟨w.heap.size + 1, 3, none⟩ = some (.int .i64 0) := (HR4.out.cell 3).trans rfl
      have z0 := HR4.out.free 0
      have z1 := HR4.out.free 1
      have z2 := HR4.out.free 2
      have z3 := HR4.out.free 3
      go_wp2_with fail
      obtain ⟨hX, hGX⟩ := setK HR4.out (.int .i64 0) (.int .i64 t) (.int .i64 c) (.int .i64 v)
      generalize ((((w4.setCell ⟨w.heap.size + 1, 0, none⟩ (.int .i64 0)).setCell ⟨w.heap.size + 1, 1, none⟩ (.int .i64 t)).setCell ⟨w.heap.size + 1, 2, none⟩ (.int .i64 c)).setCell ⟨w.heap.size + 1, 3, none⟩ (.int .i64 v)) = wX at hX hGX ⊢
      have g0 := (hX.cell 0).trans rfl
      have g1 := (hX.cell 1).trans rfl
      have g2 := (hX.cell 2).trans rfl
      have g3 := (hX.cell 3).trans rfl
      refine bodyPost_ret (v := .tuple #[.agg #[.int .i64 0, .int .i64 t, .int .i64 c, .int .i64 v], .int .i64 0]) (by simp [results, Try.results11, go_sem, g0, g1, g2, g3]) rfl ?_
      exact ⟨by first | rfl | (simp only [HH.out]; rfl) | simp [HH.out], New.set HN4.out hGX (by omega)⟩
    · obtain ⟨hK, hE⟩ := par_2 hb hl
      have HC := Lib.hid (Right_any k)
      rw [hb] at HC
      rw [hK, hE]
      have HL := Lib.hid (Level_any k)
      rw [levI_yes hb, hl] at HL
      change Hid (∀ w, Calls Try.prog 16 _ w fun e w' => e = .returned (.int .i64 2) ∧ New w w') at HL
      have HF := Lib.hid (fieldsOf_any k)
      clear hK hE hb hl
      have HH : Hid True := trivial
      obtain ⟨o, t, c, v⟩ := k
      go_enter Try.func11, Try.ntmps11
      go_wp2_with fail
      with_reducible refine (HC.out _).mono ?_
      rintro e w1 ⟨rfl, hN⟩
      have HB := Lib.hid (((Has.new w 23 #[.int .i64 o, .int .i64 t, .int .i64 c, .int .i64 v]).alloc (.cells #[.int .i64 0, .int .i64 0, .int .i64 0, .int .i64 0] 23)).keep hN)
      have HR := Lib.hid ((Has.new_at (w.alloc (.cells #[.int .i64 o, .int .i64 t, .int .i64 c, .int .i64 v] 23)) 23 #[.int .i64 0, .int .i64 0, .int .i64 0, .int .i64 0] (w.heap.size + 1) (by simp)).keep hN)
      have HN := Lib.hid ((((Chg.refl (fun _ => False) w).alloc _).alloc _).then_new hN)
      clear hN
      have c0 : w1.cell? ⟨w.heap.size, 0, none⟩ = some (.int .i64 o) := (HB.out.cell 0).trans rfl
      have c1 : w1.cell? ⟨w.heap.size, 1, none⟩ = some (.int .i64 t) := (HB.out.cell 1).trans rfl
      have c2 : w1.cell? ⟨w.heap.size, 2, none⟩ = some (.int .i64 c) := (HB.out.cell 2).trans rfl
      have c3 : w1.cell? ⟨w.heap.size, 3, none⟩ = some (.int .i64 v) := (HB.out.cell 3).trans rfl
      go_wp2_with fail
      with_reducible refine (HL.out _).mono ?_
      rintro e w2 ⟨rfl, hN2⟩
      have HB2 := Lib.hid (HB.out.keep hN2)
      have HR2 := Lib.hid (HR.out.keep hN2)
      have HN2 := Lib.hid (HN.out.then_new hN2)
      clear hN2 c0 c1 c2 c3 HB HR HN
      have c0 : w2.cell? ⟨w.heap.size, 0, none⟩ = some (.int .i64 o) := (HB2.out.cell 0).trans rfl
      have c1 : w2.cell? ⟨w.heap.size, 1, none⟩ = some (.int .i64 t) := (HB2.out.cell 1).trans rfl
      have c2 : w2.cell? ⟨w.heap.size, 2, none⟩ = some (.int .i64 c) := (HB2.out.cell 2).trans rfl
      have c3 : w2.cell? ⟨w.heap.size, 3, none⟩ = some (.int .i64 v) := (HB2.out.cell 3).trans rfl
      go_wp2_with fail
      with_reducible refine (HF.out _).mono ?_
      rintro e w3 ⟨rfl, hN3⟩
      have HB3 := Lib.hid (HB2.out.keep hN3)
      have HR3 := Lib.hid (HR2.out.keep hN3)
      have HN3 := Lib.hid (HN2.out.then_new hN3)
      clear hN3 c0 c1 c2 c3 HB2 HR2 HN2
      have c0 : w3.cell? ⟨w.heap.size, 0, none⟩ = some (.int .i64 o) := (HB3.out.cell 0).trans rfl
      have c1 : w3.cell? ⟨w.heap.size, 1, none⟩ = some (.int .i64 t) := (HB3.out.cell 1).trans rfl
      have c2 : w3.cell? ⟨w.heap.size, 2, none⟩ = some (.int .i64 c) := (HB3.out.cell 2).trans rfl
      have c3 : w3.cell? ⟨w.heap.size, 3, none⟩ = some (.int .i64 v) := (HB3.out.cell 3).trans rfl
      have hgx := HR3.out.lt
      have hgb := HB3.out.lt
      go_wp2_with fail
      with_reducible refine (key_any _ _ _ _ _).mono ?_
      rintro e w4 ⟨rfl, hN4⟩
      have HR4 := Lib.hid ((HR3.out.alloc _).keep hN4)
      have HN4 := Lib.hid ((HN3.out.alloc _).then_new hN4)
      clear hN4 c0 c1 c2 c3 HB3 HR3 HN3
      have r0 : w4.cell? ⟨w.heap.size + 1, 0, none⟩ = some (.int .i64 0) := (HR4.out.cell 0).trans rfl
      have r1 : w4.cell? ⟨w.heap.size + 1, 1, none⟩ = some (.int .i64 0) := (HR4.out.cell 1).trans rfl
      have r2 : w4.cell? ⟨w.heap.size + 1, 2, none⟩ = some (.int .i64 0) := (HR4.out.cell 2).trans rfl
      have r3 : w4.cell? ⟨w.heap.size + 1, 3, none⟩ = some (.int .i64 0) := (HR4.out.cell 3).trans rfl
      have z0 := HR4.out.free 0
      have z1 := HR4.out.free 1
      have z2 := HR4.out.free 2
      have z3 := HR4.out.free 3
      go_wp2_with fail
      obtain ⟨hX, hGX⟩ := setK HR4.out (.int .i64 o) (.int .i64 0) (.int .i64 c) (.int .i64 v)
      generalize ((((w4.setCell ⟨w.heap.size + 1, 0, none⟩ (.int .i64 o)).setCell ⟨w.heap.size + 1, 1, none⟩ (.int .i64 0)).setCell ⟨w.heap.size + 1, 2, none⟩ (.int .i64 c)).setCell ⟨w.heap.size + 1, 3, none⟩ (.int .i64 v)) = wX at hX hGX ⊢
      have g0 := (hX.cell 0).trans rfl
      have g1 := (hX.cell 1).trans rfl
      have g2 := (hX.cell 2).trans rfl
      have g3 := (hX.cell 3).trans rfl
      refine bodyPost_ret (v := .tuple #[.agg #[.int .i64 o, .int .i64 0, .int .i64 c, .int .i64 v], .int .i64 0]) (by simp [results, Try.results11, go_sem, g0, g1, g2, g3]) rfl ?_
      exact ⟨by first | rfl | (simp only [HH.out]; rfl) | simp [HH.out], New.set HN4.out hGX (by omega)⟩
    · obtain ⟨hK, hE⟩ := par_3 hb hl
      have HC := Lib.hid (Right_any k)
      rw [hb] at HC
      rw [hK, hE]
      have HL := Lib.hid (Level_any k)
      rw [levI_yes hb, hl] at HL
      change Hid (∀ w, Calls Try.prog 16 _ w fun e w' => e = .returned (.int .i64 3) ∧ New w w') at HL
      have HF := Lib.hid (fieldsOf_any k)
      clear hK hE hb hl
      have HH : Hid True := trivial
      obtain ⟨o, t, c, v⟩ := k
      go_enter Try.func11, Try.ntmps11
      go_wp2_with fail
      with_reducible refine (HC.out _).mono ?_
      rintro e w1 ⟨rfl, hN⟩
      have HB := Lib.hid (((Has.new w 23 #[.int .i64 o, .int .i64 t, .int .i64 c, .int .i64 v]).alloc (.cells #[.int .i64 0, .int .i64 0, .int .i64 0, .int .i64 0] 23)).keep hN)
      have HR := Lib.hid ((Has.new_at (w.alloc (.cells #[.int .i64 o, .int .i64 t, .int .i64 c, .int .i64 v] 23)) 23 #[.int .i64 0, .int .i64 0, .int .i64 0, .int .i64 0] (w.heap.size + 1) (by simp)).keep hN)
      have HN := Lib.hid ((((Chg.refl (fun _ => False) w).alloc _).alloc _).then_new hN)
      clear hN
      have c0 : w1.cell? ⟨w.heap.size, 0, none⟩ = some (.int .i64 o) := (HB.out.cell 0).trans rfl
      have c1 : w1.cell? ⟨w.heap.size, 1, none⟩ = some (.int .i64 t) := (HB.out.cell 1).trans rfl
      have c2 : w1.cell? ⟨w.heap.size, 2, none⟩ = some (.int .i64 c) := (HB.out.cell 2).trans rfl
      have c3 : w1.cell? ⟨w.heap.size, 3, none⟩ = some (.int .i64 v) := (HB.out.cell 3).trans rfl
      go_wp2_with fail
      with_reducible refine (HL.out _).mono ?_
      rintro e w2 ⟨rfl, hN2⟩
      have HB2 := Lib.hid (HB.out.keep hN2)
      have HR2 := Lib.hid (HR.out.keep hN2)
      have HN2 := Lib.hid (HN.out.then_new hN2)
      clear hN2 c0 c1 c2 c3 HB HR HN
      have c0 : w2.cell? ⟨w.heap.size, 0, none⟩ = some (.int .i64 o) := (HB2.out.cell 0).trans rfl
      have c1 : w2.cell? ⟨w.heap.size, 1, none⟩ = some (.int .i64 t) := (HB2.out.cell 1).trans rfl
      have c2 : w2.cell? ⟨w.heap.size, 2, none⟩ = some (.int .i64 c) := (HB2.out.cell 2).trans rfl
      have c3 : w2.cell? ⟨w.heap.size, 3, none⟩ = some (.int .i64 v) := (HB2.out.cell 3).trans rfl
      go_wp2_with fail
      with_reducible refine (HF.out _).mono ?_
      rintro e w3 ⟨rfl, hN3⟩
      have HB3 := Lib.hid (HB2.out.keep hN3)
      have HR3 := Lib.hid (HR2.out.keep hN3)
      have HN3 := Lib.hid (HN2.out.then_new hN3)
      clear hN3 c0 c1 c2 c3 HB2 HR2 HN2
      have c0 : w3.cell? ⟨w.heap.size, 0, none⟩ = some (.int .i64 o) := (HB3.out.cell 0).trans rfl
      have c1 : w3.cell? ⟨w.heap.size, 1, none⟩ = some (.int .i64 t) := (HB3.out.cell 1).trans rfl
      have c2 : w3.cell? ⟨w.heap.size, 2, none⟩ = some (.int .i64 c) := (HB3.out.cell 2).trans rfl
      have c3 : w3.cell? ⟨w.heap.size, 3, none⟩ = some (.int .i64 v) := (HB3.out.cell 3).trans rfl
      have hgx := HR3.out.lt
      have hgb := HB3.out.lt
      go_wp2_with fail
      with_reducible refine (key_any _ _ _ _ _).mono ?_
      rintro e w4 ⟨rfl, hN4⟩
      have HR4 := Lib.hid ((HR3.out.alloc _).keep hN4)
      have HN4 := Lib.hid ((HN3.out.alloc _).then_new hN4)
      clear hN4 c0 c1 c2 c3 HB3 HR3 HN3
      have r0 : w4.cell? ⟨w.heap.size + 1, 0, none⟩ = some (.int .i64 0) := (HR4.out.cell 0).trans rfl
      have r1 : w4.cell? ⟨w.heap.size + 1, 1, none⟩ = some (.int .i64 0) := (HR4.out.cell 1).trans rfl
      have r2 : w4.cell? ⟨w.heap.size + 1, 2, none⟩ = some (.int .i64 0) := (HR4.out.cell 2).trans rfl
      have r3 : w4.cell? ⟨w.heap.size + 1, 3, none⟩ = some (.int .i64 0) := (HR4.out.cell 3).trans rfl
      have z0 := HR4.out.free 0
      have z1 := HR4.out.free 1
      have z2 := HR4.out.free 2
      have z3 := HR4.out.free 3
      go_wp2_with fail
      obtain ⟨hX, hGX⟩ := setK HR4.out (.int .i64 o) (.int .i64 t) (.int .i64 0) (.int .i64 v)
      generalize ((((w4.setCell ⟨w.heap.size + 1, 0, none⟩ (.int .i64 o)).setCell ⟨w.heap.size + 1, 1, none⟩ (.int .i64 t)).setCell ⟨w.heap.size + 1, 2, none⟩ (.int .i64 0)).setCell ⟨w.heap.size + 1, 3, none⟩ (.int .i64 v)) = wX at hX hGX ⊢
      have g0 := (hX.cell 0).trans rfl
      have g1 := (hX.cell 1).trans rfl
      have g2 := (hX.cell 2).trans rfl
      have g3 := (hX.cell 3).trans rfl
      refine bodyPost_ret (v := .tuple #[.agg #[.int .i64 o, .int .i64 t, .int .i64 0, .int .i64 v], .int .i64 0]) (by simp [results, Try.results11, go_sem, g0, g1, g2, g3]) rfl ?_
      exact ⟨by first | rfl | (simp only [HH.out]; rfl) | simp [HH.out], New.set HN4.out hGX (by omega)⟩
end Go.Proofs.Ytkegafkmcdkphaa
