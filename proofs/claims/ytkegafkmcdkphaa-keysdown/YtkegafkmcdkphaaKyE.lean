/-
  What package keys does: Roll, Product, Batch.
-/
import Derived.Test.YtkegafkmcdkphaaKyN
namespace Go.Proofs.Ytkegafkmcdkphaa
open Go.RowKit
def rolE (k : Ky) : Int := if rightB k = true then (if k.v = 255 then 29 else 0) else 2
def rolK (k : Ky) : Ky := if rightB k = true then (if k.v = 255 then kz else ⟨k.o, k.t, k.c, k.v + 1⟩) else kz
def proE (k : Ky) : Int := if levI k = 3 then 0 else 2
def proK (k : Ky) : Ky := if levI k = 3 then k else kz
def batE (o v : Int) : Int := if levI ⟨o, 0, 0, v⟩ = 1 then 0 else 2
def batK (o v : Int) : Ky := if levI ⟨o, 0, 0, v⟩ = 1 then ⟨o, 0, 0, v⟩ else kz
set_option maxRecDepth 100000 in
set_option maxHeartbeats 1000000 in
theorem Roll_any (k : Ky) (w : World) : Calls Try.prog 19 #[k.V] w fun e w' => e = .returned (.tuple #[(rolK k).V, .int .i64 (rolE k)]) ∧ New w w' := by
  obtain ⟨b, hb⟩ : ∃ b, rightB k = b := ⟨_, rfl⟩
  have HC := Lib.hid (Right_any k)
  rw [hb] at HC
  have HH : Hid True := trivial
  unfold rolK rolE
  rw [hb]
  cases b with
  | false =>
    rw [if_neg (by decide), if_neg (by decide)]
    clear hb
    obtain ⟨o, t, c, v⟩ := k
    go_enter Try.func19, Try.ntmps19
    go_wp2_with fail
    with_reducible refine (HC.out _).mono ?_
    rintro e w1 ⟨rfl, hN⟩
    have HB := Lib.hid (((Has.new w 23 #[.int .i64 o, .int .i64 t, .int .i64 c, .int .i64 v]).alloc (.cells #[.int .i64 0, .int .i64 0, .int .i64 0, .int .i64 0] 23)).keep hN)
    have HR := Lib.hid ((Has.new_at (w.alloc (.cells #[.int .i64 o, .int .i64 t, .int .i64 c, .int .i64 v] 23)) 23 #[.int .i64 0, .int .i64 0, .int .i64 0, .int .i64 0] (w.heap.size + 1) (by simp)).keep hN)
    have HN := Lib.hid ((((Chg.refl (fun _ => False) w).alloc _).alloc _).then_new hN)
    clear hN
    have c0 : w1.cell? ⟨w.heap.size, 0, none⟩ = some (.int .i64 o) := (HB.out.cell 0).trans rfl
    have c1 : w1.cell? ⟨w.heap.size, 1, none⟩ = some (.int .i64 t) := (HB.out.cell 1).trans rfl
    have c2 : w1.cell? ⟨w.heap.size, 2, none⟩ = some (.int .i64 c) := (HB.out.cell 2).trans rfl
    have c3 : w1.cell? ⟨w.heap.size, 3, none⟩ = some (.int .i64 v) := (HB.out.cell 3).trans rfl
    have r0 : w1.cell? ⟨w.heap.size + 1, 0, none⟩ = some (.int .i64 0) := (HR.out.cell 0).trans rfl
    have r1 : w1.cell? ⟨w.heap.size + 1, 1, none⟩ = some (.int .i64 0) := (HR.out.cell 1).trans rfl
    have r2 : w1.cell? ⟨w.heap.size + 1, 2, none⟩ = some (.int .i64 0) := (HR.out.cell 2).trans rfl
    have r3 : w1.cell? ⟨w.heap.size + 1, 3, none⟩ = some (.int .i64 0) := (HR.out.cell 3).trans rfl
    have z0 := HR.out.free 0
    have z1 := HR.out.free 1
    have z2 := HR.out.free 2
    have z3 := HR.out.free 3
    go_wp2_with fail
    obtain ⟨hX, hGX⟩ := setK HR.out (.int .i64 0) (.int .i64 0) (.int .i64 0) (.int .i64 0)
    generalize ((((w1.setCell ⟨w.heap.size + 1, 0, none⟩ (.int .i64 0)).setCell ⟨w.heap.size + 1, 1, none⟩ (.int .i64 0)).setCell ⟨w.heap.size + 1, 2, none⟩ (.int .i64 0)).setCell ⟨w.heap.size + 1, 3, none⟩ (.int .i64 0)) = wX at hX hGX ⊢
    have g0 := (hX.cell 0).trans rfl
    have g1 := (hX.cell 1).trans rfl
    have g2 := (hX.cell 2).trans rfl
    have g3 := (hX.cell 3).trans rfl
    refine bodyPost_ret (v := .tuple #[.agg #[.int .i64 0, .int .i64 0, .int .i64 0, .int .i64 0], .int .i64 2]) (by simp [results, Try.results19, go_sem, g0, g1, g2, g3]) rfl ?_
    exact ⟨by first | rfl | (simp only [HH.out]; rfl) | simp [HH.out], New.set HN.out hGX (by omega)⟩
  | true =>
    have hv := (rightB_yes hb).2.2.2.1
    rw [if_pos rfl, if_pos rfl]
    clear hb
    by_cases h : k.v = 255
    · rw [if_pos h, if_pos h]
      have h' : (k.v == 255) = true := beq_iff_eq.2 h
      clear h
      obtain ⟨o, t, c, v⟩ := k
      go_enter Try.func19, Try.ntmps19
      go_wp2_with fail
      with_reducible refine (HC.out _).mono ?_
      rintro e w1 ⟨rfl, hN⟩
      have HB := Lib.hid (((Has.new w 23 #[.int .i64 o, .int .i64 t, .int .i64 c, .int .i64 v]).alloc (.cells #[.int .i64 0, .int .i64 0, .int .i64 0, .int .i64 0] 23)).keep hN)
      have HR := Lib.hid ((Has.new_at (w.alloc (.cells #[.int .i64 o, .int .i64 t, .int .i64 c, .int .i64 v] 23)) 23 #[.int .i64 0, .int .i64 0, .int .i64 0, .int .i64 0] (w.heap.size + 1) (by simp)).keep hN)
      have HN := Lib.hid ((((Chg.refl (fun _ => False) w).alloc _).alloc _).then_new hN)
      clear hN
      have c0 : w1.cell? ⟨w.heap.size, 0, none⟩ = some (.int .i64 o) := (HB.out.cell 0).trans rfl
      have c1 : w1.cell? ⟨w.heap.size, 1, none⟩ = some (.int .i64 t) := (HB.out.cell 1).trans rfl
      have c2 : w1.cell? ⟨w.heap.size, 2, none⟩ = some (.int .i64 c) := (HB.out.cell 2).trans rfl
      have c3 : w1.cell? ⟨w.heap.size, 3, none⟩ = some (.int .i64 v) := (HB.out.cell 3).trans rfl
      have r0 : w1.cell? ⟨w.heap.size + 1, 0, none⟩ = some (.int .i64 0) := (HR.out.cell 0).trans rfl
      have r1 : w1.cell? ⟨w.heap.size + 1, 1, none⟩ = some (.int .i64 0) := (HR.out.cell 1).trans rfl
      have r2 : w1.cell? ⟨w.heap.size + 1, 2, none⟩ = some (.int .i64 0) := (HR.out.cell 2).trans rfl
      have r3 : w1.cell? ⟨w.heap.size + 1, 3, none⟩ = some (.int .i64 0) := (HR.out.cell 3).trans rfl
      have z0 := HR.out.free 0
      have z1 := HR.out.free 1
      have z2 := HR.out.free 2
      have z3 := HR.out.free 3
      go_wp2_with fail
      obtain ⟨hX, hGX⟩ := setK HR.out (.int .i64 0) (.int .i64 0) (.int .i64 0) (.int .i64 0)
      generalize ((((w1.setCell ⟨w.heap.size + 1, 0, none⟩ (.int .i64 0)).setCell ⟨w.heap.size + 1, 1, none⟩ (.int .i64 0)).setCell ⟨w.heap.size + 1, 2, none⟩ (.int .i64 0)).setCell ⟨w.heap.size + 1, 3, none⟩ (.int .i64 0)) = wX at hX hGX ⊢
      have g0 := (hX.cell 0).trans rfl
      have g1 := (hX.cell 1).trans rfl
      have g2 := (hX.cell 2).trans rfl
      have g3 := (hX.cell 3).trans rfl
      refine bodyPost_ret (v := .tuple #[.agg #[.int .i64 0, .int .i64 0, .int .i64 0, .int .i64 0], .int .i64 29]) (by simp [results, Try.results19, go_sem, g0, g1, g2, g3]) rfl ?_
      exact ⟨by first | rfl | (simp only [HH.out]; rfl) | simp [HH.out], New.set HN.out hGX (by omega)⟩
    · rw [if_neg h, if_neg h]
      have h' : (k.v == 255) = false := beq_eq_false_iff_ne.2 h
      clear h
      obtain ⟨o, t, c, v⟩ := k
      go_enter Try.func19, Try.ntmps19
      go_wp2_with fail
      with_reducible refine (HC.out _).mono ?_
      rintro e w1 ⟨rfl, hN⟩
      have HB := Lib.hid (((Has.new w 23 #[.int .i64 o, .int .i64 t, .int .i64 c, .int .i64 v]).alloc (.cells #[.int .i64 0, .int .i64 0, .int .i64 0, .int .i64 0] 23)).keep hN)
      have HR := Lib.hid ((Has.new_at (w.alloc (.cells #[.int .i64 o, .int .i64 t, .int .i64 c, .int .i64 v] 23)) 23 #[.int .i64 0, .int .i64 0, .int .i64 0, .int .i64 0] (w.heap.size + 1) (by simp)).keep hN)
      have HN := Lib.hid ((((Chg.refl (fun _ => False) w).alloc _).alloc _).then_new hN)
      clear hN
      have c0 : w1.cell? ⟨w.heap.size, 0, none⟩ = some (.int .i64 o) := (HB.out.cell 0).trans rfl
      have c1 : w1.cell? ⟨w.heap.size, 1, none⟩ = some (.int .i64 t) := (HB.out.cell 1).trans rfl
      have c2 : w1.cell? ⟨w.heap.size, 2, none⟩ = some (.int .i64 c) := (HB.out.cell 2).trans rfl
      have c3 : w1.cell? ⟨w.heap.size, 3, none⟩ = some (.int .i64 v) := (HB.out.cell 3).trans rfl
      have r0 : w1.cell? ⟨w.heap.size + 1, 0, none⟩ = some (.int .i64 0) := (HR.out.cell 0).trans rfl
      have r1 : w1.cell? ⟨w.heap.size + 1, 1, none⟩ = some (.int .i64 0) := (HR.out.cell 1).trans rfl
      have r2 : w1.cell? ⟨w.heap.size + 1, 2, none⟩ = some (.int .i64 0) := (HR.out.cell 2).trans rfl
      have r3 : w1.cell? ⟨w.heap.size + 1, 3, none⟩ = some (.int .i64 0) := (HR.out.cell 3).trans rfl
      have z0 := HR.out.free 0
      have z1 := HR.out.free 1
      have z2 := HR.out.free 2
      have z3 := HR.out.free 3
      try simp only at hv
      have f3 := HB.out.free 3
      have hlx := HB.out.lt
      have hlr := HR.out.lt
      go_wp2_with fail
      have HR2 := Lib.hid (HR.out.far (p := ⟨w.heap.size, 3, none⟩) (by simp) (.int .i64 (v + 1)))
      have HN2 : Hid (New w (w1.setCell ⟨w.heap.size, 3, none⟩ (.int .i64 (v + 1)))) := Chg.setCell HN.out (fun h => by simp at h) _
      obtain ⟨hX, hGX⟩ := setK HR2.out (.int .i64 o) (.int .i64 t) (.int .i64 c) (.int .i64 (v + 1))
      generalize (((((w1.setCell ⟨w.heap.size, 3, none⟩ (.int .i64 (v + 1))).setCell ⟨w.heap.size + 1, 0, none⟩ (.int .i64 o)).setCell ⟨w.heap.size + 1, 1, none⟩ (.int .i64 t)).setCell ⟨w.heap.size + 1, 2, none⟩ (.int .i64 c)).setCell ⟨w.heap.size + 1, 3, none⟩ (.int .i64 (v + 1))) = wX at hX hGX ⊢
      have g0 := (hX.cell 0).trans rfl
      have g1 := (hX.cell 1).trans rfl
      have g2 := (hX.cell 2).trans rfl
      have g3 := (hX.cell 3).trans rfl
      refine bodyPost_ret (v := .tuple #[.agg #[.int .i64 o, .int .i64 t, .int .i64 c, .int .i64 ((v + 1))], .int .i64 0]) (by simp [results, Try.results19, go_sem, g0, g1, g2, g3]) rfl ?_
      exact ⟨by first | rfl | (simp only [HH.out]; rfl) | simp [HH.out], New.set HN2.out hGX (by omega)⟩
/-- a product as a value -/
abbrev PrV (x0 x1 x2 x3 x4 x5 x6 x7 x9 x10 x11 x12 : Int) (x8 x13 : Bool) : Value := .agg #[.int .i64 x0, .int .i64 x1, .int .i64 x2, .int .i64 x3, .int .i64 x4, .int .i64 x5, .int .i64 x6, .int .i64 x7, .bool x8, .int .i64 x9, .int .i64 x10, .int .i64 x11, .int .i64 x12, .bool x13]
set_option maxRecDepth 100000 in
set_option maxHeartbeats 1000000 in
theorem Product_any (x0 x1 x2 x3 x4 x5 x6 x7 x9 x10 x11 x12 : Int) (x8 x13 : Bool) (w : World) : Calls Try.prog 20 #[PrV x0 x1 x2 x3 x4 x5 x6 x7 x9 x10 x11 x12 x8 x13] w fun e w' => e = .returned (.tuple #[(proK ⟨x1, x0, x3, x4⟩).V, .int .i64 (proE ⟨x1, x0, x3, x4⟩)]) ∧ New w w' := by
  have HL := Lib.hid (Level_any ⟨x1, x0, x3, x4⟩)
  unfold proK proE
  generalize levI ⟨x1, x0, x3, x4⟩ = l at HL ⊢
  by_cases h : l = 3
  · subst h
    rw [if_pos rfl, if_pos rfl]
    have HH : Hid True := trivial
    go_enter Try.func20, Try.ntmps20
    go_wp2_with fail
    with_reducible refine (HL.out _).mono ?_
    rintro e w1 ⟨rfl, hN⟩
    have HB := Lib.hid ((Has.new_at ((w.alloc (.cells #[.int .i64 x0, .int .i64 x1, .int .i64 x2, .int .i64 x3, .int .i64 x4, .int .i64 x5, .int .i64 x6, .int .i64 x7, .bool x8, .int .i64 x9, .int .i64 x10, .int .i64 x11, .int .i64 x12, .bool x13] 41)).alloc (.cells #[.int .i64 0, .int .i64 0, .int .i64 0, .int .i64 0] 23)) 23 #[.int .i64 x1, .int .i64 x0, .int .i64 x3, .int .i64 x4] (w.heap.size + 2) (by simp)).keep hN)
    have HR := Lib.hid (((Has.new_at (w.alloc (.cells #[.int .i64 x0, .int .i64 x1, .int .i64 x2, .int .i64 x3, .int .i64 x4, .int .i64 x5, .int .i64 x6, .int .i64 x7, .bool x8, .int .i64 x9, .int .i64 x10, .int .i64 x11, .int .i64 x12, .bool x13] 41)) 23 #[.int .i64 0, .int .i64 0, .int .i64 0, .int .i64 0] (w.heap.size + 1) (by simp)).alloc (.cells #[.int .i64 x1, .int .i64 x0, .int .i64 x3, .int .i64 x4] 23)).keep hN)
    have HN := Lib.hid (((((Chg.refl (fun _ => False) w).alloc _).alloc _).alloc _).then_new hN)
    clear hN
    have c0 : w1.cell? ⟨w.heap.size + 2, 0, none⟩ = some (.int .i64 x1) := (HB.out.cell 0).trans rfl
    have c1 : w1.cell? ⟨w.heap.size + 2, 1, none⟩ = some (.int .i64 x0) := (HB.out.cell 1).trans rfl
    have c2 : w1.cell? ⟨w.heap.size + 2, 2, none⟩ = some (.int .i64 x3) := (HB.out.cell 2).trans rfl
    have c3 : w1.cell? ⟨w.heap.size + 2, 3, none⟩ = some (.int .i64 x4) := (HB.out.cell 3).trans rfl
    have r0 : w1.cell? ⟨w.heap.size + 1, 0, none⟩ = some (.int .i64 0) := (HR.out.cell 0).trans rfl
    have r1 : w1.cell? ⟨w.heap.size + 1, 1, none⟩ = some (.int .i64 0) := (HR.out.cell 1).trans rfl
    have r2 : w1.cell? ⟨w.heap.size + 1, 2, none⟩ = some (.int .i64 0) := (HR.out.cell 2).trans rfl
    have r3 : w1.cell? ⟨w.heap.size + 1, 3, none⟩ = some (.int .i64 0) := (HR.out.cell 3).trans rfl
    have z0 := HR.out.free 0
    have z1 := HR.out.free 1
    have z2 := HR.out.free 2
    have z3 := HR.out.free 3
    go_wp2_with fail
    obtain ⟨hX, hGX⟩ := setK HR.out (.int .i64 x1) (.int .i64 x0) (.int .i64 x3) (.int .i64 x4)
    generalize ((((w1.setCell ⟨w.heap.size + 1, 0, none⟩ (.int .i64 x1)).setCell ⟨w.heap.size + 1, 1, none⟩ (.int .i64 x0)).setCell ⟨w.heap.size + 1, 2, none⟩ (.int .i64 x3)).setCell ⟨w.heap.size + 1, 3, none⟩ (.int .i64 x4)) = wX at hX hGX ⊢
    have g0 := (hX.cell 0).trans rfl
    have g1 := (hX.cell 1).trans rfl
    have g2 := (hX.cell 2).trans rfl
    have g3 := (hX.cell 3).trans rfl
    refine bodyPost_ret (v := .tuple #[.agg #[.int .i64 x1, .int .i64 x0, .int .i64 x3, .int .i64 x4], .int .i64 0]) (by simp [results, Try.results20, go_sem, g0, g1, g2, g3]) rfl ?_
    exact ⟨by first | rfl | (simp only [HH.out]; rfl) | simp [HH.out], New.set HN.out hGX (by omega)⟩
  · rw [if_neg h, if_neg h]
    have h' : (l != 3) = true := bne_iff_ne.2 h
    clear h
    have HH : Hid True := trivial
    go_enter Try.func20, Try.ntmps20
    go_wp2_with fail
    with_reducible refine (HL.out _).mono ?_
    rintro e w1 ⟨rfl, hN⟩
    have HB := Lib.hid ((Has.new_at ((w.alloc (.cells #[.int .i64 x0, .int .i64 x1, .int .i64 x2, .int .i64 x3, .int .i64 x4, .int .i64 x5, .int .i64 x6, .int .i64 x7, .bool x8, .int .i64 x9, .int .i64 x10, .int .i64 x11, .int .i64 x12, .bool x13] 41)).alloc (.cells #[.int .i64 0, .int .i64 0, .int .i64 0, .int .i64 0] 23)) 23 #[.int .i64 x1, .int .i64 x0, .int .i64 x3, .int .i64 x4] (w.heap.size + 2) (by simp)).keep hN)
    have HR := Lib.hid (((Has.new_at (w.alloc (.cells #[.int .i64 x0, .int .i64 x1, .int .i64 x2, .int .i64 x3, .int .i64 x4, .int .i64 x5, .int .i64 x6, .int .i64 x7, .bool x8, .int .i64 x9, .int .i64 x10, .int .i64 x11, .int .i64 x12, .bool x13] 41)) 23 #[.int .i64 0, .int .i64 0, .int .i64 0, .int .i64 0] (w.heap.size + 1) (by simp)).alloc (.cells #[.int .i64 x1, .int .i64 x0, .int .i64 x3, .int .i64 x4] 23)).keep hN)
    have HN := Lib.hid (((((Chg.refl (fun _ => False) w).alloc _).alloc _).alloc _).then_new hN)
    clear hN
    have c0 : w1.cell? ⟨w.heap.size + 2, 0, none⟩ = some (.int .i64 x1) := (HB.out.cell 0).trans rfl
    have c1 : w1.cell? ⟨w.heap.size + 2, 1, none⟩ = some (.int .i64 x0) := (HB.out.cell 1).trans rfl
    have c2 : w1.cell? ⟨w.heap.size + 2, 2, none⟩ = some (.int .i64 x3) := (HB.out.cell 2).trans rfl
    have c3 : w1.cell? ⟨w.heap.size + 2, 3, none⟩ = some (.int .i64 x4) := (HB.out.cell 3).trans rfl
    have r0 : w1.cell? ⟨w.heap.size + 1, 0, none⟩ = some (.int .i64 0) := (HR.out.cell 0).trans rfl
    have r1 : w1.cell? ⟨w.heap.size + 1, 1, none⟩ = some (.int .i64 0) := (HR.out.cell 1).trans rfl
    have r2 : w1.cell? ⟨w.heap.size + 1, 2, none⟩ = some (.int .i64 0) := (HR.out.cell 2).trans rfl
    have r3 : w1.cell? ⟨w.heap.size + 1, 3, none⟩ = some (.int .i64 0) := (HR.out.cell 3).trans rfl
    have z0 := HR.out.free 0
    have z1 := HR.out.free 1
    have z2 := HR.out.free 2
    have z3 := HR.out.free 3
    go_wp2_with fail
    obtain ⟨hX, hGX⟩ := setK HR.out (.int .i64 0) (.int .i64 0) (.int .i64 0) (.int .i64 0)
    generalize ((((w1.setCell ⟨w.heap.size + 1, 0, none⟩ (.int .i64 0)).setCell ⟨w.heap.size + 1, 1, none⟩ (.int .i64 0)).setCell ⟨w.heap.size + 1, 2, none⟩ (.int .i64 0)).setCell ⟨w.heap.size + 1, 3, none⟩ (.int .i64 0)) = wX at hX hGX ⊢
    have g0 := (hX.cell 0).trans rfl
    have g1 := (hX.cell 1).trans rfl
    have g2 := (hX.cell 2).trans rfl
    have g3 := (hX.cell 3).trans rfl
    refine bodyPost_ret (v := .tuple #[.agg #[.int .i64 0, .int .i64 0, .int .i64 0, .int .i64 0], .int .i64 2]) (by simp [results, Try.results20, go_sem, g0, g1, g2, g3]) rfl ?_
    exact ⟨by first | rfl | (simp only [HH.out]; rfl) | simp [HH.out], New.set HN.out hGX (by omega)⟩
theorem bat_right {o v : Int} (h : o ≠ 0) : levI ⟨o, 0, 0, v⟩ = 1 ↔ rightB ⟨o, 0, 0, v⟩ = true := by
  unfold levI
  rw [lev_1 (k := ⟨o, 0, 0, v⟩) h rfl]
  split <;> simp_all
theorem bat_0 (v : Int) : levI ⟨0, 0, 0, v⟩ ≠ 1 := by
  unfold levI
  rw [lev_0 (k := ⟨0, 0, 0, v⟩) rfl]
  split <;> simp
set_option maxRecDepth 100000 in
set_option maxHeartbeats 1000000 in
theorem Batch_any (o v : Int) (w : World) : Calls Try.prog 21 #[.int .i64 o, .int .i64 v] w fun e w' => e = .returned (.tuple #[(batK o v).V, .int .i64 (batE o v)]) ∧ New w w' := by
  have HC := Lib.hid (checked_any ⟨o, 0, 0, v⟩)
  have HH : Hid True := trivial
  unfold batK batE
  by_cases h0 : o = 0
  · subst h0
    rw [if_neg (bat_0 v), if_neg (bat_0 v)]
    clear HC
    go_enter Try.func21, Try.ntmps21
    go_wp2_with fail
    have hX := Has.new w 23 #[.int .i64 0, .int .i64 0, .int .i64 0, .int .i64 0]
    have hN : New w (w.alloc (.cells #[.int .i64 0, .int .i64 0, .int .i64 0, .int .i64 0] 23)) := (Chg.refl _ w).alloc _
    generalize (w.alloc (.cells #[.int .i64 0, .int .i64 0, .int .i64 0, .int .i64 0] 23)) = wX at hX hN ⊢
    have g0 := (hX.cell 0).trans rfl
    have g1 := (hX.cell 1).trans rfl
    have g2 := (hX.cell 2).trans rfl
    have g3 := (hX.cell 3).trans rfl
    refine bodyPost_ret (v := .tuple #[.agg #[.int .i64 0, .int .i64 0, .int .i64 0, .int .i64 0], .int .i64 2]) (by simp [results, Try.results21, go_sem, g0, g1, g2, g3]) rfl ?_
    exact ⟨rfl, hN⟩
  · simp only [bat_right h0]
    have h0' : (o == 0) = false := beq_eq_false_iff_ne.2 h0
    clear h0
    generalize rightB ⟨o, 0, 0, v⟩ = b at HC ⊢
    cases b with
    | true =>
      change Hid (∀ w, Calls Try.prog 24 #[.agg #[.int .i64 o, .int .i64 0, .int .i64 0, .int .i64 v]] w fun e w' => e = .returned (.tuple #[.agg #[.int .i64 o, .int .i64 0, .int .i64 0, .int .i64 v], .int .i64 0]) ∧ New w w') at HC
      go_enter Try.func21, Try.ntmps21
      go_wp2_with fail
      with_reducible refine (HC.out _).mono ?_
      rintro e w1 ⟨rfl, hN⟩
      have HN := Lib.hid (((Chg.refl (fun _ => False) w).alloc _).then_new hN)
      have HR := Lib.hid ((Has.new w 23 #[.int .i64 0, .int .i64 0, .int .i64 0, .int .i64 0]).keep hN)
      clear hN
      have r0 : w1.cell? ⟨w.heap.size, 0, none⟩ = some (.int .i64 0) := (HR.out.cell 0).trans rfl
      have r1 : w1.cell? ⟨w.heap.size, 1, none⟩ = some (.int .i64 0) := (HR.out.cell 1).trans rfl
      have r2 : w1.cell? ⟨w.heap.size, 2, none⟩ = some (.int .i64 0) := (HR.out.cell 2).trans rfl
      have r3 : w1.cell? ⟨w.heap.size, 3, none⟩ = some (.int .i64 0) := (HR.out.cell 3).trans rfl
      have z0 := HR.out.free 0
      have z1 := HR.out.free 1
      have z2 := HR.out.free 2
      have z3 := HR.out.free 3
      go_wp2_with fail
      obtain ⟨hX, hGX⟩ := setK HR.out (.int .i64 o) (.int .i64 0) (.int .i64 0) (.int .i64 v)
      generalize ((((w1.setCell ⟨w.heap.size, 0, none⟩ (.int .i64 o)).setCell ⟨w.heap.size, 1, none⟩ (.int .i64 0)).setCell ⟨w.heap.size, 2, none⟩ (.int .i64 0)).setCell ⟨w.heap.size, 3, none⟩ (.int .i64 v)) = wX at hX hGX ⊢
      have g0 := (hX.cell 0).trans rfl
      have g1 := (hX.cell 1).trans rfl
      have g2 := (hX.cell 2).trans rfl
      have g3 := (hX.cell 3).trans rfl
      refine bodyPost_ret (v := .tuple #[.agg #[.int .i64 o, .int .i64 0, .int .i64 0, .int .i64 v], .int .i64 0]) (by simp [results, Try.results21, go_sem, g0, g1, g2, g3]) rfl ?_
      exact ⟨by first | rfl | (simp only [HH.out]; rfl) | simp [HH.out], New.set HN.out hGX (by omega)⟩
    | false =>
      change Hid (∀ w, Calls Try.prog 24 #[.agg #[.int .i64 o, .int .i64 0, .int .i64 0, .int .i64 v]] w fun e w' => e = .returned (.tuple #[.agg #[.int .i64 0, .int .i64 0, .int .i64 0, .int .i64 0], .int .i64 2]) ∧ New w w') at HC
      go_enter Try.func21, Try.ntmps21
      go_wp2_with fail
      with_reducible refine (HC.out _).mono ?_
      rintro e w1 ⟨rfl, hN⟩
      have HN := Lib.hid (((Chg.refl (fun _ => False) w).alloc _).then_new hN)
      have HR := Lib.hid ((Has.new w 23 #[.int .i64 0, .int .i64 0, .int .i64 0, .int .i64 0]).keep hN)
      clear hN
      have r0 : w1.cell? ⟨w.heap.size, 0, none⟩ = some (.int .i64 0) := (HR.out.cell 0).trans rfl
      have r1 : w1.cell? ⟨w.heap.size, 1, none⟩ = some (.int .i64 0) := (HR.out.cell 1).trans rfl
      have r2 : w1.cell? ⟨w.heap.size, 2, none⟩ = some (.int .i64 0) := (HR.out.cell 2).trans rfl
      have r3 : w1.cell? ⟨w.heap.size, 3, none⟩ = some (.int .i64 0) := (HR.out.cell 3).trans rfl
      have z0 := HR.out.free 0
      have z1 := HR.out.free 1
      have z2 := HR.out.free 2
      have z3 := HR.out.free 3
      go_wp2_with fail
      obtain ⟨hX, hGX⟩ := setK HR.out (.int .i64 0) (.int .i64 0) (.int .i64 0) (.int .i64 0)
      generalize ((((w1.setCell ⟨w.heap.size, 0, none⟩ (.int .i64 0)).setCell ⟨w.heap.size, 1, none⟩ (.int .i64 0)).setCell ⟨w.heap.size, 2, none⟩ (.int .i64 0)).setCell ⟨w.heap.size, 3, none⟩ (.int .i64 0)) = wX at hX hGX ⊢
      have g0 := (hX.cell 0).trans rfl
      have g1 := (hX.cell 1).trans rfl
      have g2 := (hX.cell 2).trans rfl
      have g3 := (hX.cell 3).trans rfl
      refine bodyPost_ret (v := .tuple #[.agg #[.int .i64 0, .int .i64 0, .int .i64 0, .int .i64 0], .int .i64 2]) (by simp [results, Try.results21, go_sem, g0, g1, g2, g3]) rfl ?_
      exact ⟨by first | rfl | (simp only [HH.out]; rfl) | simp [HH.out], New.set HN.out hGX (by omega)⟩
end Go.Proofs.Ytkegafkmcdkphaa
