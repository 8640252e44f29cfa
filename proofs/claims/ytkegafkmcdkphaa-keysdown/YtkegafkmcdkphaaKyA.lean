/-
  What package keys does, function by function: within, Right, fieldsOf, key, Index, Contains, Level, checked.
-/
import Derived.Test.YtkegafkmcdkphaaKyM
namespace Go.Proofs.Ytkegafkmcdkphaa
open Go.RowKit
/-- a key as a value -/
abbrev Ky.V (k : Ky) : Value := .agg #[.int .i64 k.o, .int .i64 k.t, .int .i64 k.c, .int .i64 k.v]
theorem within_any (n a b : Int) (w : World) :
    Calls Try.prog 27 #[.int .i64 n, .int .i64 a, .int .i64 b] w fun e w' => e = .returned (.bool (decide (a ≤ n) && decide (n ≤ b))) ∧ w' = w := by
  by_cases h0 : a ≤ n
  · have h0' : decide (a ≤ n) = true := decide_eq_true h0
    go_enter Try.func27, Try.ntmps27
    go_wp2
    go_ret
    first | exact ⟨rfl, rfl⟩ | (rw [h0', Bool.true_and]; exact ⟨rfl, rfl⟩)
  · have h0' : decide (a ≤ n) = false := decide_eq_false h0
    go_enter Try.func27, Try.ntmps27
    go_wp2
    go_ret
    exact ⟨rfl, rfl⟩
def inB (n a b : Int) : Bool := decide (a ≤ n) && decide (n ≤ b)
theorem inB_iff (n a b : Int) : inB n a b = true ↔ a ≤ n ∧ n ≤ b := by unfold inB; simp
/-- the four tests and the two together -/
theorem right_tests (k : Ky) : rightB k = (!((k.o == 0 && k.t != 0) || (k.t == 0 && k.c != 0)) && (inB k.v 1 255 && inB k.o 0 4 && inB k.t 0 4 && inB k.c 0 65535)) := by
  rw [Bool.eq_iff_iff]
  rw [show (rightB k = true ↔ KRight k) from decide_eq_true_iff]
  unfold KRight
  simp only [Bool.and_eq_true, Bool.not_eq_true', Bool.or_eq_false_iff, Bool.and_eq_false_iff, inB_iff, beq_eq_false_iff_ne, bne_eq_false_iff_eq, ne_eq]
  omega
set_option maxRecDepth 100000 in
theorem Right_any (k : Ky) (w : World) : Calls Try.prog 15 #[k.V] w fun e w' => e = .returned (.bool (rightB k)) ∧ New w w' := by
  rw [right_tests]
  have HV := Lib.hid (fun w => within_any k.v 1 255 w)
  have HO := Lib.hid (fun w => within_any k.o 0 4 w)
  have HT := Lib.hid (fun w => within_any k.t 0 4 w)
  have HC := Lib.hid (fun w => within_any k.c 0 65535 w)
  change Hid (∀ w, Calls Try.prog 27 _ w fun e w' => e = .returned (.bool (inB k.v 1 255)) ∧ w' = w) at HV
  change Hid (∀ w, Calls Try.prog 27 _ w fun e w' => e = .returned (.bool (inB k.o 0 4)) ∧ w' = w) at HO
  change Hid (∀ w, Calls Try.prog 27 _ w fun e w' => e = .returned (.bool (inB k.t 0 4)) ∧ w' = w) at HT
  change Hid (∀ w, Calls Try.prog 27 _ w fun e w' => e = .returned (.bool (inB k.c 0 65535)) ∧ w' = w) at HC
  generalize inB k.v 1 255 = bv at HV ⊢
  generalize inB k.o 0 4 = bo at HO ⊢
  generalize inB k.t 0 4 = bt at HT ⊢
  generalize inB k.c 0 65535 = bc at HC ⊢
  obtain ⟨o, t, c, v⟩ := k
  simp only at HV HO HT HC ⊢
  obtain ⟨b0, h0⟩ : ∃ b, (o == 0) = b := ⟨_, rfl⟩
  obtain ⟨b1, h1⟩ : ∃ b, (t == 0) = b := ⟨_, rfl⟩
  obtain ⟨b2, h2⟩ : ∃ b, (c != 0) = b := ⟨_, rfl⟩
  have h1' : (t != 0) = !b1 := by rw [bne, h1]
  rw [h0, h1, h2, h1']
  cases b0 <;> cases b1 <;> cases b2 <;> simp only [Bool.not_true, Bool.not_false] at h1'
  all_goals
    go_enter Try.func15, Try.ntmps15
    go_wp2_with fail
    first
    | (go_ret; exact ⟨rfl, (Chg.refl _ _).alloc _⟩)
    | (with_reducible refine (HV.out _).mono ?_
       rintro e w' ⟨rfl, rfl⟩
       cases bv with
       | false => (go_wp2_with fail; go_ret; exact ⟨rfl, (Chg.refl _ _).alloc _⟩)
       | true =>
         go_wp2_with fail
         with_reducible refine (HO.out _).mono ?_
         rintro e w' ⟨rfl, rfl⟩
         cases bo with
         | false => (go_wp2_with fail; go_ret; exact ⟨rfl, (Chg.refl _ _).alloc _⟩)
         | true =>
           go_wp2_with fail
           with_reducible refine (HT.out _).mono ?_
           rintro e w' ⟨rfl, rfl⟩
           cases bt with
           | false => (go_wp2_with fail; go_ret; exact ⟨rfl, (Chg.refl _ _).alloc _⟩)
           | true =>
             go_wp2_with fail
             with_reducible refine (HC.out _).mono ?_
             rintro e w' ⟨rfl, rfl⟩
             go_wp2_with fail
             go_ret
             exact ⟨rfl, (Chg.refl _ _).alloc _⟩)
theorem fieldsOf_any (k : Ky) (w : World) : Calls Try.prog 23 #[k.V] w fun e w' => e = .returned (.agg #[.int .i64 k.o, .int .i64 k.t, .int .i64 k.c]) ∧ New w w' := by
  obtain ⟨o, t, c, v⟩ := k
  go_enter Try.func23, Try.ntmps23
  go_wp2_with fail
  have hX := Has.new_at (w.alloc (.cells #[.int .i64 o, .int .i64 t, .int .i64 c, .int .i64 v] 23)) 49 #[.int .i64 o, .int .i64 t, .int .i64 c] (w.heap.size + 1) (by simp)
  have hN : New w (((w.alloc (.cells #[.int .i64 o, .int .i64 t, .int .i64 c, .int .i64 v] 23)).alloc (.cells #[.int .i64 o, .int .i64 t, .int .i64 c] 49))) := ((Chg.refl _ w).alloc _).alloc _
  generalize ((w.alloc (.cells #[.int .i64 o, .int .i64 t, .int .i64 c, .int .i64 v] 23)).alloc (.cells #[.int .i64 o, .int .i64 t, .int .i64 c] 49)) = wX at hX hN ⊢
  have g0 := (hX.cell 0).trans rfl
  have g1 := (hX.cell 1).trans rfl
  have g2 := (hX.cell 2).trans rfl
  refine bodyPost_ret (v := .agg #[.int .i64 o, .int .i64 t, .int .i64 c]) (by simp [results, Try.results23, go_sem, g0, g1, g2]) rfl ?_
  exact ⟨rfl, hN⟩
theorem Row_any (k : Ky) (w : World) : Calls Try.prog 26 #[k.V] w fun e w' => e = .returned (.agg #[.int .i64 k.o, .int .i64 k.t, .int .i64 k.c]) ∧ New w w' := by
  obtain ⟨o, t, c, v⟩ := k
  go_enter Try.func26, Try.ntmps26
  go_wp2_with fail
  have hX := Has.new_at (w.alloc (.cells #[.int .i64 o, .int .i64 t, .int .i64 c, .int .i64 v] 23)) 48 #[.int .i64 o, .int .i64 t, .int .i64 c] (w.heap.size + 1) (by simp)
  have hN : New w (((w.alloc (.cells #[.int .i64 o, .int .i64 t, .int .i64 c, .int .i64 v] 23)).alloc (.cells #[.int .i64 o, .int .i64 t, .int .i64 c] 48))) := ((Chg.refl _ w).alloc _).alloc _
  generalize ((w.alloc (.cells #[.int .i64 o, .int .i64 t, .int .i64 c, .int .i64 v] 23)).alloc (.cells #[.int .i64 o, .int .i64 t, .int .i64 c] 48)) = wX at hX hN ⊢
  have g0 := (hX.cell 0).trans rfl
  have g1 := (hX.cell 1).trans rfl
  have g2 := (hX.cell 2).trans rfl
  refine bodyPost_ret (v := .agg #[.int .i64 o, .int .i64 t, .int .i64 c]) (by simp [results, Try.results26, go_sem, g0, g1, g2]) rfl ?_
  exact ⟨rfl, hN⟩
theorem key_any (o t c v : Int) (w : World) : Calls Try.prog 25 #[.agg #[.int .i64 o, .int .i64 t, .int .i64 c], .int .i64 v] w fun e w' => e = .returned (Ky.V ⟨o, t, c, v⟩) ∧ New w w' := by
  go_enter Try.func25, Try.ntmps25
  go_wp2_with fail
  have hX := Has.new_at (w.alloc (.cells #[.int .i64 o, .int .i64 t, .int .i64 c] 49)) 23 #[.int .i64 o, .int .i64 t, .int .i64 c, .int .i64 v] (w.heap.size + 1) (by simp)
  have hN : New w ((w.alloc (.cells #[.int .i64 o, .int .i64 t, .int .i64 c] 49)).alloc (.cells #[.int .i64 o, .int .i64 t, .int .i64 c, .int .i64 v] 23)) := ((Chg.refl _ w).alloc _).alloc _
  generalize ((w.alloc (.cells #[.int .i64 o, .int .i64 t, .int .i64 c] 49)).alloc (.cells #[.int .i64 o, .int .i64 t, .int .i64 c, .int .i64 v] 23)) = wX at hX hN ⊢
  have g0 := (hX.cell 0).trans rfl
  have g1 := (hX.cell 1).trans rfl
  have g2 := (hX.cell 2).trans rfl
  have g3 := (hX.cell 3).trans rfl
  refine bodyPost_ret (v := .agg #[.int .i64 o, .int .i64 t, .int .i64 c, .int .i64 v]) (by simp [results, Try.results25, go_sem, g0, g1, g2, g3]) rfl ?_
  exact ⟨rfl, hN⟩
theorem setK {w : World} {g : Nat} {y0 y1 y2 y3 : Value} (h : Has w g 23 #[y0, y1, y2, y3]) (x0 x1 x2 x3 : Value) :
    Has ((((w.setCell ⟨g, 0, none⟩ x0).setCell ⟨g, 1, none⟩ x1).setCell ⟨g, 2, none⟩ x2).setCell ⟨g, 3, none⟩ x3) g 23 #[x0, x1, x2, x3] ∧
      Chg (· = g) w ((((w.setCell ⟨g, 0, none⟩ x0).setCell ⟨g, 1, none⟩ x1).setCell ⟨g, 2, none⟩ x2).setCell ⟨g, 3, none⟩ x3) := by
  refine ⟨?_, ?_⟩
  · have := (((h.set 0 x0).set 1 x1).set 2 x2).set 3 x3
    simpa using this
  · exact Chg.setCell (S := (· = g)) (Chg.setCell (S := (· = g)) (Chg.setCell (S := (· = g)) (Chg.setCell (S := (· = g)) (Chg.refl _ _) (fun _ => rfl) _) (fun _ => rfl) _) (fun _ => rfl) _) (fun _ => rfl) _
theorem New.set {w w' wX : World} {g : Nat} (hN : New w w') (hG : Chg (· = g) w' wX) (hg : w.heap.size ≤ g) : New w wX := hN.trans hG fun i hi h => by omega
set_option maxRecDepth 100000 in
theorem checked_any (k : Ky) (w : World) : Calls Try.prog 24 #[k.V] w fun e w' => e = .returned (.tuple #[(if rightB k = true then k else kz).V, .int .i64 (if rightB k = true then 0 else 2)]) ∧ New w w' := by
  have HC := Lib.hid (Right_any k)
  obtain ⟨b, hb⟩ : ∃ b, rightB k = b := ⟨_, rfl⟩
  rw [hb] at HC ⊢
  have HH := Lib.hid hb; clear hb
  obtain ⟨o, t, c, v⟩ := k
  go_enter Try.func24, Try.ntmps24
  go_wp2_with fail
  with_reducible refine (HC.out _).mono ?_
  rintro e w' ⟨rfl, hN⟩
  have HB := Lib.hid (((Has.new w 23 #[.int .i64 o, .int .i64 t, .int .i64 c, .int .i64 v]).alloc (.cells #[.int .i64 0, .int .i64 0, .int .i64 0, .int .i64 0] 23)).keep hN)
  have HR := Lib.hid ((Has.new_at (w.alloc (.cells #[.int .i64 o, .int .i64 t, .int .i64 c, .int .i64 v] 23)) 23 #[.int .i64 0, .int .i64 0, .int .i64 0, .int .i64 0] (w.heap.size + 1) (by simp)).keep hN)
  have HN := Lib.hid ((((Chg.refl (fun _ => False) w).alloc _).alloc _).then_new hN)
  clear hN
  have c0 : w'.cell? ⟨w.heap.size, 0, none⟩ = some (.int .i64 o) := (HB.out.cell 0).trans rfl
  have c1 : w'.cell? ⟨w.heap.size, 1, none⟩ = some (.int .i64 t) := (HB.out.cell 1).trans rfl
  have c2 : w'.cell? ⟨w.heap.size, 2, none⟩ = some (.int .i64 c) := (HB.out.cell 2).trans rfl
  have c3 : w'.cell? ⟨w.heap.size, 3, none⟩ = some (.int .i64 v) := (HB.out.cell 3).trans rfl
  have r0 : w'.cell? ⟨w.heap.size + 1, 0, none⟩ = some (.int .i64 0) := (HR.out.cell 0).trans rfl
  have r1 : w'.cell? ⟨w.heap.size + 1, 1, none⟩ = some (.int .i64 0) := (HR.out.cell 1).trans rfl
  have r2 : w'.cell? ⟨w.heap.size + 1, 2, none⟩ = some (.int .i64 0) := (HR.out.cell 2).trans rfl
  have r3 : w'.cell? ⟨w.heap.size + 1, 3, none⟩ = some (.int .i64 0) := (HR.out.cell 3).trans rfl
  have z0 := HR.out.free 0
  have z1 := HR.out.free 1
  have z2 := HR.out.free 2
  have z3 := HR.out.free 3
  cases b with
  | false =>
    go_wp2_with fail
    obtain ⟨hX, hGX⟩ := setK HR.out (.int .i64 0) (.int .i64 0) (.int .i64 0) (.int .i64 0)
    generalize ((((w'.setCell ⟨w.heap.size + 1, 0, none⟩ (.int .i64 0)).setCell ⟨w.heap.size + 1, 1, none⟩ (.int .i64 0)).setCell ⟨w.heap.size + 1, 2, none⟩ (.int .i64 0)).setCell ⟨w.heap.size + 1, 3, none⟩ (.int .i64 0)) = wX at hX hGX ⊢
    have g0 := (hX.cell 0).trans rfl
    have g1 := (hX.cell 1).trans rfl
    have g2 := (hX.cell 2).trans rfl
    have g3 := (hX.cell 3).trans rfl
    refine bodyPost_ret (v := .tuple #[.agg #[.int .i64 0, .int .i64 0, .int .i64 0, .int .i64 0], .int .i64 2]) (by simp [results, Try.results24, go_sem, g0, g1, g2, g3]) rfl ?_
    exact ⟨by first | rfl | (simp only [HH.out]; rfl) | simp [HH.out], New.set HN.out hGX (by omega)⟩
  | true =>
    go_wp2_with fail
    obtain ⟨hX, hGX⟩ := setK HR.out (.int .i64 o) (.int .i64 t) (.int .i64 c) (.int .i64 v)
    generalize ((((w'.setCell ⟨w.heap.size + 1, 0, none⟩ (.int .i64 o)).setCell ⟨w.heap.size + 1, 1, none⟩ (.int .i64 t)).setCell ⟨w.heap.size + 1, 2, none⟩ (.int .i64 c)).setCell ⟨w.heap.size + 1, 3, none⟩ (.int .i64 v)) = wX at hX hGX ⊢
    have g0 := (hX.cell 0).trans rfl
    have g1 := (hX.cell 1).trans rfl
    have g2 := (hX.cell 2).trans rfl
    have g3 := (hX.cell 3).trans rfl
    refine bodyPost_ret (v := .tuple #[.agg #[.int .i64 o, .int .i64 t, .int .i64 c, .int .i64 v], .int .i64 0]) (by simp [results, Try.results24, go_sem, g0, g1, g2, g3]) rfl ?_
    exact ⟨by first | rfl | (simp only [HH.out]; rfl) | simp [HH.out], New.set HN.out hGX (by omega)⟩
end Go.Proofs.Ytkegafkmcdkphaa
