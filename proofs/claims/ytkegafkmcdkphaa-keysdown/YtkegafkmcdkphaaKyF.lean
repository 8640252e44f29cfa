/-
  What keys.Derive does.
-/
import Derived.Test.YtkegafkmcdkphaaKyE
namespace Go.Proofs.Ytkegafkmcdkphaa
open Go.RowKit
set_option maxRecDepth 100000 in
set_option maxHeartbeats 2000000 in
theorem Derive_00 (k : Ky) (A : Option Addr) (m : Nat) (p : Nat → Int) (F : Nat → Prop) (w : World) (hA : Arr w F A 0 (fun i => iV (p i))) (hF : ∀ k, F k → k < w.heap.size) (hb : rightB k = true) (hl : lev k = 0) (hz : ∀ i, i < 0 → p i ≠ 0) :
    Calls Try.prog 9 #[k.V, .slice A 0 m] w fun e w' => e = .returned (.tuple #[(derK k 0 p).V, .int .i64 (derE k 0 p)]) ∧ New w w' := by
  have HC := Lib.hid (Right_any k)
  rw [hb] at HC
  rw [derK_fine hb (by omega) hz, derE_fine hb (by omega) hz]
  have HL := Lib.hid (Level_any k)
  rw [levI_yes hb, hl] at HL
  change Hid (∀ w, Calls Try.prog 16 _ w fun e w' => e = .returned (.int .i64 0) ∧ New w w') at HL
  have HQ := Lib.hid (fun w h => Contains_any p A 0 m w F h (by omega))
  have hq : zeroB 0 p = false := by
    unfold zeroB
    rw [decide_eq_false_iff_not]
    rintro ⟨i, hi, hp⟩
    exact hz i hi hp
  rw [hq] at HQ
  have HFo := Lib.hid (fieldsOf_any k)
  have hd := der_places k 0 p
  rw [hl] at hd
  have hd' : derR k 0 p = ⟨k.o, k.t, k.c, k.v⟩ := by rw [hd]; simp
  clear hd hq hz hb hl
  rw [hd']
  have HCh := Lib.hid (checked_any ⟨k.o, k.t, k.c, k.v⟩)
  clear hd'
  have HH : Hid True := trivial
  obtain ⟨d, hdd⟩ : ∃ d : Ky, d = ⟨k.o, k.t, k.c, k.v⟩ := ⟨_, rfl⟩
  generalize rightB _ = b at HCh ⊢
  obtain ⟨o, t, c, v⟩ := k
  go_enter Try.func9, Try.ntmps9
  go_wp2_with fail
  with_reducible refine (HC.out _).mono ?_
  rintro e w1 ⟨rfl, hN⟩
  have HB := Lib.hid (((Has.new w 23 #[.int .i64 o, .int .i64 t, .int .i64 c, .int .i64 v]).alloc (.cells #[.int .i64 0, .int .i64 0, .int .i64 0, .int .i64 0] 23)).keep hN)
  have HR := Lib.hid ((Has.new_at (w.alloc (.cells #[.int .i64 o, .int .i64 t, .int .i64 c, .int .i64 v] 23)) 23 #[.int .i64 0, .int .i64 0, .int .i64 0, .int .i64 0] (w.heap.size + 1) (by simp)).keep hN)
  have HN := Lib.hid ((((Chg.refl (fun _ => False) w).alloc _).alloc _).then_new hN)
  clear hN
  have hA1 := hA.new HN.out hF
  have HA := Lib.hid hA1; clear hA1 hA
  have c0 : w1.cell? ⟨w.heap.size, 0, none⟩ = some (.int .i64 o) := (HB.out.cell 0).trans rfl
  have c1 : w1.cell? ⟨w.heap.size, 1, none⟩ = some (.int .i64 t) := (HB.out.cell 1).trans rfl
  have c2 : w1.cell? ⟨w.heap.size, 2, none⟩ = some (.int .i64 c) := (HB.out.cell 2).trans rfl
  have c3 : w1.cell? ⟨w.heap.size, 3, none⟩ = some (.int .i64 v) := (HB.out.cell 3).trans rfl
  go_wp2_with fail
  with_reducible refine (HL.out _).mono ?_
  rintro e w2 ⟨rfl, hN2⟩
  have HB2 := Lib.hid (HB.out.keep hN2)
  have HR2 := Lib.hid (HR.out.keep hN2)
  have HA2 := Lib.hid (HA.out.new hN2 (fun k hk => Nat.lt_of_lt_of_le (hF k hk) HN.out.size))
  have HN2 := Lib.hid (HN.out.then_new hN2)
  clear hN2 c0 c1 c2 c3 HB HR HN HA
  go_wp2_with fail
  with_reducible refine (HQ.out _ HA2.out).mono ?_
  rintro e w' ⟨rfl, rfl⟩
  have c0 : w'.cell? ⟨w.heap.size, 0, none⟩ = some (.int .i64 o) := (HB2.out.cell 0).trans rfl
  have c1 : w'.cell? ⟨w.heap.size, 1, none⟩ = some (.int .i64 t) := (HB2.out.cell 1).trans rfl
  have c2 : w'.cell? ⟨w.heap.size, 2, none⟩ = some (.int .i64 c) := (HB2.out.cell 2).trans rfl
  have c3 : w'.cell? ⟨w.heap.size, 3, none⟩ = some (.int .i64 v) := (HB2.out.cell 3).trans rfl
  go_wp2_with fail
  with_reducible refine (HFo.out _).mono ?_
  rintro e w3 ⟨rfl, hN3⟩
  have HB3 := Lib.hid (HB2.out.keep hN3)
  have HR3 := Lib.hid (HR2.out.keep hN3)
  have HA3 := Lib.hid (HA2.out.new hN3 (fun k hk => Nat.lt_of_lt_of_le (hF k hk) HN2.out.size))
  have HN3 := Lib.hid (HN2.out.then_new hN3)
  clear hN3 c0 c1 c2 c3 HB2 HR2 HN2 HA2
  have HX := Lib.hid (Has.new w3 49 #[.int .i64 o, .int .i64 t, .int .i64 c])
  have HB4 := Lib.hid (HB3.out.alloc (.cells #[.int .i64 o, .int .i64 t, .int .i64 c] 49))
  have HR4 := Lib.hid (HR3.out.alloc (.cells #[.int .i64 o, .int .i64 t, .int .i64 c] 49))
  have HA4 := Lib.hid (HA3.out.new ((Chg.refl _ _).alloc (.cells #[.int .i64 o, .int .i64 t, .int .i64 c] 49)) (fun k hk => Nat.lt_of_lt_of_le (hF k hk) HN3.out.size))
  have hlb := HB3.out.lt
  have hlr := HR3.out.lt
  go_wp2_with (first | (
    refine wpList_copy_has rfl _ _ rfl w3.heap.size 0 3 3 rfl A 0 m rfl 49 [.int .i64 o, .int .i64 t, .int .i64 c] HX.out F _ HA4.out (fun _ _ => rfl) (by simp) ?_
    intro w5 hH hG
    have HG5 := Lib.hid hG
    have HX5 : Hid (Has w5 w3.heap.size 49 #[.int .i64 o, .int .i64 t, .int .i64 c]) := by
      simp only [splice3, iV, show List.range (Nat.min 0 3) = [] from rfl, List.map_nil] at hH
      skip
      exact hH
    clear hH hG
    have HB5 := Lib.hid (HB4.out.chg HG5.out (by omega))
    have HR5 := Lib.hid (HR4.out.chg HG5.out (by omega))
    have HN5 := Lib.hid (New.set (HN3.out.alloc (.cells #[.int .i64 o, .int .i64 t, .int .i64 c] 49)) HG5.out (by omega))
    have hlb5 := HB5.out.lt
    have hlr5 := HR5.out.lt
    have x0 : w5.cell? ⟨w3.heap.size, 0, none⟩ = some (.int .i64 o) := (HX5.out.cell 0).trans rfl
    have x1 : w5.cell? ⟨w3.heap.size, 1, none⟩ = some (.int .i64 t) := (HX5.out.cell 1).trans rfl
    have x2 : w5.cell? ⟨w3.heap.size, 2, none⟩ = some (.int .i64 c) := (HX5.out.cell 2).trans rfl
    have c0 : w5.cell? ⟨w.heap.size, 0, none⟩ = some (.int .i64 o) := (HB5.out.cell 0).trans rfl
    have c1 : w5.cell? ⟨w.heap.size, 1, none⟩ = some (.int .i64 t) := (HB5.out.cell 1).trans rfl
    have c2 : w5.cell? ⟨w.heap.size, 2, none⟩ = some (.int .i64 c) := (HB5.out.cell 2).trans rfl
    have c3 : w5.cell? ⟨w.heap.size, 3, none⟩ = some (.int .i64 v) := (HB5.out.cell 3).trans rfl) | fail)
  with_reducible refine (key_any _ _ _ _ _).mono ?_
  rintro e w6 ⟨rfl, hN6⟩
  have HR6 := Lib.hid (HR5.out.keep hN6)
  have HN6 := Lib.hid (HN5.out.then_new hN6)
  clear hN6
  cases b with
  | false =>
    change Hid (∀ w, Calls Try.prog 24 #[.agg #[.int .i64 o, .int .i64 t, .int .i64 c, .int .i64 v]] w fun e w' => e = .returned (.tuple #[.agg #[.int .i64 0, .int .i64 0, .int .i64 0, .int .i64 0], .int .i64 2]) ∧ New w w') at HCh
    go_wp2_with fail
    with_reducible refine (HCh.out _).mono ?_
    rintro e w7 ⟨rfl, hN7⟩
    have HR7 := Lib.hid (HR6.out.keep hN7)
    have HN7 := Lib.hid (HN6.out.then_new hN7)
    clear hN7
    have r0 : w7.cell? ⟨w.heap.size + 1, 0, none⟩ = some (.int .i64 0) := (HR7.out.cell 0).trans rfl
    have r1 : w7.cell? ⟨w.heap.size + 1, 1, none⟩ = some (.int .i64 0) := (HR7.out.cell 1).trans rfl
    have r2 : w7.cell? ⟨w.heap.size + 1, 2, none⟩ = some (.int .i64 0) := (HR7.out.cell 2).trans rfl
    have r3 : w7.cell? ⟨w.heap.size + 1, 3, none⟩ = some (.int .i64 0) := (HR7.out.cell 3).trans rfl
    have z0 := HR7.out.free 0
    have z1 := HR7.out.free 1
    have z2 := HR7.out.free 2
    have z3 := HR7.out.free 3
    go_wp2_with fail
    obtain ⟨hX, hGX⟩ := setK HR7.out (.int .i64 0) (.int .i64 0) (.int .i64 0) (.int .i64 0)
    generalize ((((w7.setCell ⟨w.heap.size + 1, 0, none⟩ (.int .i64 0)).setCell ⟨w.heap.size + 1, 1, none⟩ (.int .i64 0)).setCell ⟨w.heap.size + 1, 2, none⟩ (.int .i64 0)).setCell ⟨w.heap.size + 1, 3, none⟩ (.int .i64 0)) = wX at hX hGX ⊢
    have g0 := (hX.cell 0).trans rfl
    have g1 := (hX.cell 1).trans rfl
    have g2 := (hX.cell 2).trans rfl
    have g3 := (hX.cell 3).trans rfl
    refine bodyPost_ret (v := .tuple #[.agg #[.int .i64 0, .int .i64 0, .int .i64 0, .int .i64 0], .int .i64 2]) (by simp [results, Try.results9, go_sem, g0, g1, g2, g3]) rfl ?_
    exact ⟨by first | rfl | (simp only [HH.out]; rfl) | simp [HH.out], New.set HN7.out hGX (by omega)⟩
  | true =>
    change Hid (∀ w, Calls Try.prog 24 #[.agg #[.int .i64 o, .int .i64 t, .int .i64 c, .int .i64 v]] w fun e w' => e = .returned (.tuple #[.agg #[.int .i64 o, .int .i64 t, .int .i64 c, .int .i64 v], .int .i64 0]) ∧ New w w') at HCh
    go_wp2_with fail
    with_reducible refine (HCh.out _).mono ?_
    rintro e w7 ⟨rfl, hN7⟩
    have HR7 := Lib.hid (HR6.out.keep hN7)
    have HN7 := Lib.hid (HN6.out.then_new hN7)
    clear hN7
    have r0 : w7.cell? ⟨w.heap.size + 1, 0, none⟩ = some (.int .i64 0) := (HR7.out.cell 0).trans rfl
    have r1 : w7.cell? ⟨w.heap.size + 1, 1, none⟩ = some (.int .i64 0) := (HR7.out.cell 1).trans rfl
    have r2 : w7.cell? ⟨w.heap.size + 1, 2, none⟩ = some (.int .i64 0) := (HR7.out.cell 2).trans rfl
    have r3 : w7.cell? ⟨w.heap.size + 1, 3, none⟩ = some (.int .i64 0) := (HR7.out.cell 3).trans rfl
    have z0 := HR7.out.free 0
    have z1 := HR7.out.free 1
    have z2 := HR7.out.free 2
    have z3 := HR7.out.free 3
    go_wp2_with fail
    obtain ⟨hX, hGX⟩ := setK HR7.out (.int .i64 o) (.int .i64 t) (.int .i64 c) (.int .i64 v)
    generalize ((((w7.setCell ⟨w.heap.size + 1, 0, none⟩ (.int .i64 o)).setCell ⟨w.heap.size + 1, 1, none⟩ (.int .i64 t)).setCell ⟨w.heap.size + 1, 2, none⟩ (.int .i64 c)).setCell ⟨w.heap.size + 1, 3, none⟩ (.int .i64 v)) = wX at hX hGX ⊢
    have g0 := (hX.cell 0).trans rfl
    have g1 := (hX.cell 1).trans rfl
    have g2 := (hX.cell 2).trans rfl
    have g3 := (hX.cell 3).trans rfl
    refine bodyPost_ret (v := .tuple #[.agg #[.int .i64 o, .int .i64 t, .int .i64 c, .int .i64 v], .int .i64 0]) (by simp [results, Try.results9, go_sem, g0, g1, g2, g3]) rfl ?_
    exact ⟨by first | rfl | (simp only [HH.out]; rfl) | simp [HH.out], New.set HN7.out hGX (by omega)⟩
set_option maxRecDepth 100000 in
set_option maxHeartbeats 2000000 in
theorem Derive_01 (k : Ky) (A : Option Addr) (m : Nat) (p : Nat → Int) (F : Nat → Prop) (w : World) (hA : Arr w F A 1 (fun i => iV (p i))) (hF : ∀ k, F k → k < w.heap.size) (hb : rightB k = true) (hl : lev k = 0) (hz : ∀ i, i < 1 → p i ≠ 0) :
    Calls Try.prog 9 #[k.V, .slice A 1 m] w fun e w' => e = .returned (.tuple #[(derK k 1 p).V, .int .i64 (derE k 1 p)]) ∧ New w w' := by
  have HC := Lib.hid (Right_any k)
  rw [hb] at HC
  rw [derK_fine hb (by omega) hz, derE_fine hb (by omega) hz]
  have HL := Lib.hid (Level_any k)
  rw [levI_yes hb, hl] at HL
  change Hid (∀ w, Calls Try.prog 16 _ w fun e w' => e = .returned (.int .i64 0) ∧ New w w') at HL
  have HQ := Lib.hid (fun w h => Contains_any p A 1 m w F h (by omega))
  have hq : zeroB 1 p = false := by
    unfold zeroB
    rw [decide_eq_false_iff_not]
    rintro ⟨i, hi, hp⟩
    exact hz i hi hp
  rw [hq] at HQ
  have HFo := Lib.hid (fieldsOf_any k)
  have hd := der_places k 1 p
  rw [hl] at hd
  obtain ⟨p0, hp0⟩ : ∃ x, x = p 0 := ⟨_, rfl⟩
  simp only [← hp0] at hd
  have hd' : derR k 1 p = ⟨p0, k.t, k.c, k.v⟩ := by rw [hd]; simp
  clear hd hq hz hb hl
  have Hp0 := Lib.hid hp0; clear hp0
  rw [hd']
  have HCh := Lib.hid (checked_any ⟨p0, k.t, k.c, k.v⟩)
  clear hd'
  have HH : Hid True := trivial
  obtain ⟨d, hdd⟩ : ∃ d : Ky, d = ⟨p0, k.t, k.c, k.v⟩ := ⟨_, rfl⟩
  generalize rightB _ = b at HCh ⊢
  obtain ⟨o, t, c, v⟩ := k
  go_enter Try.func9, Try.ntmps9
  go_wp2_with fail
  with_reducible refine (HC.out _).mono ?_
  rintro e w1 ⟨rfl, hN⟩
  have HB := Lib.hid (((Has.new w 23 #[.int .i64 o, .int .i64 t, .int .i64 c, .int .i64 v]).alloc (.cells #[.int .i64 0, .int .i64 0, .int .i64 0, .int .i64 0] 23)).keep hN)
  have HR := Lib.hid ((Has.new_at (w.alloc (.cells #[.int .i64 o, .int .i64 t, .int .i64 c, .int .i64 v] 23)) 23 #[.int .i64 0, .int .i64 0, .int .i64 0, .int .i64 0] (w.heap.size + 1) (by simp)).keep hN)
  have HN := Lib.hid ((((Chg.refl (fun _ => False) w).alloc _).alloc _).then_new hN)
  clear hN
  have hA1 := hA.new HN.out hF
  have HA := Lib.hid hA1; clear hA1 hA
  have c0 : w1.cell? ⟨w.heap.size, 0, none⟩ = some (.int .i64 o) := (HB.out.cell 0).trans rfl
  have c1 : w1.cell? ⟨w.heap.size, 1, none⟩ = some (.int .i64 t) := (HB.out.cell 1).trans rfl
  have c2 : w1.cell? ⟨w.heap.size, 2, none⟩ = some (.int .i64 c) := (HB.out.cell 2).trans rfl
  have c3 : w1.cell? ⟨w.heap.size, 3, none⟩ = some (.int .i64 v) := (HB.out.cell 3).trans rfl
  go_wp2_with fail
  with_reducible refine (HL.out _).mono ?_
  rintro e w2 ⟨rfl, hN2⟩
  have HB2 := Lib.hid (HB.out.keep hN2)
  have HR2 := Lib.hid (HR.out.keep hN2)
  have HA2 := Lib.hid (HA.out.new hN2 (fun k hk => Nat.lt_of_lt_of_le (hF k hk) HN.out.size))
  have HN2 := Lib.hid (HN.out.then_new hN2)
  clear hN2 c0 c1 c2 c3 HB HR HN HA
  go_wp2_with fail
  with_reducible refine (HQ.out _ HA2.out).mono ?_
  rintro e w' ⟨rfl, rfl⟩
  have c0 : w'.cell? ⟨w.heap.size, 0, none⟩ = some (.int .i64 o) := (HB2.out.cell 0).trans rfl
  have c1 : w'.cell? ⟨w.heap.size, 1, none⟩ = some (.int .i64 t) := (HB2.out.cell 1).trans rfl
  have c2 : w'.cell? ⟨w.heap.size, 2, none⟩ = some (.int .i64 c) := (HB2.out.cell 2).trans rfl
  have c3 : w'.cell? ⟨w.heap.size, 3, none⟩ = some (.int .i64 v) := (HB2.out.cell 3).trans rfl
  go_wp2_with fail
  with_reducible refine (HFo.out _).mono ?_
  rintro e w3 ⟨rfl, hN3⟩
  have HB3 := Lib.hid (HB2.out.keep hN3)
  have HR3 := Lib.hid (HR2.out.keep hN3)
  have HA3 := Lib.hid (HA2.out.new hN3 (fun k hk => Nat.lt_of_lt_of_le (hF k hk) HN2.out.size))
  have HN3 := Lib.hid (HN2.out.then_new hN3)
  clear hN3 c0 c1 c2 c3 HB2 HR2 HN2 HA2
  have HX := Lib.hid (Has.new w3 49 #[.int .i64 o, .int .i64 t, .int .i64 c])
  have HB4 := Lib.hid (HB3.out.alloc (.cells #[.int .i64 o, .int .i64 t, .int .i64 c] 49))
  have HR4 := Lib.hid (HR3.out.alloc (.cells #[.int .i64 o, .int .i64 t, .int .i64 c] 49))
  have HA4 := Lib.hid (HA3.out.new ((Chg.refl _ _).alloc (.cells #[.int .i64 o, .int .i64 t, .int .i64 c] 49)) (fun k hk => Nat.lt_of_lt_of_le (hF k hk) HN3.out.size))
  have hlb := HB3.out.lt
  have hlr := HR3.out.lt
  go_wp2_with (first | (
    refine wpList_copy_has rfl _ _ rfl w3.heap.size 0 3 3 rfl A 1 m rfl 49 [.int .i64 o, .int .i64 t, .int .i64 c] HX.out F _ HA4.out (fun _ _ => rfl) (by simp) ?_
    intro w5 hH hG
    have HG5 := Lib.hid hG
    have HX5 : Hid (Has w5 w3.heap.size 49 #[.int .i64 p0, .int .i64 t, .int .i64 c]) := by
      simp only [splice3, iV, show List.range (Nat.min 1 3) = [0] from rfl, List.map_cons, List.map_nil] at hH
      rw [← Hp0.out] at hH
      exact hH
    clear hH hG
    have HB5 := Lib.hid (HB4.out.chg HG5.out (by omega))
    have HR5 := Lib.hid (HR4.out.chg HG5.out (by omega))
    have HN5 := Lib.hid (New.set (HN3.out.alloc (.cells #[.int .i64 o, .int .i64 t, .int .i64 c] 49)) HG5.out (by omega))
    have hlb5 := HB5.out.lt
    have hlr5 := HR5.out.lt
    have x0 : w5.cell? ⟨w3.heap.size, 0, none⟩ = some (.int .i64 p0) := (HX5.out.cell 0).trans rfl
    have x1 : w5.cell? ⟨w3.heap.size, 1, none⟩ = some (.int .i64 t) := (HX5.out.cell 1).trans rfl
    have x2 : w5.cell? ⟨w3.heap.size, 2, none⟩ = some (.int .i64 c) := (HX5.out.cell 2).trans rfl
    have c0 : w5.cell? ⟨w.heap.size, 0, none⟩ = some (.int .i64 o) := (HB5.out.cell 0).trans rfl
    have c1 : w5.cell? ⟨w.heap.size, 1, none⟩ = some (.int .i64 t) := (HB5.out.cell 1).trans rfl
    have c2 : w5.cell? ⟨w.heap.size, 2, none⟩ = some (.int .i64 c) := (HB5.out.cell 2).trans rfl
    have c3 : w5.cell? ⟨w.heap.size, 3, none⟩ = some (.int .i64 v) := (HB5.out.cell 3).trans rfl) | fail)
  with_reducible refine (key_any _ _ _ _ _).mono ?_
  rintro e w6 ⟨rfl, hN6⟩
  have HR6 := Lib.hid (HR5.out.keep hN6)
  have HN6 := Lib.hid (HN5.out.then_new hN6)
  clear hN6
  cases b with
  | false =>
    change Hid (∀ w, Calls Try.prog 24 #[.agg #[.int .i64 p0, .int .i64 t, .int .i64 c, .int .i64 v]] w fun e w' => e = .returned (.tuple #[.agg #[.int .i64 0, .int .i64 0, .int .i64 0, .int .i64 0], .int .i64 2]) ∧ New w w') at HCh
    go_wp2_with fail
    with_reducible refine (HCh.out _).mono ?_
    rintro e w7 ⟨rfl, hN7⟩
    have HR7 := Lib.hid (HR6.out.keep hN7)
    have HN7 := Lib.hid (HN6.out.then_new hN7)
    clear hN7
    have r0 : w7.cell? ⟨w.heap.size + 1, 0, none⟩ = some (.int .i64 0) := (HR7.out.cell 0).trans rfl
    have r1 : w7.cell? ⟨w.heap.size + 1, 1, none⟩ = some (.int .i64 0) := (HR7.out.cell 1).trans rfl
    have r2 : w7.cell? ⟨w.heap.size + 1, 2, none⟩ = some (.int .i64 0) := (HR7.out.cell 2).trans rfl
    have r3 : w7.cell? ⟨w.heap.size + 1, 3, none⟩ = some (.int .i64 0) := (HR7.out.cell 3).trans rfl
    have z0 := HR7.out.free 0
    have z1 := HR7.out.free 1
    have z2 := HR7.out.free 2
    have z3 := HR7.out.free 3
    go_wp2_with fail
    obtain ⟨hX, hGX⟩ := setK HR7.out (.int .i64 0) (.int .i64 0) (.int .i64 0) (.int .i64 0)
    generalize ((((w7.setCell ⟨w.heap.size + 1, 0, none⟩ (.int .i64 0)).setCell ⟨w.heap.size + 1, 1, none⟩ (.int .i64 0)).setCell ⟨w.heap.size + 1, 2, none⟩ (.int .i64 0)).setCell ⟨w.heap.size + 1, 3, none⟩ (.int .i64 0)) = wX at hX hGX ⊢
    have g0 := (hX.cell 0).trans rfl
    have g1 := (hX.cell 1).trans rfl
    have g2 := (hX.cell 2).trans rfl
    have g3 := (hX.cell 3).trans rfl
    refine bodyPost_ret (v := .tuple #[.agg #[.int .i64 0, .int .i64 0, .int .i64 0, .int .i64 0], .int .i64 2]) (by simp [results, Try.results9, go_sem, g0, g1, g2, g3]) rfl ?_
    exact ⟨by first | rfl | (simp only [HH.out]; rfl) | simp [HH.out], New.set HN7.out hGX (by omega)⟩
  | true =>
    change Hid (∀ w, Calls Try.prog 24 #[.agg #[.int .i64 p0, .int .i64 t, .int .i64 c, .int .i64 v]] w fun e w' => e = .returned (.tuple #[.agg #[.int .i64 p0, .int .i64 t, .int .i64 c, .int .i64 v], .int .i64 0]) ∧ New w w') at HCh
    go_wp2_with fail
    with_reducible refine (HCh.out _).mono ?_
    rintro e w7 ⟨rfl, hN7⟩
    have HR7 := Lib.hid (HR6.out.keep hN7)
    have HN7 := Lib.hid (HN6.out.then_new hN7)
    clear hN7
    have r0 : w7.cell? ⟨w.heap.size + 1, 0, none⟩ = some (.int .i64 0) := (HR7.out.cell 0).trans rfl
    have r1 : w7.cell? ⟨w.heap.size + 1, 1, none⟩ = some (.int .i64 0) := (HR7.out.cell 1).trans rfl
    have r2 : w7.cell? ⟨w.heap.size + 1, 2, none⟩ = some (.int .i64 0) := (HR7.out.cell 2).trans rfl
    have r3 : w7.cell? ⟨w.heap.size + 1, 3, none⟩ = some (.int .i64 0) := (HR7.out.cell 3).trans rfl
    have z0 := HR7.out.free 0
    have z1 := HR7.out.free 1
    have z2 := HR7.out.free 2
    have z3 := HR7.out.free 3
    go_wp2_with fail
    obtain ⟨hX, hGX⟩ := setK HR7.out (.int .i64 p0) (.int .i64 t) (.int .i64 c) (.int .i64 v)
    generalize ((((w7.setCell ⟨w.heap.size + 1, 0, none⟩ (.int .i64 p0)).setCell ⟨w.heap.size + 1, 1, none⟩ (.int .i64 t)).setCell ⟨w.heap.size + 1, 2, none⟩ (.int .i64 c)).setCell ⟨w.heap.size + 1, 3, none⟩ (.int .i64 v)) = wX at hX hGX ⊢
    have g0 := (hX.cell 0).trans rfl
    have g1 := (hX.cell 1).trans rfl
    have g2 := (hX.cell 2).trans rfl
    have g3 := (hX.cell 3).trans rfl
    refine bodyPost_ret (v := .tuple #[.agg #[.int .i64 p0, .int .i64 t, .int .i64 c, .int .i64 v], .int .i64 0]) (by simp [results, Try.results9, go_sem, g0, g1, g2, g3]) rfl ?_
    exact ⟨by first | rfl | (simp only [HH.out]; rfl) | simp [HH.out], New.set HN7.out hGX (by omega)⟩
set_option maxRecDepth 100000 in
set_option maxHeartbeats 2000000 in
theorem Derive_02 (k : Ky) (A : Option Addr) (m : Nat) (p : Nat → Int) (F : Nat → Prop) (w : World) (hA : Arr w F A 2 (fun i => iV (p i))) (hF : ∀ k, F k → k < w.heap.size) (hb : rightB k = true) (hl : lev k = 0) (hz : ∀ i, i < 2 → p i ≠ 0) :
    Calls Try.prog 9 #[k.V, .slice A 2 m] w fun e w' => e = .returned (.tuple #[(derK k 2 p).V, .int .i64 (derE k 2 p)]) ∧ New w w' := by
  have HC := Lib.hid (Right_any k)
  rw [hb] at HC
  rw [derK_fine hb (by omega) hz, derE_fine hb (by omega) hz]
  have HL := Lib.hid (Level_any k)
  rw [levI_yes hb, hl] at HL
  change Hid (∀ w, Calls Try.prog 16 _ w fun e w' => e = .returned (.int .i64 0) ∧ New w w') at HL
  have HQ := Lib.hid (fun w h => Contains_any p A 2 m w F h (by omega))
  have hq : zeroB 2 p = false := by
    unfold zeroB
    rw [decide_eq_false_iff_not]
    rintro ⟨i, hi, hp⟩
    exact hz i hi hp
  rw [hq] at HQ
  have HFo := Lib.hid (fieldsOf_any k)
  have hd := der_places k 2 p
  rw [hl] at hd
  obtain ⟨p0, hp0⟩ : ∃ x, x = p 0 := ⟨_, rfl⟩
  obtain ⟨p1, hp1⟩ : ∃ x, x = p 1 := ⟨_, rfl⟩
  simp only [← hp0, ← hp1] at hd
  have hd' : derR k 2 p = ⟨p0, p1, k.c, k.v⟩ := by rw [hd]; simp
  clear hd hq hz hb hl
  have Hp0 := Lib.hid hp0; clear hp0
  have Hp1 := Lib.hid hp1; clear hp1
  rw [hd']
  have HCh := Lib.hid (checked_any ⟨p0, p1, k.c, k.v⟩)
  clear hd'
  have HH : Hid True := trivial
  obtain ⟨d, hdd⟩ : ∃ d : Ky, d = ⟨p0, p1, k.c, k.v⟩ := ⟨_, rfl⟩
  generalize rightB _ = b at HCh ⊢
  obtain ⟨o, t, c, v⟩ := k
  go_enter Try.func9, Try.ntmps9
  go_wp2_with fail
  with_reducible refine (HC.out _).mono ?_
  rintro e w1 ⟨rfl, hN⟩
  have HB := Lib.hid (((Has.new w 23 #[.int .i64 o, .int .i64 t, .int .i64 c, .int .i64 v]).alloc (.cells #[.int .i64 0, .int .i64 0, .int .i64 0, .int .i64 0] 23)).keep hN)
  have HR := Lib.hid ((Has.new_at (w.alloc (.cells #[.int .i64 o, .int .i64 t, .int .i64 c, .int .i64 v] 23)) 23 #[.int .i64 0, .int .i64 0, .int .i64 0, .int .i64 0] (w.heap.size + 1) (by simp)).keep hN)
  have HN := Lib.hid ((((Chg.refl (fun _ => False) w).alloc _).alloc _).then_new hN)
  clear hN
  have hA1 := hA.new HN.out hF
  have HA := Lib.hid hA1; clear hA1 hA
  have c0 : w1.cell? ⟨w.heap.size, 0, none⟩ = some (.int .i64 o) := (HB.out.cell 0).trans rfl
  have c1 : w1.cell? ⟨w.heap.size, 1, none⟩ = some (.int .i64 t) := (HB.out.cell 1).trans rfl
  have c2 : w1.cell? ⟨w.heap.size, 2, none⟩ = some (.int .i64 c) := (HB.out.cell 2).trans rfl
  have c3 : w1.cell? ⟨w.heap.size, 3, none⟩ = some (.int .i64 v) := (HB.out.cell 3).trans rfl
  go_wp2_with fail
  with_reducible refine (HL.out _).mono ?_
  rintro e w2 ⟨rfl, hN2⟩
  have HB2 := Lib.hid (HB.out.keep hN2)
  have HR2 := Lib.hid (HR.out.keep hN2)
  have HA2 := Lib.hid (HA.out.new hN2 (fun k hk => Nat.lt_of_lt_of_le (hF k hk) HN.out.size))
  have HN2 := Lib.hid (HN.out.then_new hN2)
  clear hN2 c0 c1 c2 c3 HB HR HN HA
  go_wp2_with fail
  with_reducible refine (HQ.out _ HA2.out).mono ?_
  rintro e w' ⟨rfl, rfl⟩
  have c0 : w'.cell? ⟨w.heap.size, 0, none⟩ = some (.int .i64 o) := (HB2.out.cell 0).trans rfl
  have c1 : w'.cell? ⟨w.heap.size, 1, none⟩ = some (.int .i64 t) := (HB2.out.cell 1).trans rfl
  have c2 : w'.cell? ⟨w.heap.size, 2, none⟩ = some (.int .i64 c) := (HB2.out.cell 2).trans rfl
  have c3 : w'.cell? ⟨w.heap.size, 3, none⟩ = some (.int .i64 v) := (HB2.out.cell 3).trans rfl
  go_wp2_with fail
  with_reducible refine (HFo.out _).mono ?_
  rintro e w3 ⟨rfl, hN3⟩
  have HB3 := Lib.hid (HB2.out.keep hN3)
  have HR3 := Lib.hid (HR2.out.keep hN3)
  have HA3 := Lib.hid (HA2.out.new hN3 (fun k hk => Nat.lt_of_lt_of_le (hF k hk) HN2.out.size))
  have HN3 := Lib.hid (HN2.out.then_new hN3)
  clear hN3 c0 c1 c2 c3 HB2 HR2 HN2 HA2
  have HX := Lib.hid (Has.new w3 49 #[.int .i64 o, .int .i64 t, .int .i64 c])
  have HB4 := Lib.hid (HB3.out.alloc (.cells #[.int .i64 o, .int .i64 t, .int .i64 c] 49))
  have HR4 := Lib.hid (HR3.out.alloc (.cells #[.int .i64 o, .int .i64 t, .int .i64 c] 49))
  have HA4 := Lib.hid (HA3.out.new ((Chg.refl _ _).alloc (.cells #[.int .i64 o, .int .i64 t, .int .i64 c] 49)) (fun k hk => Nat.lt_of_lt_of_le (hF k hk) HN3.out.size))
  have hlb := HB3.out.lt
  have hlr := HR3.out.lt
  go_wp2_with (first | (
    refine wpList_copy_has rfl _ _ rfl w3.heap.size 0 3 3 rfl A 2 m rfl 49 [.int .i64 o, .int .i64 t, .int .i64 c] HX.out F _ HA4.out (fun _ _ => rfl) (by simp) ?_
    intro w5 hH hG
    have HG5 := Lib.hid hG
    have HX5 : Hid (Has w5 w3.heap.size 49 #[.int .i64 p0, .int .i64 p1, .int .i64 c]) := by
      simp only [splice3, iV, show List.range (Nat.min 2 3) = [0, 1] from rfl, List.map_cons, List.map_nil] at hH
      rw [← Hp0.out, ← Hp1.out] at hH
      exact hH
    clear hH hG
    have HB5 := Lib.hid (HB4.out.chg HG5.out (by omega))
    have HR5 := Lib.hid (HR4.out.chg HG5.out (by omega))
    have HN5 := Lib.hid (New.set (HN3.out.alloc (.cells #[.int .i64 o, .int .i64 t, .int .i64 c] 49)) HG5.out (by omega))
    have hlb5 := HB5.out.lt
    have hlr5 := HR5.out.lt
    have x0 : w5.cell? ⟨w3.heap.size, 0, none⟩ = some (.int .i64 p0) := (HX5.out.cell 0).trans rfl
    have x1 : w5.cell? ⟨w3.heap.size, 1, none⟩ = some (.int .i64 p1) := (HX5.out.cell 1).trans rfl
    have x2 : w5.cell? ⟨w3.heap.size, 2, none⟩ = some (.int .i64 c) := (HX5.out.cell 2).trans rfl
    have c0 : w5.cell? ⟨w.heap.size, 0, none⟩ = some (.int .i64 o) := (HB5.out.cell 0).trans rfl
    have c1 : w5.cell? ⟨w.heap.size, 1, none⟩ = some (.int .i64 t) := (HB5.out.cell 1).trans rfl
    have c2 : w5.cell? ⟨w.heap.size, 2, none⟩ = some (.int .i64 c) := (HB5.out.cell 2).trans rfl
    have c3 : w5.cell? ⟨w.heap.size, 3, none⟩ = some (.int .i64 v) := (HB5.out.cell 3).trans rfl) | fail)
  with_reducible refine (key_any _ _ _ _ _).mono ?_
  rintro e w6 ⟨rfl, hN6⟩
  have HR6 := Lib.hid (HR5.out.keep hN6)
  have HN6 := Lib.hid (HN5.out.then_new hN6)
  clear hN6
  cases b with
  | false =>
    change Hid (∀ w, Calls Try.prog 24 #[.agg #[.int .i64 p0, .int .i64 p1, .int .i64 c, .int .i64 v]] w fun e w' => e = .returned (.tuple #[.agg #[.int .i64 0, .int .i64 0, .int .i64 0, .int .i64 0], .int .i64 2]) ∧ New w w') at HCh
    go_wp2_with fail
    with_reducible refine (HCh.out _).mono ?_
    rintro e w7 ⟨rfl, hN7⟩
    have HR7 := Lib.hid (HR6.out.keep hN7)
    have HN7 := Lib.hid (HN6.out.then_new hN7)
    clear hN7
    have r0 : w7.cell? ⟨w.heap.size + 1, 0, none⟩ = some (.int .i64 0) := (HR7.out.cell 0).trans rfl
    have r1 : w7.cell? ⟨w.heap.size + 1, 1, none⟩ = some (.int .i64 0) := (HR7.out.cell 1).trans rfl
    have r2 : w7.cell? ⟨w.heap.size + 1, 2, none⟩ = some (.int .i64 0) := (HR7.out.cell 2).trans rfl
    have r3 : w7.cell? ⟨w.heap.size + 1, 3, none⟩ = some (.int .i64 0) := (HR7.out.cell 3).trans rfl
    have z0 := HR7.out.free 0
    have z1 := HR7.out.free 1
    have z2 := HR7.out.free 2
    have z3 := HR7.out.free 3
    go_wp2_with fail
    obtain ⟨hX, hGX⟩ := setK HR7.out (.int .i64 0) (.int .i64 0) (.int .i64 0) (.int .i64 0)
    generalize ((((w7.setCell ⟨w.heap.size + 1, 0, none⟩ (.int .i64 0)).setCell ⟨w.heap.size + 1, 1, none⟩ (.int .i64 0)).setCell ⟨w.heap.size + 1, 2, none⟩ (.int .i64 0)).setCell ⟨w.heap.size + 1, 3, none⟩ (.int .i64 0)) = wX at hX hGX ⊢
    have g0 := (hX.cell 0).trans rfl
    have g1 := (hX.cell 1).trans rfl
    have g2 := (hX.cell 2).trans rfl
    have g3 := (hX.cell 3).trans rfl
    refine bodyPost_ret (v := .tuple #[.agg #[.int .i64 0, .int .i64 0, .int .i64 0, .int .i64 0], .int .i64 2]) (by simp [results, Try.results9, go_sem, g0, g1, g2, g3]) rfl ?_
    exact ⟨by first | rfl | (simp only [HH.out]; rfl) | simp [HH.out], New.set HN7.out hGX (by omega)⟩
  | true =>
    change Hid (∀ w, Calls Try.prog 24 #[.agg #[.int .i64 p0, .int .i64 p1, .int .i64 c, .int .i64 v]] w fun e w' => e = .returned (.tuple #[.agg #[.int .i64 p0, .int .i64 p1, .int .i64 c, .int .i64 v], .int .i64 0]) ∧ New w w') at HCh
    go_wp2_with fail
    with_reducible refine (HCh.out _).mono ?_
    rintro e w7 ⟨rfl, hN7⟩
    have HR7 := Lib.hid (HR6.out.keep hN7)
    have HN7 := Lib.hid (HN6.out.then_new hN7)
    clear hN7
    have r0 : w7.cell? ⟨w.heap.size + 1, 0, none⟩ = some (.int .i64 0) := (HR7.out.cell 0).trans rfl
    have r1 : w7.cell? ⟨w.heap.size + 1, 1, none⟩ = some (.int .i64 0) := (HR7.out.cell 1).trans rfl
    have r2 : w7.cell? ⟨w.heap.size + 1, 2, none⟩ = some (.int .i64 0) := (HR7.out.cell 2).trans rfl
    have r3 : w7.cell? ⟨w.heap.size + 1, 3, none⟩ = some (.int .i64 0) := (HR7.out.cell 3).trans rfl
    have z0 := HR7.out.free 0
    have z1 := HR7.out.free 1
    have z2 := HR7.out.free 2
    have z3 := HR7.out.free 3
    go_wp2_with fail
    obtain ⟨hX, hGX⟩ := setK HR7.out (.int .i64 p0) (.int .i64 p1) (.int .i64 c) (.int .i64 v)
    generalize ((((w7.setCell ⟨w.heap.size + 1, 0, none⟩ (.int .i64 p0)).setCell ⟨w.heap.size + 1, 1, none⟩ (.int .i64 p1)).setCell ⟨w.heap.size + 1, 2, none⟩ (.int .i64 c)).setCell ⟨w.heap.size + 1, 3, none⟩ (.int .i64 v)) = wX at hX hGX ⊢
    have g0 := (hX.cell 0).trans rfl
    have g1 := (hX.cell 1).trans rfl
    have g2 := (hX.cell 2).trans rfl
    have g3 := (hX.cell 3).trans rfl
    refine bodyPost_ret (v := .tuple #[.agg #[.int .i64 p0, .int .i64 p1, .int .i64 c, .int .i64 v], .int .i64 0]) (by simp [results, Try.results9, go_sem, g0, g1, g2, g3]) rfl ?_
    exact ⟨by first | rfl | (simp only [HH.out]; rfl) | simp [HH.out], New.set HN7.out hGX (by omega)⟩
set_option maxRecDepth 100000 in
set_option maxHeartbeats 2000000 in
theorem Derive_03 (k : Ky) (A : Option Addr) (m : Nat) (p : Nat → Int) (F : Nat → Prop) (w : World) (hA : Arr w F A 3 (fun i => iV (p i))) (hF : ∀ k, F k → k < w.heap.size) (hb : rightB k = true) (hl : lev k = 0) (hz : ∀ i, i < 3 → p i ≠ 0) :
    Calls Try.prog 9 #[k.V, .slice A 3 m] w fun e w' => e = .returned (.tuple #[(derK k 3 p).V, .int .i64 (derE k 3 p)]) ∧ New w w' := by
  have HC := Lib.hid (Right_any k)
  rw [hb] at HC
  rw [derK_fine hb (by omega) hz, derE_fine hb (by omega) hz]
  have HL := Lib.hid (Level_any k)
  rw [levI_yes hb, hl] at HL
  change Hid (∀ w, Calls Try.prog 16 _ w fun e w' => e = .returned (.int .i64 0) ∧ New w w') at HL
  have HQ := Lib.hid (fun w h => Contains_any p A 3 m w F h (by omega))
  have hq : zeroB 3 p = false := by
    unfold zeroB
    rw [decide_eq_false_iff_not]
    rintro ⟨i, hi, hp⟩
    exact hz i hi hp
  rw [hq] at HQ
  have HFo := Lib.hid (fieldsOf_any k)
  have hd := der_places k 3 p
  rw [hl] at hd
  obtain ⟨p0, hp0⟩ : ∃ x, x = p 0 := ⟨_, rfl⟩
  obtain ⟨p1, hp1⟩ : ∃ x, x = p 1 := ⟨_, rfl⟩
  obtain ⟨p2, hp2⟩ : ∃ x, x = p 2 := ⟨_, rfl⟩
  simp only [← hp0, ← hp1, ← hp2] at hd
  have hd' : derR k 3 p = ⟨p0, p1, p2, k.v⟩ := by rw [hd]; simp
  clear hd hq hz hb hl
  have Hp0 := Lib.hid hp0; clear hp0
  have Hp1 := Lib.hid hp1; clear hp1
  have Hp2 := Lib.hid hp2; clear hp2
  rw [hd']
  have HCh := Lib.hid (checked_any ⟨p0, p1, p2, k.v⟩)
  clear hd'
  have HH : Hid True := trivial
  obtain ⟨d, hdd⟩ : ∃ d : Ky, d = ⟨p0, p1, p2, k.v⟩ := ⟨_, rfl⟩
  generalize rightB _ = b at HCh ⊢
  obtain ⟨o, t, c, v⟩ := k
  go_enter Try.func9, Try.ntmps9
  go_wp2_with fail
  with_reducible refine (HC.out _).mono ?_
  rintro e w1 ⟨rfl, hN⟩
  have HB := Lib.hid (((Has.new w 23 #[.int .i64 o, .int .i64 t, .int .i64 c, .int .i64 v]).alloc (.cells #[.int .i64 0, .int .i64 0, .int .i64 0, .int .i64 0] 23)).keep hN)
  have HR := Lib.hid ((Has.new_at (w.alloc (.cells #[.int .i64 o, .int .i64 t, .int .i64 c, .int .i64 v] 23)) 23 #[.int .i64 0, .int .i64 0, .int .i64 0, .int .i64 0] (w.heap.size + 1) (by simp)).keep hN)
  have HN := Lib.hid ((((Chg.refl (fun _ => False) w).alloc _).alloc _).then_new hN)
  clear hN
  have hA1 := hA.new HN.out hF
  have HA := Lib.hid hA1; clear hA1 hA
  have c0 : w1.cell? ⟨w.heap.size, 0, none⟩ = some (.int .i64 o) := (HB.out.cell 0).trans rfl
  have c1 : w1.cell? ⟨w.heap.size, 1, none⟩ = some (.int .i64 t) := (HB.out.cell 1).trans rfl
  have c2 : w1.cell? ⟨w.heap.size, 2, none⟩ = some (.int .i64 c) := (HB.out.cell 2).trans rfl
  have c3 : w1.cell? ⟨w.heap.size, 3, none⟩ = some (.int .i64 v) := (HB.out.cell 3).trans rfl
  go_wp2_with fail
  with_reducible refine (HL.out _).mono ?_
  rintro e w2 ⟨rfl, hN2⟩
  have HB2 := Lib.hid (HB.out.keep hN2)
  have HR2 := Lib.hid (HR.out.keep hN2)
  have HA2 := Lib.hid (HA.out.new hN2 (fun k hk => Nat.lt_of_lt_of_le (hF k hk) HN.out.size))
  have HN2 := Lib.hid (HN.out.then_new hN2)
  clear hN2 c0 c1 c2 c3 HB HR HN HA
  go_wp2_with fail
  with_reducible refine (HQ.out _ HA2.out).mono ?_
  rintro e w' ⟨rfl, rfl⟩
  have c0 : w'.cell? ⟨w.heap.size, 0, none⟩ = some (.int .i64 o) := (HB2.out.cell 0).trans rfl
  have c1 : w'.cell? ⟨w.heap.size, 1, none⟩ = some (.int .i64 t) := (HB2.out.cell 1).trans rfl
  have c2 : w'.cell? ⟨w.heap.size, 2, none⟩ = some (.int .i64 c) := (HB2.out.cell 2).trans rfl
  have c3 : w'.cell? ⟨w.heap.size, 3, none⟩ = some (.int .i64 v) := (HB2.out.cell 3).trans rfl
  go_wp2_with fail
  with_reducible refine (HFo.out _).mono ?_
  rintro e w3 ⟨rfl, hN3⟩
  have HB3 := Lib.hid (HB2.out.keep hN3)
  have HR3 := Lib.hid (HR2.out.keep hN3)
  have HA3 := Lib.hid (HA2.out.new hN3 (fun k hk => Nat.lt_of_lt_of_le (hF k hk) HN2.out.size))
  have HN3 := Lib.hid (HN2.out.then_new hN3)
  clear hN3 c0 c1 c2 c3 HB2 HR2 HN2 HA2
  have HX := Lib.hid (Has.new w3 49 #[.int .i64 o, .int .i64 t, .int .i64 c])
  have HB4 := Lib.hid (HB3.out.alloc (.cells #[.int .i64 o, .int .i64 t, .int .i64 c] 49))
  have HR4 := Lib.hid (HR3.out.alloc (.cells #[.int .i64 o, .int .i64 t, .int .i64 c] 49))
  have HA4 := Lib.hid (HA3.out.new ((Chg.refl _ _).alloc (.cells #[.int .i64 o, .int .i64 t, .int .i64 c] 49)) (fun k hk => Nat.lt_of_lt_of_le (hF k hk) HN3.out.size))
  have hlb := HB3.out.lt
  have hlr := HR3.out.lt
  go_wp2_with (first | (
    refine wpList_copy_has rfl _ _ rfl w3.heap.size 0 3 3 rfl A 3 m rfl 49 [.int .i64 o, .int .i64 t, .int .i64 c] HX.out F _ HA4.out (fun _ _ => rfl) (by simp) ?_
    intro w5 hH hG
    have HG5 := Lib.hid hG
    have HX5 : Hid (Has w5 w3.heap.size 49 #[.int .i64 p0, .int .i64 p1, .int .i64 p2]) := by
      simp only [splice3, iV, show List.range (Nat.min 3 3) = [0, 1, 2] from rfl, List.map_cons, List.map_nil] at hH
      rw [← Hp0.out, ← Hp1.out, ← Hp2.out] at hH
      exact hH
    clear hH hG
    have HB5 := Lib.hid (HB4.out.chg HG5.out (by omega))
    have HR5 := Lib.hid (HR4.out.chg HG5.out (by omega))
    have HN5 := Lib.hid (New.set (HN3.out.alloc (.cells #[.int .i64 o, .int .i64 t, .int .i64 c] 49)) HG5.out (by omega))
    have hlb5 := HB5.out.lt
    have hlr5 := HR5.out.lt
    have x0 : w5.cell? ⟨w3.heap.size, 0, none⟩ = some (.int .i64 p0) := (HX5.out.cell 0).trans rfl
    have x1 : w5.cell? ⟨w3.heap.size, 1, none⟩ = some (.int .i64 p1) := (HX5.out.cell 1).trans rfl
    have x2 : w5.cell? ⟨w3.heap.size, 2, none⟩ = some (.int .i64 p2) := (HX5.out.cell 2).trans rfl
    have c0 : w5.cell? ⟨w.heap.size, 0, none⟩ = some (.int .i64 o) := (HB5.out.cell 0).trans rfl
    have c1 : w5.cell? ⟨w.heap.size, 1, none⟩ = some (.int .i64 t) := (HB5.out.cell 1).trans rfl
    have c2 : w5.cell? ⟨w.heap.size, 2, none⟩ = some (.int .i64 c) := (HB5.out.cell 2).trans rfl
    have c3 : w5.cell? ⟨w.heap.size, 3, none⟩ = some (.int .i64 v) := (HB5.out.cell 3).trans rfl) | fail)
  with_reducible refine (key_any _ _ _ _ _).mono ?_
  rintro e w6 ⟨rfl, hN6⟩
  have HR6 := Lib.hid (HR5.out.keep hN6)
  have HN6 := Lib.hid (HN5.out.then_new hN6)
  clear hN6
  cases b with
  | false =>
    change Hid (∀ w, Calls Try.prog 24 #[.agg #[.int .i64 p0, .int .i64 p1, .int .i64 p2, .int .i64 v]] w fun e w' => e = .returned (.tuple #[.agg #[.int .i64 0, .int .i64 0, .int .i64 0, .int .i64 0], .int .i64 2]) ∧ New w w') at HCh
    go_wp2_with fail
    with_reducible refine (HCh.out _).mono ?_
    rintro e w7 ⟨rfl, hN7⟩
    have HR7 := Lib.hid (HR6.out.keep hN7)
    have HN7 := Lib.hid (HN6.out.then_new hN7)
    clear hN7
    have r0 : w7.cell? ⟨w.heap.size + 1, 0, none⟩ = some (.int .i64 0) := (HR7.out.cell 0).trans rfl
    have r1 : w7.cell? ⟨w.heap.size + 1, 1, none⟩ = some (.int .i64 0) := (HR7.out.cell 1).trans rfl
    have r2 : w7.cell? ⟨w.heap.size + 1, 2, none⟩ = some (.int .i64 0) := (HR7.out.cell 2).trans rfl
    have r3 : w7.cell? ⟨w.heap.size + 1, 3, none⟩ = some (.int .i64 0) := (HR7.out.cell 3).trans rfl
    have z0 := HR7.out.free 0
    have z1 := HR7.out.free 1
    have z2 := HR7.out.free 2
    have z3 := HR7.out.free 3
    go_wp2_with fail
    obtain ⟨hX, hGX⟩ := setK HR7.out (.int .i64 0) (.int .i64 0) (.int .i64 0) (.int .i64 0)
    generalize ((((w7.setCell ⟨w.heap.size + 1, 0, none⟩ (.int .i64 0)).setCell ⟨w.heap.size + 1, 1, none⟩ (.int .i64 0)).setCell ⟨w.heap.size + 1, 2, none⟩ (.int .i64 0)).setCell ⟨w.heap.size + 1, 3, none⟩ (.int .i64 0)) = wX at hX hGX ⊢
    have g0 := (hX.cell 0).trans rfl
    have g1 := (hX.cell 1).trans rfl
    have g2 := (hX.cell 2).trans rfl
    have g3 := (hX.cell 3).trans rfl
    refine bodyPost_ret (v := .tuple #[.agg #[.int .i64 0, .int .i64 0, .int .i64 0, .int .i64 0], .int .i64 2]) (by simp [results, Try.results9, go_sem, g0, g1, g2, g3]) rfl ?_
    exact ⟨by first | rfl | (simp only [HH.out]; rfl) | simp [HH.out], New.set HN7.out hGX (by omega)⟩
  | true =>
    change Hid (∀ w, Calls Try.prog 24 #[.agg #[.int .i64 p0, .int .i64 p1, .int .i64 p2, .int .i64 v]] w fun e w' => e = .returned (.tuple #[.agg #[.int .i64 p0, .int .i64 p1, .int .i64 p2, .int .i64 v], .int .i64 0]) ∧ New w w') at HCh
    go_wp2_with fail
    with_reducible refine (HCh.out _).mono ?_
    rintro e w7 ⟨rfl, hN7⟩
    have HR7 := Lib.hid (HR6.out.keep hN7)
    have HN7 := Lib.hid (HN6.out.then_new hN7)
    clear hN7
    have r0 : w7.cell? ⟨w.heap.size + 1, 0, none⟩ = some (.int .i64 0) := (HR7.out.cell 0).trans rfl
    have r1 : w7.cell? ⟨w.heap.size + 1, 1, none⟩ = some (.int .i64 0) := (HR7.out.cell 1).trans rfl
    have r2 : w7.cell? ⟨w.heap.size + 1, 2, none⟩ = some (.int .i64 0) := (HR7.out.cell 2).trans rfl
    have r3 : w7.cell? ⟨w.heap.size + 1, 3, none⟩ = some (.int .i64 0) := (HR7.out.cell 3).trans rfl
    have z0 := HR7.out.free 0
    have z1 := HR7.out.free 1
    have z2 := HR7.out.free 2
    have z3 := HR7.out.free 3
    go_wp2_with fail
    obtain ⟨hX, hGX⟩ := setK HR7.out (.int .i64 p0) (.int .i64 p1) (.int .i64 p2) (.int .i64 v)
    generalize ((((w7.setCell ⟨w.heap.size + 1, 0, none⟩ (.int .i64 p0)).setCell ⟨w.heap.size + 1, 1, none⟩ (.int .i64 p1)).setCell ⟨w.heap.size + 1, 2, none⟩ (.int .i64 p2)).setCell ⟨w.heap.size + 1, 3, none⟩ (.int .i64 v)) = wX at hX hGX ⊢
    have g0 := (hX.cell 0).trans rfl
    have g1 := (hX.cell 1).trans rfl
    have g2 := (hX.cell 2).trans rfl
    have g3 := (hX.cell 3).trans rfl
    refine bodyPost_ret (v := .tuple #[.agg #[.int .i64 p0, .int .i64 p1, .int .i64 p2, .int .i64 v], .int .i64 0]) (by simp [results, Try.results9, go_sem, g0, g1, g2, g3]) rfl ?_
    exact ⟨by first | rfl | (simp only [HH.out]; rfl) | simp [HH.out], New.set HN7.out hGX (by omega)⟩
set_option maxRecDepth 100000 in
set_option maxHeartbeats 2000000 in
theorem Derive_10 (k : Ky) (A : Option Addr) (m : Nat) (p : Nat → Int) (F : Nat → Prop) (w : World) (hA : Arr w F A 0 (fun i => iV (p i))) (hF : ∀ k, F k → k < w.heap.size) (hb : rightB k = true) (hl : lev k = 1) (hz : ∀ i, i < 0 → p i ≠ 0) :
    Calls Try.prog 9 #[k.V, .slice A 0 m] w fun e w' => e = .returned (.tuple #[(derK k 0 p).V, .int .i64 (derE k 0 p)]) ∧ New w w' := by
  have HC := Lib.hid (Right_any k)
  rw [hb] at HC
  rw [derK_fine hb (by omega) hz, derE_fine hb (by omega) hz]
  have HL := Lib.hid (Level_any k)
  rw [levI_yes hb, hl] at HL
  change Hid (∀ w, Calls Try.prog 16 _ w fun e w' => e = .returned (.int .i64 1) ∧ New w w') at HL
  have HQ := Lib.hid (fun w h => Contains_any p A 0 m w F h (by omega))
  have hq : zeroB 0 p = false := by
    unfold zeroB
    rw [decide_eq_false_iff_not]
    rintro ⟨i, hi, hp⟩
    exact hz i hi hp
  rw [hq] at HQ
  have HFo := Lib.hid (fieldsOf_any k)
  have hd := der_places k 0 p
  rw [hl] at hd
  have hd' : derR k 0 p = ⟨k.o, k.t, k.c, k.v⟩ := by rw [hd]; simp
  clear hd hq hz hb hl
  rw [hd']
  have HCh := Lib.hid (checked_any ⟨k.o, k.t, k.c, k.v⟩)
  clear hd'
  have HH : Hid True := trivial
  obtain ⟨d, hdd⟩ : ∃ d : Ky, d = ⟨k.o, k.t, k.c, k.v⟩ := ⟨_, rfl⟩
  generalize rightB _ = b at HCh ⊢
  obtain ⟨o, t, c, v⟩ := k
  go_enter Try.func9, Try.ntmps9
  go_wp2_with fail
  with_reducible refine (HC.out _).mono ?_
  rintro e w1 ⟨rfl, hN⟩
  have HB := Lib.hid (((Has.new w 23 #[.int .i64 o, .int .i64 t, .int .i64 c, .int .i64 v]).alloc (.cells #[.int .i64 0, .int .i64 0, .int .i64 0, .int .i64 0] 23)).keep hN)
  have HR := Lib.hid ((Has.new_at (w.alloc (.cells #[.int .i64 o, .int .i64 t, .int .i64 c, .int .i64 v] 23)) 23 #[.int .i64 0, .int .i64 0, .int .i64 0, .int .i64 0] (w.heap.size + 1) (by simp)).keep hN)
  have HN := Lib.hid ((((Chg.refl (fun _ => False) w).alloc _).alloc _).then_new hN)
  clear hN
  have hA1 := hA.new HN.out hF
  have HA := Lib.hid hA1; clear hA1 hA
  have c0 : w1.cell? ⟨w.heap.size, 0, none⟩ = some (.int .i64 o) := (HB.out.cell 0).trans rfl
  have c1 : w1.cell? ⟨w.heap.size, 1, none⟩ = some (.int .i64 t) := (HB.out.cell 1).trans rfl
  have c2 : w1.cell? ⟨w.heap.size, 2, none⟩ = some (.int .i64 c) := (HB.out.cell 2).trans rfl
  have c3 : w1.cell? ⟨w.heap.size, 3, none⟩ = some (.int .i64 v) := (HB.out.cell 3).trans rfl
  go_wp2_with fail
  with_reducible refine (HL.out _).mono ?_
  rintro e w2 ⟨rfl, hN2⟩
  have HB2 := Lib.hid (HB.out.keep hN2)
  have HR2 := Lib.hid (HR.out.keep hN2)
  have HA2 := Lib.hid (HA.out.new hN2 (fun k hk => Nat.lt_of_lt_of_le (hF k hk) HN.out.size))
  have HN2 := Lib.hid (HN.out.then_new hN2)
  clear hN2 c0 c1 c2 c3 HB HR HN HA
  go_wp2_with fail
  with_reducible refine (HQ.out _ HA2.out).mono ?_
  rintro e w' ⟨rfl, rfl⟩
  have c0 : w'.cell? ⟨w.heap.size, 0, none⟩ = some (.int .i64 o) := (HB2.out.cell 0).trans rfl
  have c1 : w'.cell? ⟨w.heap.size, 1, none⟩ = some (.int .i64 t) := (HB2.out.cell 1).trans rfl
  have c2 : w'.cell? ⟨w.heap.size, 2, none⟩ = some (.int .i64 c) := (HB2.out.cell 2).trans rfl
  have c3 : w'.cell? ⟨w.heap.size, 3, none⟩ = some (.int .i64 v) := (HB2.out.cell 3).trans rfl
  go_wp2_with fail
  with_reducible refine (HFo.out _).mono ?_
  rintro e w3 ⟨rfl, hN3⟩
  have HB3 := Lib.hid (HB2.out.keep hN3)
  have HR3 := Lib.hid (HR2.out.keep hN3)
  have HA3 := Lib.hid (HA2.out.new hN3 (fun k hk => Nat.lt_of_lt_of_le (hF k hk) HN2.out.size))
  have HN3 := Lib.hid (HN2.out.then_new hN3)
  clear hN3 c0 c1 c2 c3 HB2 HR2 HN2 HA2
  have HX := Lib.hid (Has.new w3 49 #[.int .i64 o, .int .i64 t, .int .i64 c])
  have HB4 := Lib.hid (HB3.out.alloc (.cells #[.int .i64 o, .int .i64 t, .int .i64 c] 49))
  have HR4 := Lib.hid (HR3.out.alloc (.cells #[.int .i64 o, .int .i64 t, .int .i64 c] 49))
  have HA4 := Lib.hid (HA3.out.new ((Chg.refl _ _).alloc (.cells #[.int .i64 o, .int .i64 t, .int .i64 c] 49)) (fun k hk => Nat.lt_of_lt_of_le (hF k hk) HN3.out.size))
  have hlb := HB3.out.lt
  have hlr := HR3.out.lt
  go_wp2_with (first | (
    refine wpList_copy_has rfl _ _ rfl w3.heap.size 1 2 2 rfl A 0 m rfl 49 [.int .i64 o, .int .i64 t, .int .i64 c] HX.out F _ HA4.out (fun _ _ => rfl) (by simp) ?_
    intro w5 hH hG
    have HG5 := Lib.hid hG
    have HX5 : Hid (Has w5 w3.heap.size 49 #[.int .i64 o, .int .i64 t, .int .i64 c]) := by
      simp only [splice3, iV, show List.range (Nat.min 0 2) = [] from rfl, List.map_nil] at hH
      skip
      exact hH
    clear hH hG
    have HB5 := Lib.hid (HB4.out.chg HG5.out (by omega))
    have HR5 := Lib.hid (HR4.out.chg HG5.out (by omega))
    have HN5 := Lib.hid (New.set (HN3.out.alloc (.cells #[.int .i64 o, .int .i64 t, .int .i64 c] 49)) HG5.out (by omega))
    have hlb5 := HB5.out.lt
    have hlr5 := HR5.out.lt
    have x0 : w5.cell? ⟨w3.heap.size, 0, none⟩ = some (.int .i64 o) := (HX5.out.cell 0).trans rfl
    have x1 : w5.cell? ⟨w3.heap.size, 1, none⟩ = some (.int .i64 t) := (HX5.out.cell 1).trans rfl
    have x2 : w5.cell? ⟨w3.heap.size, 2, none⟩ = some (.int .i64 c) := (HX5.out.cell 2).trans rfl
    have c0 : w5.cell? ⟨w.heap.size, 0, none⟩ = some (.int .i64 o) := (HB5.out.cell 0).trans rfl
    have c1 : w5.cell? ⟨w.heap.size, 1, none⟩ = some (.int .i64 t) := (HB5.out.cell 1).trans rfl
    have c2 : w5.cell? ⟨w.heap.size, 2, none⟩ = some (.int .i64 c) := (HB5.out.cell 2).trans rfl
    have c3 : w5.cell? ⟨w.heap.size, 3, none⟩ = some (.int .i64 v) := (HB5.out.cell 3).trans rfl) | fail)
  with_reducible refine (key_any _ _ _ _ _).mono ?_
  rintro e w6 ⟨rfl, hN6⟩
  have HR6 := Lib.hid (HR5.out.keep hN6)
  have HN6 := Lib.hid (HN5.out.then_new hN6)
  clear hN6
  cases b with
  | false =>
    change Hid (∀ w, Calls Try.prog 24 #[.agg #[.int .i64 o, .int .i64 t, .int .i64 c, .int .i64 v]] w fun e w' => e = .returned (.tuple #[.agg #[.int .i64 0, .int .i64 0, .int .i64 0, .int .i64 0], .int .i64 2]) ∧ New w w') at HCh
    go_wp2_with fail
    with_reducible refine (HCh.out _).mono ?_
    rintro e w7 ⟨rfl, hN7⟩
    have HR7 := Lib.hid (HR6.out.keep hN7)
    have HN7 := Lib.hid (HN6.out.then_new hN7)
    clear hN7
    have r0 : w7.cell? ⟨w.heap.size + 1, 0, none⟩ = some (.int .i64 0) := (HR7.out.cell 0).trans rfl
    have r1 : w7.cell? ⟨w.heap.size + 1, 1, none⟩ = some (.int .i64 0) := (HR7.out.cell 1).trans rfl
    have r2 : w7.cell? ⟨w.heap.size + 1, 2, none⟩ = some (.int .i64 0) := (HR7.out.cell 2).trans rfl
    have r3 : w7.cell? ⟨w.heap.size + 1, 3, none⟩ = some (.int .i64 0) := (HR7.out.cell 3).trans rfl
    have z0 := HR7.out.free 0
    have z1 := HR7.out.free 1
    have z2 := HR7.out.free 2
    have z3 := HR7.out.free 3
    go_wp2_with fail
    obtain ⟨hX, hGX⟩ := setK HR7.out (.int .i64 0) (.int .i64 0) (.int .i64 0) (.int .i64 0)
    generalize ((((w7.setCell ⟨w.heap.size + 1, 0, none⟩ (.int .i64 0)).setCell ⟨w.heap.size + 1, 1, none⟩ (.int .i64 0)).setCell ⟨w.heap.size + 1, 2, none⟩ (.int .i64 0)).setCell ⟨w.heap.size + 1, 3, none⟩ (.int .i64 0)) = wX at hX hGX ⊢
    have g0 := (hX.cell 0).trans rfl
    have g1 := (hX.cell 1).trans rfl
    have g2 := (hX.cell 2).trans rfl
    have g3 := (hX.cell 3).trans rfl
    refine bodyPost_ret (v := .tuple #[.agg #[.int .i64 0, .int .i64 0, .int .i64 0, .int .i64 0], .int .i64 2]) (by simp [results, Try.results9, go_sem, g0, g1, g2, g3]) rfl ?_
    exact ⟨by first | rfl | (simp only [HH.out]; rfl) | simp [HH.out], New.set HN7.out hGX (by omega)⟩
  | true =>
    change Hid (∀ w, Calls Try.prog 24 #[.agg #[.int .i64 o, .int .i64 t, .int .i64 c, .int .i64 v]] w fun e w' => e = .returned (.tuple #[.agg #[.int .i64 o, .int .i64 t, .int .i64 c, .int .i64 v], .int .i64 0]) ∧ New w w') at HCh
    go_wp2_with fail
    with_reducible refine (HCh.out _).mono ?_
    rintro e w7 ⟨rfl, hN7⟩
    have HR7 := Lib.hid (HR6.out.keep hN7)
    have HN7 := Lib.hid (HN6.out.then_new hN7)
    clear hN7
    have r0 : w7.cell? ⟨w.heap.size + 1, 0, none⟩ = some (.int .i64 0) := (HR7.out.cell 0).trans rfl
    have r1 : w7.cell? ⟨w.heap.size + 1, 1, none⟩ = some (.int .i64 0) := (HR7.out.cell 1).trans rfl
    have r2 : w7.cell? ⟨w.heap.size + 1, 2, none⟩ = some (.int .i64 0) := (HR7.out.cell 2).trans rfl
    have r3 : w7.cell? ⟨w.heap.size + 1, 3, none⟩ = some (.int .i64 0) := (HR7.out.cell 3).trans rfl
    have z0 := HR7.out.free 0
    have z1 := HR7.out.free 1
    have z2 := HR7.out.free 2
    have z3 := HR7.out.free 3
    go_wp2_with fail
    obtain ⟨hX, hGX⟩ := setK HR7.out (.int .i64 o) (.int .i64 t) (.int .i64 c) (.int .i64 v)
    generalize ((((w7.setCell ⟨w.heap.size + 1, 0, none⟩ (.int .i64 o)).setCell ⟨w.heap.size + 1, 1, none⟩ (.int .i64 t)).setCell ⟨w.heap.size + 1, 2, none⟩ (.int .i64 c)).setCell ⟨w.heap.size + 1, 3, none⟩ (.int .i64 v)) = wX at hX hGX ⊢
    have g0 := (hX.cell 0).trans rfl
    have g1 := (hX.cell 1).trans rfl
    have g2 := (hX.cell 2).trans rfl
    have g3 := (hX.cell 3).trans rfl
    refine bodyPost_ret (v := .tuple #[.agg #[.int .i64 o, .int .i64 t, .int .i64 c, .int .i64 v], .int .i64 0]) (by simp [results, Try.results9, go_sem, g0, g1, g2, g3]) rfl ?_
    exact ⟨by first | rfl | (simp only [HH.out]; rfl) | simp [HH.out], New.set HN7.out hGX (by omega)⟩
set_option maxRecDepth 100000 in
set_option maxHeartbeats 2000000 in
theorem Derive_11 (k : Ky) (A : Option Addr) (m : Nat) (p : Nat → Int) (F : Nat → Prop) (w : World) (hA : Arr w F A 1 (fun i => iV (p i))) (hF : ∀ k, F k → k < w.heap.size) (hb : rightB k = true) (hl : lev k = 1) (hz : ∀ i, i < 1 → p i ≠ 0) :
    Calls Try.prog 9 #[k.V, .slice A 1 m] w fun e w' => e = .returned (.tuple #[(derK k 1 p).V, .int .i64 (derE k 1 p)]) ∧ New w w' := by
  have HC := Lib.hid (Right_any k)
  rw [hb] at HC
  rw [derK_fine hb (by omega) hz, derE_fine hb (by omega) hz]
  have HL := Lib.hid (Level_any k)
  rw [levI_yes hb, hl] at HL
  change Hid (∀ w, Calls Try.prog 16 _ w fun e w' => e = .returned (.int .i64 1) ∧ New w w') at HL
  have HQ := Lib.hid (fun w h => Contains_any p A 1 m w F h (by omega))
  have hq : zeroB 1 p = false := by
    unfold zeroB
    rw [decide_eq_false_iff_not]
    rintro ⟨i, hi, hp⟩
    exact hz i hi hp
  rw [hq] at HQ
  have HFo := Lib.hid (fieldsOf_any k)
  have hd := der_places k 1 p
  rw [hl] at hd
  obtain ⟨p0, hp0⟩ : ∃ x, x = p 0 := ⟨_, rfl⟩
  simp only [← hp0] at hd
  have hd' : derR k 1 p = ⟨k.o, p0, k.c, k.v⟩ := by rw [hd]; simp
  clear hd hq hz hb hl
  have Hp0 := Lib.hid hp0; clear hp0
  rw [hd']
  have HCh := Lib.hid (checked_any ⟨k.o, p0, k.c, k.v⟩)
  clear hd'
  have HH : Hid True := trivial
  obtain ⟨d, hdd⟩ : ∃ d : Ky, d = ⟨k.o, p0, k.c, k.v⟩ := ⟨_, rfl⟩
  generalize rightB _ = b at HCh ⊢
  obtain ⟨o, t, c, v⟩ := k
  go_enter Try.func9, Try.ntmps9
  go_wp2_with fail
  with_reducible refine (HC.out _).mono ?_
  rintro e w1 ⟨rfl, hN⟩
  have HB := Lib.hid (((Has.new w 23 #[.int .i64 o, .int .i64 t, .int .i64 c, .int .i64 v]).alloc (.cells #[.int .i64 0, .int .i64 0, .int .i64 0, .int .i64 0] 23)).keep hN)
  have HR := Lib.hid ((Has.new_at (w.alloc (.cells #[.int .i64 o, .int .i64 t, .int .i64 c, .int .i64 v] 23)) 23 #[.int .i64 0, .int .i64 0, .int .i64 0, .int .i64 0] (w.heap.size + 1) (by simp)).keep hN)
  have HN := Lib.hid ((((Chg.refl (fun _ => False) w).alloc _).alloc _).then_new hN)
  clear hN
  have hA1 := hA.new HN.out hF
  have HA := Lib.hid hA1; clear hA1 hA
  have c0 : w1.cell? ⟨w.heap.size, 0, none⟩ = some (.int .i64 o) := (HB.out.cell 0).trans rfl
  have c1 : w1.cell? ⟨w.heap.size, 1, none⟩ = some (.int .i64 t) := (HB.out.cell 1).trans rfl
  have c2 : w1.cell? ⟨w.heap.size, 2, none⟩ = some (.int .i64 c) := (HB.out.cell 2).trans rfl
  have c3 : w1.cell? ⟨w.heap.size, 3, none⟩ = some (.int .i64 v) := (HB.out.cell 3).trans rfl
  go_wp2_with fail
  with_reducible refine (HL.out _).mono ?_
  rintro e w2 ⟨rfl, hN2⟩
  have HB2 := Lib.hid (HB.out.keep hN2)
  have HR2 := Lib.hid (HR.out.keep hN2)
  have HA2 := Lib.hid (HA.out.new hN2 (fun k hk => Nat.lt_of_lt_of_le (hF k hk) HN.out.size))
  have HN2 := Lib.hid (HN.out.then_new hN2)
  clear hN2 c0 c1 c2 c3 HB HR HN HA
  go_wp2_with fail
  with_reducible refine (HQ.out _ HA2.out).mono ?_
  rintro e w' ⟨rfl, rfl⟩
  have c0 : w'.cell? ⟨w.heap.size, 0, none⟩ = some (.int .i64 o) := (HB2.out.cell 0).trans rfl
  have c1 : w'.cell? ⟨w.heap.size, 1, none⟩ = some (.int .i64 t) := (HB2.out.cell 1).trans rfl
  have c2 : w'.cell? ⟨w.heap.size, 2, none⟩ = some (.int .i64 c) := (HB2.out.cell 2).trans rfl
  have c3 : w'.cell? ⟨w.heap.size, 3, none⟩ = some (.int .i64 v) := (HB2.out.cell 3).trans rfl
  go_wp2_with fail
  with_reducible refine (HFo.out _).mono ?_
  rintro e w3 ⟨rfl, hN3⟩
  have HB3 := Lib.hid (HB2.out.keep hN3)
  have HR3 := Lib.hid (HR2.out.keep hN3)
  have HA3 := Lib.hid (HA2.out.new hN3 (fun k hk => Nat.lt_of_lt_of_le (hF k hk) HN2.out.size))
  have HN3 := Lib.hid (HN2.out.then_new hN3)
  clear hN3 c0 c1 c2 c3 HB2 HR2 HN2 HA2
  have HX := Lib.hid (Has.new w3 49 #[.int .i64 o, .int .i64 t, .int .i64 c])
  have HB4 := Lib.hid (HB3.out.alloc (.cells #[.int .i64 o, .int .i64 t, .int .i64 c] 49))
  have HR4 := Lib.hid (HR3.out.alloc (.cells #[.int .i64 o, .int .i64 t, .int .i64 c] 49))
  have HA4 := Lib.hid (HA3.out.new ((Chg.refl _ _).alloc (.cells #[.int .i64 o, .int .i64 t, .int .i64 c] 49)) (fun k hk => Nat.lt_of_lt_of_le (hF k hk) HN3.out.size))
  have hlb := HB3.out.lt
  have hlr := HR3.out.lt
  go_wp2_with (first | (
    refine wpList_copy_has rfl _ _ rfl w3.heap.size 1 2 2 rfl A 1 m rfl 49 [.int .i64 o, .int .i64 t, .int .i64 c] HX.out F _ HA4.out (fun _ _ => rfl) (by simp) ?_
    intro w5 hH hG
    have HG5 := Lib.hid hG
    have HX5 : Hid (Has w5 w3.heap.size 49 #[.int .i64 o, .int .i64 p0, .int .i64 c]) := by
      simp only [splice3, iV, show List.range (Nat.min 1 2) = [0] from rfl, List.map_cons, List.map_nil] at hH
      rw [← Hp0.out] at hH
      exact hH
    clear hH hG
    have HB5 := Lib.hid (HB4.out.chg HG5.out (by omega))
    have HR5 := Lib.hid (HR4.out.chg HG5.out (by omega))
    have HN5 := Lib.hid (New.set (HN3.out.alloc (.cells #[.int .i64 o, .int .i64 t, .int .i64 c] 49)) HG5.out (by omega))
    have hlb5 := HB5.out.lt
    have hlr5 := HR5.out.lt
    have x0 : w5.cell? ⟨w3.heap.size, 0, none⟩ = some (.int .i64 o) := (HX5.out.cell 0).trans rfl
    have x1 : w5.cell? ⟨w3.heap.size, 1, none⟩ = some (.int .i64 p0) := (HX5.out.cell 1).trans rfl
    have x2 : w5.cell? ⟨w3.heap.size, 2, none⟩ = some (.int .i64 c) := (HX5.out.cell 2).trans rfl
    have c0 : w5.cell? ⟨w.heap.size, 0, none⟩ = some (.int .i64 o) := (HB5.out.cell 0).trans rfl
    have c1 : w5.cell? ⟨w.heap.size, 1, none⟩ = some (.int .i64 t) := (HB5.out.cell 1).trans rfl
    have c2 : w5.cell? ⟨w.heap.size, 2, none⟩ = some (.int .i64 c) := (HB5.out.cell 2).trans rfl
    have c3 : w5.cell? ⟨w.heap.size, 3, none⟩ = some (.int .i64 v) := (HB5.out.cell 3).trans rfl) | fail)
  with_reducible refine (key_any _ _ _ _ _).mono ?_
  rintro e w6 ⟨rfl, hN6⟩
  have HR6 := Lib.hid (HR5.out.keep hN6)
  have HN6 := Lib.hid (HN5.out.then_new hN6)
  clear hN6
  cases b with
  | false =>
    change Hid (∀ w, Calls Try.prog 24 #[.agg #[.int .i64 o, .int .i64 p0, .int .i64 c, .int .i64 v]] w fun e w' => e = .returned (.tuple #[.agg #[.int .i64 0, .int .i64 0, .int .i64 0, .int .i64 0], .int .i64 2]) ∧ New w w') at HCh
    go_wp2_with fail
    with_reducible refine (HCh.out _).mono ?_
    rintro e w7 ⟨rfl, hN7⟩
    have HR7 := Lib.hid (HR6.out.keep hN7)
    have HN7 := Lib.hid (HN6.out.then_new hN7)
    clear hN7
    have r0 : w7.cell? ⟨w.heap.size + 1, 0, none⟩ = some (.int .i64 0) := (HR7.out.cell 0).trans rfl
    have r1 : w7.cell? ⟨w.heap.size + 1, 1, none⟩ = some (.int .i64 0) := (HR7.out.cell 1).trans rfl
    have r2 : w7.cell? ⟨w.heap.size + 1, 2, none⟩ = some (.int .i64 0) := (HR7.out.cell 2).trans rfl
    have r3 : w7.cell? ⟨w.heap.size + 1, 3, none⟩ = some (.int .i64 0) := (HR7.out.cell 3).trans rfl
    have z0 := HR7.out.free 0
    have z1 := HR7.out.free 1
    have z2 := HR7.out.free 2
    have z3 := HR7.out.free 3
    go_wp2_with fail
    obtain ⟨hX, hGX⟩ := setK HR7.out (.int .i64 0) (.int .i64 0) (.int .i64 0) (.int .i64 0)
    generalize ((((w7.setCell ⟨w.heap.size + 1, 0, none⟩ (.int .i64 0)).setCell ⟨w.heap.size + 1, 1, none⟩ (.int .i64 0)).setCell ⟨w.heap.size + 1, 2, none⟩ (.int .i64 0)).setCell ⟨w.heap.size + 1, 3, none⟩ (.int .i64 0)) = wX at hX hGX ⊢
    have g0 := (hX.cell 0).trans rfl
    have g1 := (hX.cell 1).trans rfl
    have g2 := (hX.cell 2).trans rfl
    have g3 := (hX.cell 3).trans rfl
    refine bodyPost_ret (v := .tuple #[.agg #[.int .i64 0, .int .i64 0, .int .i64 0, .int .i64 0], .int .i64 2]) (by simp [results, Try.results9, go_sem, g0, g1, g2, g3]) rfl ?_
    exact ⟨by first | rfl | (simp only [HH.out]; rfl) | simp [HH.out], New.set HN7.out hGX (by omega)⟩
  | true =>
    change Hid (∀ w, Calls Try.prog 24 #[.agg #[.int .i64 o, .int .i64 p0, .int .i64 c, .int .i64 v]] w fun e w' => e = .returned (.tuple #[.agg #[.int .i64 o, .int .i64 p0, .int .i64 c, .int .i64 v], .int .i64 0]) ∧ New w w') at HCh
    go_wp2_with fail
    with_reducible refine (HCh.out _).mono ?_
    rintro e w7 ⟨rfl, hN7⟩
    have HR7 := Lib.hid (HR6.out.keep hN7)
    have HN7 := Lib.hid (HN6.out.then_new hN7)
    clear hN7
    have r0 : w7.cell? ⟨w.heap.size + 1, 0, none⟩ = some (.int .i64 0) := (HR7.out.cell 0).trans rfl
    have r1 : w7.cell? ⟨w.heap.size + 1, 1, none⟩ = some (.int .i64 0) := (HR7.out.cell 1).trans rfl
    have r2 : w7.cell? ⟨w.heap.size + 1, 2, none⟩ = some (.int .i64 0) := (HR7.out.cell 2).trans rfl
    have r3 : w7.cell? ⟨w.heap.size + 1, 3, none⟩ = some (.int .i64 0) := (HR7.out.cell 3).trans rfl
    have z0 := HR7.out.free 0
    have z1 := HR7.out.free 1
    have z2 := HR7.out.free 2
    have z3 := HR7.out.free 3
    go_wp2_with fail
    obtain ⟨hX, hGX⟩ := setK HR7.out (.int .i64 o) (.int .i64 p0) (.int .i64 c) (.int .i64 v)
    generalize ((((w7.setCell ⟨w.heap.size + 1, 0, none⟩ (.int .i64 o)).setCell ⟨w.heap.size + 1, 1, none⟩ (.int .i64 p0)).setCell ⟨w.heap.size + 1, 2, none⟩ (.int .i64 c)).setCell ⟨w.heap.size + 1, 3, none⟩ (.int .i64 v)) = wX at hX hGX ⊢
    have g0 := (hX.cell 0).trans rfl
    have g1 := (hX.cell 1).trans rfl
    have g2 := (hX.cell 2).trans rfl
    have g3 := (hX.cell 3).trans rfl
    refine bodyPost_ret (v := .tuple #[.agg #[.int .i64 o, .int .i64 p0, .int .i64 c, .int .i64 v], .int .i64 0]) (by simp [results, Try.results9, go_sem, g0, g1, g2, g3]) rfl ?_
    exact ⟨by first | rfl | (simp only [HH.out]; rfl) | simp [HH.out], New.set HN7.out hGX (by omega)⟩
set_option maxRecDepth 100000 in
set_option maxHeartbeats 2000000 in
theorem Derive_12 (k : Ky) (A : Option Addr) (m : Nat) (p : Nat → Int) (F : Nat → Prop) (w : World) (hA : Arr w F A 2 (fun i => iV (p i))) (hF : ∀ k, F k → k < w.heap.size) (hb : rightB k = true) (hl : lev k = 1) (hz : ∀ i, i < 2 → p i ≠ 0) :
    Calls Try.prog 9 #[k.V, .slice A 2 m] w fun e w' => e = .returned (.tuple #[(derK k 2 p).V, .int .i64 (derE k 2 p)]) ∧ New w w' := by
  have HC := Lib.hid (Right_any k)
  rw [hb] at HC
  rw [derK_fine hb (by omega) hz, derE_fine hb (by omega) hz]
  have HL := Lib.hid (Level_any k)
  rw [levI_yes hb, hl] at HL
  change Hid (∀ w, Calls Try.prog 16 _ w fun e w' => e = .returned (.int .i64 1) ∧ New w w') at HL
  have HQ := Lib.hid (fun w h => Contains_any p A 2 m w F h (by omega))
  have hq : zeroB 2 p = false := by
    unfold zeroB
    rw [decide_eq_false_iff_not]
    rintro ⟨i, hi, hp⟩
    exact hz i hi hp
  rw [hq] at HQ
  have HFo := Lib.hid (fieldsOf_any k)
  have hd := der_places k 2 p
  rw [hl] at hd
  obtain ⟨p0, hp0⟩ : ∃ x, x = p 0 := ⟨_, rfl⟩
  obtain ⟨p1, hp1⟩ : ∃ x, x = p 1 := ⟨_, rfl⟩
  simp only [← hp0, ← hp1] at hd
  have hd' : derR k 2 p = ⟨k.o, p0, p1, k.v⟩ := by rw [hd]; simp
  clear hd hq hz hb hl
  have Hp0 := Lib.hid hp0; clear hp0
  have Hp1 := Lib.hid hp1; clear hp1
  rw [hd']
  have HCh := Lib.hid (checked_any ⟨k.o, p0, p1, k.v⟩)
  clear hd'
  have HH : Hid True := trivial
  obtain ⟨d, hdd⟩ : ∃ d : Ky, d = ⟨k.o, p0, p1, k.v⟩ := ⟨_, rfl⟩
  generalize rightB _ = b at HCh ⊢
  obtain ⟨o, t, c, v⟩ := k
  go_enter Try.func9, Try.ntmps9
  go_wp2_with fail
  with_reducible refine (HC.out _).mono ?_
  rintro e w1 ⟨rfl, hN⟩
  have HB := Lib.hid (((Has.new w 23 #[.int .i64 o, .int .i64 t, .int .i64 c, .int .i64 v]).alloc (.cells #[.int .i64 0, .int .i64 0, .int .i64 0, .int .i64 0] 23)).keep hN)
  have HR := Lib.hid ((Has.new_at (w.alloc (.cells #[.int .i64 o, .int .i64 t, .int .i64 c, .int .i64 v] 23)) 23 #[.int .i64 0, .int .i64 0, .int .i64 0, .int .i64 0] (w.heap.size + 1) (by simp)).keep hN)
  have HN := Lib.hid ((((Chg.refl (fun _ => False) w).alloc _).alloc _).then_new hN)
  clear hN
  have hA1 := hA.new HN.out hF
  have HA := Lib.hid hA1; clear hA1 hA
  have c0 : w1.cell? ⟨w.heap.size, 0, none⟩ = some (.int .i64 o) := (HB.out.cell 0).trans rfl
  have c1 : w1.cell? ⟨w.heap.size, 1, none⟩ = some (.int .i64 t) := (HB.out.cell 1).trans rfl
  have c2 : w1.cell? ⟨w.heap.size, 2, none⟩ = some (.int .i64 c) := (HB.out.cell 2).trans rfl
  have c3 : w1.cell? ⟨w.heap.size, 3, none⟩ = some (.int .i64 v) := (HB.out.cell 3).trans rfl
  go_wp2_with fail
  with_reducible refine (HL.out _).mono ?_
  rintro e w2 ⟨rfl, hN2⟩
  have HB2 := Lib.hid (HB.out.keep hN2)
  have HR2 := Lib.hid (HR.out.keep hN2)
  have HA2 := Lib.hid (HA.out.new hN2 (fun k hk => Nat.lt_of_lt_of_le (hF k hk) HN.out.size))
  have HN2 := Lib.hid (HN.out.then_new hN2)
  clear hN2 c0 c1 c2 c3 HB HR HN HA
  go_wp2_with fail
  with_reducible refine (HQ.out _ HA2.out).mono ?_
  rintro e w' ⟨rfl, rfl⟩
  have c0 : w'.cell? ⟨w.heap.size, 0, none⟩ = some (.int .i64 o) := (HB2.out.cell 0).trans rfl
  have c1 : w'.cell? ⟨w.heap.size, 1, none⟩ = some (.int .i64 t) := (HB2.out.cell 1).trans rfl
  have c2 : w'.cell? ⟨w.heap.size, 2, none⟩ = some (.int .i64 c) := (HB2.out.cell 2).trans rfl
  have c3 : w'.cell? ⟨w.heap.size, 3, none⟩ = some (.int .i64 v) := (HB2.out.cell 3).trans rfl
  go_wp2_with fail
  with_reducible refine (HFo.out _).mono ?_
  rintro e w3 ⟨rfl, hN3⟩
  have HB3 := Lib.hid (HB2.out.keep hN3)
  have HR3 := Lib.hid (HR2.out.keep hN3)
  have HA3 := Lib.hid (HA2.out.new hN3 (fun k hk => Nat.lt_of_lt_of_le (hF k hk) HN2.out.size))
  have HN3 := Lib.hid (HN2.out.then_new hN3)
  clear hN3 c0 c1 c2 c3 HB2 HR2 HN2 HA2
  have HX := Lib.hid (Has.new w3 49 #[.int .i64 o, .int .i64 t, .int .i64 c])
  have HB4 := Lib.hid (HB3.out.alloc (.cells #[.int .i64 o, .int .i64 t, .int .i64 c] 49))
  have HR4 := Lib.hid (HR3.out.alloc (.cells #[.int .i64 o, .int .i64 t, .int .i64 c] 49))
  have HA4 := Lib.hid (HA3.out.new ((Chg.refl _ _).alloc (.cells #[.int .i64 o, .int .i64 t, .int .i64 c] 49)) (fun k hk => Nat.lt_of_lt_of_le (hF k hk) HN3.out.size))
  have hlb := HB3.out.lt
  have hlr := HR3.out.lt
  go_wp2_with (first | (
    refine wpList_copy_has rfl _ _ rfl w3.heap.size 1 2 2 rfl A 2 m rfl 49 [.int .i64 o, .int .i64 t, .int .i64 c] HX.out F _ HA4.out (fun _ _ => rfl) (by simp) ?_
    intro w5 hH hG
    have HG5 := Lib.hid hG
    have HX5 : Hid (Has w5 w3.heap.size 49 #[.int .i64 o, .int .i64 p0, .int .i64 p1]) := by
      simp only [splice3, iV, show List.range (Nat.min 2 2) = [0, 1] from rfl, List.map_cons, List.map_nil] at hH
      rw [← Hp0.out, ← Hp1.out] at hH
      exact hH
    clear hH hG
    have HB5 := Lib.hid (HB4.out.chg HG5.out (by omega))
    have HR5 := Lib.hid (HR4.out.chg HG5.out (by omega))
    have HN5 := Lib.hid (New.set (HN3.out.alloc (.cells #[.int .i64 o, .int .i64 t, .int .i64 c] 49)) HG5.out (by omega))
    have hlb5 := HB5.out.lt
    have hlr5 := HR5.out.lt
    have x0 : w5.cell? ⟨w3.heap.size, 0, none⟩ = some (.int .i64 o) := (HX5.out.cell 0).trans rfl
    have x1 : w5.cell? ⟨w3.heap.size, 1, none⟩ = some (.int .i64 p0) := (HX5.out.cell 1).trans rfl
    have x2 : w5.cell? ⟨w3.heap.size, 2, none⟩ = some (.int .i64 p1) := (HX5.out.cell 2).trans rfl
    have c0 : w5.cell? ⟨w.heap.size, 0, none⟩ = some (.int .i64 o) := (HB5.out.cell 0).trans rfl
    have c1 : w5.cell? ⟨w.heap.size, 1, none⟩ = some (.int .i64 t) := (HB5.out.cell 1).trans rfl
    have c2 : w5.cell? ⟨w.heap.size, 2, none⟩ = some (.int .i64 c) := (HB5.out.cell 2).trans rfl
    have c3 : w5.cell? ⟨w.heap.size, 3, none⟩ = some (.int .i64 v) := (HB5.out.cell 3).trans rfl) | fail)
  with_reducible refine (key_any _ _ _ _ _).mono ?_
  rintro e w6 ⟨rfl, hN6⟩
  have HR6 := Lib.hid (HR5.out.keep hN6)
  have HN6 := Lib.hid (HN5.out.then_new hN6)
  clear hN6
  cases b with
  | false =>
    change Hid (∀ w, Calls Try.prog 24 #[.agg #[.int .i64 o, .int .i64 p0, .int .i64 p1, .int .i64 v]] w fun e w' => e = .returned (.tuple #[.agg #[.int .i64 0, .int .i64 0, .int .i64 0, .int .i64 0], .int .i64 2]) ∧ New w w') at HCh
    go_wp2_with fail
    with_reducible refine (HCh.out _).mono ?_
    rintro e w7 ⟨rfl, hN7⟩
    have HR7 := Lib.hid (HR6.out.keep hN7)
    have HN7 := Lib.hid (HN6.out.then_new hN7)
    clear hN7
    have r0 : w7.cell? ⟨w.heap.size + 1, 0, none⟩ = some (.int .i64 0) := (HR7.out.cell 0).trans rfl
    have r1 : w7.cell? ⟨w.heap.size + 1, 1, none⟩ = some (.int .i64 0) := (HR7.out.cell 1).trans rfl
    have r2 : w7.cell? ⟨w.heap.size + 1, 2, none⟩ = some (.int .i64 0) := (HR7.out.cell 2).trans rfl
    have r3 : w7.cell? ⟨w.heap.size + 1, 3, none⟩ = some (.int .i64 0) := (HR7.out.cell 3).trans rfl
    have z0 := HR7.out.free 0
    have z1 := HR7.out.free 1
    have z2 := HR7.out.free 2
    have z3 := HR7.out.free 3
    go_wp2_with fail
    obtain ⟨hX, hGX⟩ := setK HR7.out (.int .i64 0) (.int .i64 0) (.int .i64 0) (.int .i64 0)
    generalize ((((w7.setCell ⟨w.heap.size + 1, 0, none⟩ (.int .i64 0)).setCell ⟨w.heap.size + 1, 1, none⟩ (.int .i64 0)).setCell ⟨w.heap.size + 1, 2, none⟩ (.int .i64 0)).setCell ⟨w.heap.size + 1, 3, none⟩ (.int .i64 0)) = wX at hX hGX ⊢
    have g0 := (hX.cell 0).trans rfl
    have g1 := (hX.cell 1).trans rfl
    have g2 := (hX.cell 2).trans rfl
    have g3 := (hX.cell 3).trans rfl
    refine bodyPost_ret (v := .tuple #[.agg #[.int .i64 0, .int .i64 0, .int .i64 0, .int .i64 0], .int .i64 2]) (by simp [results, Try.results9, go_sem, g0, g1, g2, g3]) rfl ?_
    exact ⟨by first | rfl | (simp only [HH.out]; rfl) | simp [HH.out], New.set HN7.out hGX (by omega)⟩
  | true =>
    change Hid (∀ w, Calls Try.prog 24 #[.agg #[.int .i64 o, .int .i64 p0, .int .i64 p1, .int .i64 v]] w fun e w' => e = .returned (.tuple #[.agg #[.int .i64 o, .int .i64 p0, .int .i64 p1, .int .i64 v], .int .i64 0]) ∧ New w w') at HCh
    go_wp2_with fail
    with_reducible refine (HCh.out _).mono ?_
    rintro e w7 ⟨rfl, hN7⟩
    have HR7 := Lib.hid (HR6.out.keep hN7)
    have HN7 := Lib.hid (HN6.out.then_new hN7)
    clear hN7
    have r0 : w7.cell? ⟨w.heap.size + 1, 0, none⟩ = some (.int .i64 0) := (HR7.out.cell 0).trans rfl
    have r1 : w7.cell? ⟨w.heap.size + 1, 1, none⟩ = some (.int .i64 0) := (HR7.out.cell 1).trans rfl
    have r2 : w7.cell? ⟨w.heap.size + 1, 2, none⟩ = some (.int .i64 0) := (HR7.out.cell 2).trans rfl
    have r3 : w7.cell? ⟨w.heap.size + 1, 3, none⟩ = some (.int .i64 0) := (HR7.out.cell 3).trans rfl
    have z0 := HR7.out.free 0
    have z1 := HR7.out.free 1
    have z2 := HR7.out.free 2
    have z3 := HR7.out.free 3
    go_wp2_with fail
    obtain ⟨hX, hGX⟩ := setK HR7.out (.int .i64 o) (.int .i64 p0) (.int .i64 p1) (.int .i64 v)
    generalize ((((w7.setCell ⟨w.heap.size + 1, 0, none⟩ (.int .i64 o)).setCell ⟨w.heap.size + 1, 1, none⟩ (.int .i64 p0)).setCell ⟨w.heap.size + 1, 2, none⟩ (.int .i64 p1)).setCell ⟨w.heap.size + 1, 3, none⟩ (.int .i64 v)) = wX at hX hGX ⊢
    have g0 := (hX.cell 0).trans rfl
    have g1 := (hX.cell 1).trans rfl
    have g2 := (hX.cell 2).trans rfl
    have g3 := (hX.cell 3).trans rfl
    refine bodyPost_ret (v := .tuple #[.agg #[.int .i64 o, .int .i64 p0, .int .i64 p1, .int .i64 v], .int .i64 0]) (by simp [results, Try.results9, go_sem, g0, g1, g2, g3]) rfl ?_
    exact ⟨by first | rfl | (simp only [HH.out]; rfl) | simp [HH.out], New.set HN7.out hGX (by omega)⟩
set_option maxRecDepth 100000 in
set_option maxHeartbeats 2000000 in
theorem Derive_20 (k : Ky) (A : Option Addr) (m : Nat) (p : Nat → Int) (F : Nat → Prop) (w : World) (hA : Arr w F A 0 (fun i => iV (p i))) (hF : ∀ k, F k → k < w.heap.size) (hb : rightB k = true) (hl : lev k = 2) (hz : ∀ i, i < 0 → p i ≠ 0) :
    Calls Try.prog 9 #[k.V, .slice A 0 m] w fun e w' => e = .returned (.tuple #[(derK k 0 p).V, .int .i64 (derE k 0 p)]) ∧ New w w' := by
  have HC := Lib.hid (Right_any k)
  rw [hb] at HC
  rw [derK_fine hb (by omega) hz, derE_fine hb (by omega) hz]
  have HL := Lib.hid (Level_any k)
  rw [levI_yes hb, hl] at HL
  change Hid (∀ w, Calls Try.prog 16 _ w fun e w' => e = .returned (.int .i64 2) ∧ New w w') at HL
  have HQ := Lib.hid (fun w h => Contains_any p A 0 m w F h (by omega))
  have hq : zeroB 0 p = false := by
    unfold zeroB
    rw [decide_eq_false_iff_not]
    rintro ⟨i, hi, hp⟩
    exact hz i hi hp
  rw [hq] at HQ
  have HFo := Lib.hid (fieldsOf_any k)
  have hd := der_places k 0 p
  rw [hl] at hd
  have hd' : derR k 0 p = ⟨k.o, k.t, k.c, k.v⟩ := by rw [hd]; simp
  clear hd hq hz hb hl
  rw [hd']
  have HCh := Lib.hid (checked_any ⟨k.o, k.t, k.c, k.v⟩)
  clear hd'
  have HH : Hid True := trivial
  obtain ⟨d, hdd⟩ : ∃ d : Ky, d = ⟨k.o, k.t, k.c, k.v⟩ := ⟨_, rfl⟩
  generalize rightB _ = b at HCh ⊢
  obtain ⟨o, t, c, v⟩ := k
  go_enter Try.func9, Try.ntmps9
  go_wp2_with fail
  with_reducible refine (HC.out _).mono ?_
  rintro e w1 ⟨rfl, hN⟩
  have HB := Lib.hid (((Has.new w 23 #[.int .i64 o, .int .i64 t, .int .i64 c, .int .i64 v]).alloc (.cells #[.int .i64 0, .int .i64 0, .int .i64 0, .int .i64 0] 23)).keep hN)
  have HR := Lib.hid ((Has.new_at (w.alloc (.cells #[.int .i64 o, .int .i64 t, .int .i64 c, .int .i64 v] 23)) 23 #[.int .i64 0, .int .i64 0, .int .i64 0, .int .i64 0] (w.heap.size + 1) (by simp)).keep hN)
  have HN := Lib.hid ((((Chg.refl (fun _ => False) w).alloc _).alloc _).then_new hN)
  clear hN
  have hA1 := hA.new HN.out hF
  have HA := Lib.hid hA1; clear hA1 hA
  have c0 : w1.cell? ⟨w.heap.size, 0, none⟩ = some (.int .i64 o) := (HB.out.cell 0).trans rfl
  have c1 : w1.cell? ⟨w.heap.size, 1, none⟩ = some (.int .i64 t) := (HB.out.cell 1).trans rfl
  have c2 : w1.cell? ⟨w.heap.size, 2, none⟩ = some (.int .i64 c) := (HB.out.cell 2).trans rfl
  have c3 : w1.cell? ⟨w.heap.size, 3, none⟩ = some (.int .i64 v) := (HB.out.cell 3).trans rfl
  go_wp2_with fail
  with_reducible refine (HL.out _).mono ?_
  rintro e w2 ⟨rfl, hN2⟩
  have HB2 := Lib.hid (HB.out.keep hN2)
  have HR2 := Lib.hid (HR.out.keep hN2)
  have HA2 := Lib.hid (HA.out.new hN2 (fun k hk => Nat.lt_of_lt_of_le (hF k hk) HN.out.size))
  have HN2 := Lib.hid (HN.out.then_new hN2)
  clear hN2 c0 c1 c2 c3 HB HR HN HA
  go_wp2_with fail
  with_reducible refine (HQ.out _ HA2.out).mono ?_
  rintro e w' ⟨rfl, rfl⟩
  have c0 : w'.cell? ⟨w.heap.size, 0, none⟩ = some (.int .i64 o) := (HB2.out.cell 0).trans rfl
  have c1 : w'.cell? ⟨w.heap.size, 1, none⟩ = some (.int .i64 t) := (HB2.out.cell 1).trans rfl
  have c2 : w'.cell? ⟨w.heap.size, 2, none⟩ = some (.int .i64 c) := (HB2.out.cell 2).trans rfl
  have c3 : w'.cell? ⟨w.heap.size, 3, none⟩ = some (.int .i64 v) := (HB2.out.cell 3).trans rfl
  go_wp2_with fail
  with_reducible refine (HFo.out _).mono ?_
  rintro e w3 ⟨rfl, hN3⟩
  have HB3 := Lib.hid (HB2.out.keep hN3)
  have HR3 := Lib.hid (HR2.out.keep hN3)
  have HA3 := Lib.hid (HA2.out.new hN3 (fun k hk => Nat.lt_of_lt_of_le (hF k hk) HN2.out.size))
  have HN3 := Lib.hid (HN2.out.then_new hN3)
  clear hN3 c0 c1 c2 c3 HB2 HR2 HN2 HA2
  have HX := Lib.hid (Has.new w3 49 #[.int .i64 o, .int .i64 t, .int .i64 c])
  have HB4 := Lib.hid (HB3.out.alloc (.cells #[.int .i64 o, .int .i64 t, .int .i64 c] 49))
  have HR4 := Lib.hid (HR3.out.alloc (.cells #[.int .i64 o, .int .i64 t, .int .i64 c] 49))
  have HA4 := Lib.hid (HA3.out.new ((Chg.refl _ _).alloc (.cells #[.int .i64 o, .int .i64 t, .int .i64 c] 49)) (fun k hk => Nat.lt_of_lt_of_le (hF k hk) HN3.out.size))
  have hlb := HB3.out.lt
  have hlr := HR3.out.lt
  go_wp2_with (first | (
    refine wpList_copy_has rfl _ _ rfl w3.heap.size 2 1 1 rfl A 0 m rfl 49 [.int .i64 o, .int .i64 t, .int .i64 c] HX.out F _ HA4.out (fun _ _ => rfl) (by simp) ?_
    intro w5 hH hG
    have HG5 := Lib.hid hG
    have HX5 : Hid (Has w5 w3.heap.size 49 #[.int .i64 o, .int .i64 t, .int .i64 c]) := by
      simp only [splice3, iV, show List.range (Nat.min 0 1) = [] from rfl, List.map_nil] at hH
      skip
      exact hH
    clear hH hG
    have HB5 := Lib.hid (HB4.out.chg HG5.out (by omega))
    have HR5 := Lib.hid (HR4.out.chg HG5.out (by omega))
    have HN5 := Lib.hid (New.set (HN3.out.alloc (.cells #[.int .i64 o, .int .i64 t, .int .i64 c] 49)) HG5.out (by omega))
    have hlb5 := HB5.out.lt
    have hlr5 := HR5.out.lt
    have x0 : w5.cell? ⟨w3.heap.size, 0, none⟩ = some (.int .i64 o) := (HX5.out.cell 0).trans rfl
    have x1 : w5.cell? ⟨w3.heap.size, 1, none⟩ = some (.int .i64 t) := (HX5.out.cell 1).trans rfl
    have x2 : w5.cell? ⟨w3.heap.size, 2, none⟩ = some (.int .i64 c) := (HX5.out.cell 2).trans rfl
    have c0 : w5.cell? ⟨w.heap.size, 0, none⟩ = some (.int .i64 o) := (HB5.out.cell 0).trans rfl
    have c1 : w5.cell? ⟨w.heap.size, 1, none⟩ = some (.int .i64 t) := (HB5.out.cell 1).trans rfl
    have c2 : w5.cell? ⟨w.heap.size, 2, none⟩ = some (.int .i64 c) := (HB5.out.cell 2).trans rfl
    have c3 : w5.cell? ⟨w.heap.size, 3, none⟩ = some (.int .i64 v) := (HB5.out.cell 3).trans rfl) | fail)
  with_reducible refine (key_any _ _ _ _ _).mono ?_
  rintro e w6 ⟨rfl, hN6⟩
  have HR6 := Lib.hid (HR5.out.keep hN6)
  have HN6 := Lib.hid (HN5.out.then_new hN6)
  clear hN6
  cases b with
  | false =>
    change Hid (∀ w, Calls Try.prog 24 #[.agg #[.int .i64 o, .int .i64 t, .int .i64 c, .int .i64 v]] w fun e w' => e = .returned (.tuple #[.agg #[.int .i64 0, .int .i64 0, .int .i64 0, .int .i64 0], .int .i64 2]) ∧ New w w') at HCh
    go_wp2_with fail
    with_reducible refine (HCh.out _).mono ?_
    rintro e w7 ⟨rfl, hN7⟩
    have HR7 := Lib.hid (HR6.out.keep hN7)
    have HN7 := Lib.hid (HN6.out.then_new hN7)
    clear hN7
    have r0 : w7.cell? ⟨w.heap.size + 1, 0, none⟩ = some (.int .i64 0) := (HR7.out.cell 0).trans rfl
    have r1 : w7.cell? ⟨w.heap.size + 1, 1, none⟩ = some (.int .i64 0) := (HR7.out.cell 1).trans rfl
    have r2 : w7.cell? ⟨w.heap.size + 1, 2, none⟩ = some (.int .i64 0) := (HR7.out.cell 2).trans rfl
    have r3 : w7.cell? ⟨w.heap.size + 1, 3, none⟩ = some (.int .i64 0) := (HR7.out.cell 3).trans rfl
    have z0 := HR7.out.free 0
    have z1 := HR7.out.free 1
    have z2 := HR7.out.free 2
    have z3 := HR7.out.free 3
    go_wp2_with fail
    obtain ⟨hX, hGX⟩ := setK HR7.out (.int .i64 0) (.int .i64 0) (.int .i64 0) (.int .i64 0)
    generalize ((((w7.setCell ⟨w.heap.size + 1, 0, none⟩ (.int .i64 0)).setCell ⟨w.heap.size + 1, 1, none⟩ (.int .i64 0)).setCell ⟨w.heap.size + 1, 2, none⟩ (.int .i64 0)).setCell ⟨w.heap.size + 1, 3, none⟩ (.int .i64 0)) = wX at hX hGX ⊢
    have g0 := (hX.cell 0).trans rfl
    have g1 := (hX.cell 1).trans rfl
    have g2 := (hX.cell 2).trans rfl
    have g3 := (hX.cell 3).trans rfl
    refine bodyPost_ret (v := .tuple #[.agg #[.int .i64 0, .int .i64 0, .int .i64 0, .int .i64 0], .int .i64 2]) (by simp [results, Try.results9, go_sem, g0, g1, g2, g3]) rfl ?_
    exact ⟨by first | rfl | (simp only [HH.out]; rfl) | simp [HH.out], New.set HN7.out hGX (by omega)⟩
  | true =>
    change Hid (∀ w, Calls Try.prog 24 #[.agg #[.int .i64 o, .int .i64 t, .int .i64 c, .int .i64 v]] w fun e w' => e = .returned (.tuple #[.agg #[.int .i64 o, .int .i64 t, .int .i64 c, .int .i64 v], .int .i64 0]) ∧ New w w') at HCh
    go_wp2_with fail
    with_reducible refine (HCh.out _).mono ?_
    rintro e w7 ⟨rfl, hN7⟩
    have HR7 := Lib.hid (HR6.out.keep hN7)
    have HN7 := Lib.hid (HN6.out.then_new hN7)
    clear hN7
    have r0 : w7.cell? ⟨w.heap.size + 1, 0, none⟩ = some (.int .i64 0) := (HR7.out.cell 0).trans rfl
    have r1 : w7.cell? ⟨w.heap.size + 1, 1, none⟩ = some (.int .i64 0) := (HR7.out.cell 1).trans rfl
    have r2 : w7.cell? ⟨w.heap.size + 1, 2, none⟩ = some (.int .i64 0) := (HR7.out.cell 2).trans rfl
    have r3 : w7.cell? ⟨w.heap.size + 1, 3, none⟩ = some (.int .i64 0) := (HR7.out.cell 3).trans rfl
    have z0 := HR7.out.free 0
    have z1 := HR7.out.free 1
    have z2 := HR7.out.free 2
    have z3 := HR7.out.free 3
    go_wp2_with fail
    obtain ⟨hX, hGX⟩ := setK HR7.out (.int .i64 o) (.int .i64 t) (.int .i64 c) (.int .i64 v)
    generalize ((((w7.setCell ⟨w.heap.size + 1, 0, none⟩ (.int .i64 o)).setCell ⟨w.heap.size + 1, 1, none⟩ (.int .i64 t)).setCell ⟨w.heap.size + 1, 2, none⟩ (.int .i64 c)).setCell ⟨w.heap.size + 1, 3, none⟩ (.int .i64 v)) = wX at hX hGX ⊢
    have g0 := (hX.cell 0).trans rfl
    have g1 := (hX.cell 1).trans rfl
    have g2 := (hX.cell 2).trans rfl
    have g3 := (hX.cell 3).trans rfl
    refine bodyPost_ret (v := .tuple #[.agg #[.int .i64 o, .int .i64 t, .int .i64 c, .int .i64 v], .int .i64 0]) (by simp [results, Try.results9, go_sem, g0, g1, g2, g3]) rfl ?_
    exact ⟨by first | rfl | (simp only [HH.out]; rfl) | simp [HH.out], New.set HN7.out hGX (by omega)⟩
set_option maxRecDepth 100000 in
set_option maxHeartbeats 2000000 in
theorem Derive_21 (k : Ky) (A : Option Addr) (m : Nat) (p : Nat → Int) (F : Nat → Prop) (w : World) (hA : Arr w F A 1 (fun i => iV (p i))) (hF : ∀ k, F k → k < w.heap.size) (hb : rightB k = true) (hl : lev k = 2) (hz : ∀ i, i < 1 → p i ≠ 0) :
    Calls Try.prog 9 #[k.V, .slice A 1 m] w fun e w' => e = .returned (.tuple #[(derK k 1 p).V, .int .i64 (derE k 1 p)]) ∧ New w w' := by
  have HC := Lib.hid (Right_any k)
  rw [hb] at HC
  rw [derK_fine hb (by omega) hz, derE_fine hb (by omega) hz]
  have HL := Lib.hid (Level_any k)
  rw [levI_yes hb, hl] at HL
  change Hid (∀ w, Calls Try.prog 16 _ w fun e w' => e = .returned (.int .i64 2) ∧ New w w') at HL
  have HQ := Lib.hid (fun w h => Contains_any p A 1 m w F h (by omega))
  have hq : zeroB 1 p = false := by
    unfold zeroB
    rw [decide_eq_false_iff_not]
    rintro ⟨i, hi, hp⟩
    exact hz i hi hp
  rw [hq] at HQ
  have HFo := Lib.hid (fieldsOf_any k)
  have hd := der_places k 1 p
  rw [hl] at hd
  obtain ⟨p0, hp0⟩ : ∃ x, x = p 0 := ⟨_, rfl⟩
  simp only [← hp0] at hd
  have hd' : derR k 1 p = ⟨k.o, k.t, p0, k.v⟩ := by rw [hd]; simp
  clear hd hq hz hb hl
  have Hp0 := Lib.hid hp0; clear hp0
  rw [hd']
  have HCh := Lib.hid (checked_any ⟨k.o, k.t, p0, k.v⟩)
  clear hd'
  have HH : Hid True := trivial
  obtain ⟨d, hdd⟩ : ∃ d : Ky, d = ⟨k.o, k.t, p0, k.v⟩ := ⟨_, rfl⟩
  generalize rightB _ = b at HCh ⊢
  obtain ⟨o, t, c, v⟩ := k
  go_enter Try.func9, Try.ntmps9
  go_wp2_with fail
  with_reducible refine (HC.out _).mono ?_
  rintro e w1 ⟨rfl, hN⟩
  have HB := Lib.hid (((Has.new w 23 #[.int .i64 o, .int .i64 t, .int .i64 c, .int .i64 v]).alloc (.cells #[.int .i64 0, .int .i64 0, .int .i64 0, .int .i64 0] 23)).keep hN)
  have HR := Lib.hid ((Has.new_at (w.alloc (.cells #[.int .i64 o, .int .i64 t, .int .i64 c, .int .i64 v] 23)) 23 #[.int .i64 0, .int .i64 0, .int .i64 0, .int .i64 0] (w.heap.size + 1) (by simp)).keep hN)
  have HN := Lib.hid ((((Chg.refl (fun _ => False) w).alloc _).alloc _).then_new hN)
  clear hN
  have hA1 := hA.new HN.out hF
  have HA := Lib.hid hA1; clear hA1 hA
  have c0 : w1.cell? ⟨w.heap.size, 0, none⟩ = some (.int .i64 o) := (HB.out.cell 0).trans rfl
  have c1 : w1.cell? ⟨w.heap.size, 1, none⟩ = some (.int .i64 t) := (HB.out.cell 1).trans rfl
  have c2 : w1.cell? ⟨w.heap.size, 2, none⟩ = some (.int .i64 c) := (HB.out.cell 2).trans rfl
  have c3 : w1.cell? ⟨w.heap.size, 3, none⟩ = some (.int .i64 v) := (HB.out.cell 3).trans rfl
  go_wp2_with fail
  with_reducible refine (HL.out _).mono ?_
  rintro e w2 ⟨rfl, hN2⟩
  have HB2 := Lib.hid (HB.out.keep hN2)
  have HR2 := Lib.hid (HR.out.keep hN2)
  have HA2 := Lib.hid (HA.out.new hN2 (fun k hk => Nat.lt_of_lt_of_le (hF k hk) HN.out.size))
  have HN2 := Lib.hid (HN.out.then_new hN2)
  clear hN2 c0 c1 c2 c3 HB HR HN HA
  go_wp2_with fail
  with_reducible refine (HQ.out _ HA2.out).mono ?_
  rintro e w' ⟨rfl, rfl⟩
  have c0 : w'.cell? ⟨w.heap.size, 0, none⟩ = some (.int .i64 o) := (HB2.out.cell 0).trans rfl
  have c1 : w'.cell? ⟨w.heap.size, 1, none⟩ = some (.int .i64 t) := (HB2.out.cell 1).trans rfl
  have c2 : w'.cell? ⟨w.heap.size, 2, none⟩ = some (.int .i64 c) := (HB2.out.cell 2).trans rfl
  have c3 : w'.cell? ⟨w.heap.size, 3, none⟩ = some (.int .i64 v) := (HB2.out.cell 3).trans rfl
  go_wp2_with fail
  with_reducible refine (HFo.out _).mono ?_
  rintro e w3 ⟨rfl, hN3⟩
  have HB3 := Lib.hid (HB2.out.keep hN3)
  have HR3 := Lib.hid (HR2.out.keep hN3)
  have HA3 := Lib.hid (HA2.out.new hN3 (fun k hk => Nat.lt_of_lt_of_le (hF k hk) HN2.out.size))
  have HN3 := Lib.hid (HN2.out.then_new hN3)
  clear hN3 c0 c1 c2 c3 HB2 HR2 HN2 HA2
  have HX := Lib.hid (Has.new w3 49 #[.int .i64 o, .int .i64 t, .int .i64 c])
  have HB4 := Lib.hid (HB3.out.alloc (.cells #[.int .i64 o, .int .i64 t, .int .i64 c] 49))
  have HR4 := Lib.hid (HR3.out.alloc (.cells #[.int .i64 o, .int .i64 t, .int .i64 c] 49))
  have HA4 := Lib.hid (HA3.out.new ((Chg.refl _ _).alloc (.cells #[.int .i64 o, .int .i64 t, .int .i64 c] 49)) (fun k hk => Nat.lt_of_lt_of_le (hF k hk) HN3.out.size))
  have hlb := HB3.out.lt
  have hlr := HR3.out.lt
  go_wp2_with (first | (
    refine wpList_copy_has rfl _ _ rfl w3.heap.size 2 1 1 rfl A 1 m rfl 49 [.int .i64 o, .int .i64 t, .int .i64 c] HX.out F _ HA4.out (fun _ _ => rfl) (by simp) ?_
    intro w5 hH hG
    have HG5 := Lib.hid hG
    have HX5 : Hid (Has w5 w3.heap.size 49 #[.int .i64 o, .int .i64 t, .int .i64 p0]) := by
      simp only [splice3, iV, show List.range (Nat.min 1 1) = [0] from rfl, List.map_cons, List.map_nil] at hH
      rw [← Hp0.out] at hH
      exact hH
    clear hH hG
    have HB5 := Lib.hid (HB4.out.chg HG5.out (by omega))
    have HR5 := Lib.hid (HR4.out.chg HG5.out (by omega))
    have HN5 := Lib.hid (New.set (HN3.out.alloc (.cells #[.int .i64 o, .int .i64 t, .int .i64 c] 49)) HG5.out (by omega))
    have hlb5 := HB5.out.lt
    have hlr5 := HR5.out.lt
    have x0 : w5.cell? ⟨w3.heap.size, 0, none⟩ = some (.int .i64 o) := (HX5.out.cell 0).trans rfl
    have x1 : w5.cell? ⟨w3.heap.size, 1, none⟩ = some (.int .i64 t) := (HX5.out.cell 1).trans rfl
    have x2 : w5.cell? ⟨w3.heap.size, 2, none⟩ = some (.int .i64 p0) := (HX5.out.cell 2).trans rfl
    have c0 : w5.cell? ⟨w.heap.size, 0, none⟩ = some (.int .i64 o) := (HB5.out.cell 0).trans rfl
    have c1 : w5.cell? ⟨w.heap.size, 1, none⟩ = some (.int .i64 t) := (HB5.out.cell 1).trans rfl
    have c2 : w5.cell? ⟨w.heap.size, 2, none⟩ = some (.int .i64 c) := (HB5.out.cell 2).trans rfl
    have c3 : w5.cell? ⟨w.heap.size, 3, none⟩ = some (.int .i64 v) := (HB5.out.cell 3).trans rfl) | fail)
  with_reducible refine (key_any _ _ _ _ _).mono ?_
  rintro e w6 ⟨rfl, hN6⟩
  have HR6 := Lib.hid (HR5.out.keep hN6)
  have HN6 := Lib.hid (HN5.out.then_new hN6)
  clear hN6
  cases b with
  | false =>
    change Hid (∀ w, Calls Try.prog 24 #[.agg #[.int .i64 o, .int .i64 t, .int .i64 p0, .int .i64 v]] w fun e w' => e = .returned (.tuple #[.agg #[.int .i64 0, .int .i64 0, .int .i64 0, .int .i64 0], .int .i64 2]) ∧ New w w') at HCh
    go_wp2_with fail
    with_reducible refine (HCh.out _).mono ?_
    rintro e w7 ⟨rfl, hN7⟩
    have HR7 := Lib.hid (HR6.out.keep hN7)
    have HN7 := Lib.hid (HN6.out.then_new hN7)
    clear hN7
    have r0 : w7.cell? ⟨w.heap.size + 1, 0, none⟩ = some (.int .i64 0) := (HR7.out.cell 0).trans rfl
    have r1 : w7.cell? ⟨w.heap.size + 1, 1, none⟩ = some (.int .i64 0) := (HR7.out.cell 1).trans rfl
    have r2 : w7.cell? ⟨w.heap.size + 1, 2, none⟩ = some (.int .i64 0) := (HR7.out.cell 2).trans rfl
    have r3 : w7.cell? ⟨w.heap.size + 1, 3, none⟩ = some (.int .i64 0) := (HR7.out.cell 3).trans rfl
    have z0 := HR7.out.free 0
    have z1 := HR7.out.free 1
    have z2 := HR7.out.free 2
    have z3 := HR7.out.free 3
    go_wp2_with fail
    obtain ⟨hX, hGX⟩ := setK HR7.out (.int .i64 0) (.int .i64 0) (.int .i64 0) (.int .i64 0)
    generalize ((((w7.setCell ⟨w.heap.size + 1, 0, none⟩ (.int .i64 0)).setCell ⟨w.heap.size + 1, 1, none⟩ (.int .i64 0)).setCell ⟨w.heap.size + 1, 2, none⟩ (.int .i64 0)).setCell ⟨w.heap.size + 1, 3, none⟩ (.int .i64 0)) = wX at hX hGX ⊢
    have g0 := (hX.cell 0).trans rfl
    have g1 := (hX.cell 1).trans rfl
    have g2 := (hX.cell 2).trans rfl
    have g3 := (hX.cell 3).trans rfl
    refine bodyPost_ret (v := .tuple #[.agg #[.int .i64 0, .int .i64 0, .int .i64 0, .int .i64 0], .int .i64 2]) (by simp [results, Try.results9, go_sem, g0, g1, g2, g3]) rfl ?_
    exact ⟨by first | rfl | (simp only [HH.out]; rfl) | simp [HH.out], New.set HN7.out hGX (by omega)⟩
  | true =>
    change Hid (∀ w, Calls Try.prog 24 #[.agg #[.int .i64 o, .int .i64 t, .int .i64 p0, .int .i64 v]] w fun e w' => e = .returned (.tuple #[.agg #[.int .i64 o, .int .i64 t, .int .i64 p0, .int .i64 v], .int .i64 0]) ∧ New w w') at HCh
    go_wp2_with fail
    with_reducible refine (HCh.out _).mono ?_
    rintro e w7 ⟨rfl, hN7⟩
    have HR7 := Lib.hid (HR6.out.keep hN7)
    have HN7 := Lib.hid (HN6.out.then_new hN7)
    clear hN7
    have r0 : w7.cell? ⟨w.heap.size + 1, 0, none⟩ = some (.int .i64 0) := (HR7.out.cell 0).trans rfl
    have r1 : w7.cell? ⟨w.heap.size + 1, 1, none⟩ = some (.int .i64 0) := (HR7.out.cell 1).trans rfl
    have r2 : w7.cell? ⟨w.heap.size + 1, 2, none⟩ = some (.int .i64 0) := (HR7.out.cell 2).trans rfl
    have r3 : w7.cell? ⟨w.heap.size + 1, 3, none⟩ = some (.int .i64 0) := (HR7.out.cell 3).trans rfl
    have z0 := HR7.out.free 0
    have z1 := HR7.out.free 1
    have z2 := HR7.out.free 2
    have z3 := HR7.out.free 3
    go_wp2_with fail
    obtain ⟨hX, hGX⟩ := setK HR7.out (.int .i64 o) (.int .i64 t) (.int .i64 p0) (.int .i64 v)
    generalize ((((w7.setCell ⟨w.heap.size + 1, 0, none⟩ (.int .i64 o)).setCell ⟨w.heap.size + 1, 1, none⟩ (.int .i64 t)).setCell ⟨w.heap.size + 1, 2, none⟩ (.int .i64 p0)).setCell ⟨w.heap.size + 1, 3, none⟩ (.int .i64 v)) = wX at hX hGX ⊢
    have g0 := (hX.cell 0).trans rfl
    have g1 := (hX.cell 1).trans rfl
    have g2 := (hX.cell 2).trans rfl
    have g3 := (hX.cell 3).trans rfl
    refine bodyPost_ret (v := .tuple #[.agg #[.int .i64 o, .int .i64 t, .int .i64 p0, .int .i64 v], .int .i64 0]) (by simp [results, Try.results9, go_sem, g0, g1, g2, g3]) rfl ?_
    exact ⟨by first | rfl | (simp only [HH.out]; rfl) | simp [HH.out], New.set HN7.out hGX (by omega)⟩
set_option maxRecDepth 100000 in
set_option maxHeartbeats 2000000 in
theorem Derive_30 (k : Ky) (A : Option Addr) (m : Nat) (p : Nat → Int) (F : Nat → Prop) (w : World) (hA : Arr w F A 0 (fun i => iV (p i))) (hF : ∀ k, F k → k < w.heap.size) (hb : rightB k = true) (hl : lev k = 3) (hz : ∀ i, i < 0 → p i ≠ 0) :
    Calls Try.prog 9 #[k.V, .slice A 0 m] w fun e w' => e = .returned (.tuple #[(derK k 0 p).V, .int .i64 (derE k 0 p)]) ∧ New w w' := by
  have HC := Lib.hid (Right_any k)
  rw [hb] at HC
  rw [derK_fine hb (by omega) hz, derE_fine hb (by omega) hz]
  have HL := Lib.hid (Level_any k)
  rw [levI_yes hb, hl] at HL
  change Hid (∀ w, Calls Try.prog 16 _ w fun e w' => e = .returned (.int .i64 3) ∧ New w w') at HL
  have HQ := Lib.hid (fun w h => Contains_any p A 0 m w F h (by omega))
  have hq : zeroB 0 p = false := by
    unfold zeroB
    rw [decide_eq_false_iff_not]
    rintro ⟨i, hi, hp⟩
    exact hz i hi hp
  rw [hq] at HQ
  have HFo := Lib.hid (fieldsOf_any k)
  have hd := der_places k 0 p
  rw [hl] at hd
  have hd' : derR k 0 p = ⟨k.o, k.t, k.c, k.v⟩ := by rw [hd]; simp
  clear hd hq hz hb hl
  rw [hd']
  have HCh := Lib.hid (checked_any ⟨k.o, k.t, k.c, k.v⟩)
  clear hd'
  have HH : Hid True := trivial
  obtain ⟨d, hdd⟩ : ∃ d : Ky, d = ⟨k.o, k.t, k.c, k.v⟩ := ⟨_, rfl⟩
  generalize rightB _ = b at HCh ⊢
  obtain ⟨o, t, c, v⟩ := k
  go_enter Try.func9, Try.ntmps9
  go_wp2_with fail
  with_reducible refine (HC.out _).mono ?_
  rintro e w1 ⟨rfl, hN⟩
  have HB := Lib.hid (((Has.new w 23 #[.int .i64 o, .int .i64 t, .int .i64 c, .int .i64 v]).alloc (.cells #[.int .i64 0, .int .i64 0, .int .i64 0, .int .i64 0] 23)).keep hN)
  have HR := Lib.hid ((Has.new_at (w.alloc (.cells #[.int .i64 o, .int .i64 t, .int .i64 c, .int .i64 v] 23)) 23 #[.int .i64 0, .int .i64 0, .int .i64 0, .int .i64 0] (w.heap.size + 1) (by simp)).keep hN)
  have HN := Lib.hid ((((Chg.refl (fun _ => False) w).alloc _).alloc _).then_new hN)
  clear hN
  have hA1 := hA.new HN.out hF
  have HA := Lib.hid hA1; clear hA1 hA
  have c0 : w1.cell? ⟨w.heap.size, 0, none⟩ = some (.int .i64 o) := (HB.out.cell 0).trans rfl
  have c1 : w1.cell? ⟨w.heap.size, 1, none⟩ = some (.int .i64 t) := (HB.out.cell 1).trans rfl
  have c2 : w1.cell? ⟨w.heap.size, 2, none⟩ = some (.int .i64 c) := (HB.out.cell 2).trans rfl
  have c3 : w1.cell? ⟨w.heap.size, 3, none⟩ = some (.int .i64 v) := (HB.out.cell 3).trans rfl
  go_wp2_with fail
  with_reducible refine (HL.out _).mono ?_
  rintro e w2 ⟨rfl, hN2⟩
  have HB2 := Lib.hid (HB.out.keep hN2)
  have HR2 := Lib.hid (HR.out.keep hN2)
  have HA2 := Lib.hid (HA.out.new hN2 (fun k hk => Nat.lt_of_lt_of_le (hF k hk) HN.out.size))
  have HN2 := Lib.hid (HN.out.then_new hN2)
  clear hN2 c0 c1 c2 c3 HB HR HN HA
  go_wp2_with fail
  with_reducible refine (HQ.out _ HA2.out).mono ?_
  rintro e w' ⟨rfl, rfl⟩
  have c0 : w'.cell? ⟨w.heap.size, 0, none⟩ = some (.int .i64 o) := (HB2.out.cell 0).trans rfl
  have c1 : w'.cell? ⟨w.heap.size, 1, none⟩ = some (.int .i64 t) := (HB2.out.cell 1).trans rfl
  have c2 : w'.cell? ⟨w.heap.size, 2, none⟩ = some (.int .i64 c) := (HB2.out.cell 2).trans rfl
  have c3 : w'.cell? ⟨w.heap.size, 3, none⟩ = some (.int .i64 v) := (HB2.out.cell 3).trans rfl
  go_wp2_with fail
  with_reducible refine (HFo.out _).mono ?_
  rintro e w3 ⟨rfl, hN3⟩
  have HB3 := Lib.hid (HB2.out.keep hN3)
  have HR3 := Lib.hid (HR2.out.keep hN3)
  have HA3 := Lib.hid (HA2.out.new hN3 (fun k hk => Nat.lt_of_lt_of_le (hF k hk) HN2.out.size))
  have HN3 := Lib.hid (HN2.out.then_new hN3)
  clear hN3 c0 c1 c2 c3 HB2 HR2 HN2 HA2
  have HX := Lib.hid (Has.new w3 49 #[.int .i64 o, .int .i64 t, .int .i64 c])
  have HB4 := Lib.hid (HB3.out.alloc (.cells #[.int .i64 o, .int .i64 t, .int .i64 c] 49))
  have HR4 := Lib.hid (HR3.out.alloc (.cells #[.int .i64 o, .int .i64 t, .int .i64 c] 49))
  have HA4 := Lib.hid (HA3.out.new ((Chg.refl _ _).alloc (.cells #[.int .i64 o, .int .i64 t, .int .i64 c] 49)) (fun k hk => Nat.lt_of_lt_of_le (hF k hk) HN3.out.size))
  have hlb := HB3.out.lt
  have hlr := HR3.out.lt
  go_wp2_with (first | (
    refine wpList_copy_has rfl _ _ rfl w3.heap.size 0 0 0 rfl A 0 m rfl 49 [.int .i64 o, .int .i64 t, .int .i64 c] HX.out F _ HA4.out (fun _ _ => rfl) (by simp) ?_
    intro w5 hH hG
    have HG5 := Lib.hid hG
    have HX5 : Hid (Has w5 w3.heap.size 49 #[.int .i64 o, .int .i64 t, .int .i64 c]) := by
      simp only [splice3, iV, show List.range (Nat.min 0 0) = [] from rfl, List.map_nil] at hH
      skip
      exact hH
    clear hH hG
    have HB5 := Lib.hid (HB4.out.chg HG5.out (by omega))
    have HR5 := Lib.hid (HR4.out.chg HG5.out (by omega))
    have HN5 := Lib.hid (New.set (HN3.out.alloc (.cells #[.int .i64 o, .int .i64 t, .int .i64 c] 49)) HG5.out (by omega))
    have hlb5 := HB5.out.lt
    have hlr5 := HR5.out.lt
    have x0 : w5.cell? ⟨w3.heap.size, 0, none⟩ = some (.int .i64 o) := (HX5.out.cell 0).trans rfl
    have x1 : w5.cell? ⟨w3.heap.size, 1, none⟩ = some (.int .i64 t) := (HX5.out.cell 1).trans rfl
    have x2 : w5.cell? ⟨w3.heap.size, 2, none⟩ = some (.int .i64 c) := (HX5.out.cell 2).trans rfl
    have c0 : w5.cell? ⟨w.heap.size, 0, none⟩ = some (.int .i64 o) := (HB5.out.cell 0).trans rfl
    have c1 : w5.cell? ⟨w.heap.size, 1, none⟩ = some (.int .i64 t) := (HB5.out.cell 1).trans rfl
    have c2 : w5.cell? ⟨w.heap.size, 2, none⟩ = some (.int .i64 c) := (HB5.out.cell 2).trans rfl
    have c3 : w5.cell? ⟨w.heap.size, 3, none⟩ = some (.int .i64 v) := (HB5.out.cell 3).trans rfl) | fail)
  with_reducible refine (key_any _ _ _ _ _).mono ?_
  rintro e w6 ⟨rfl, hN6⟩
  have HR6 := Lib.hid (HR5.out.keep hN6)
  have HN6 := Lib.hid (HN5.out.then_new hN6)
  clear hN6
  cases b with
  | false =>
    change Hid (∀ w, Calls Try.prog 24 #[.agg #[.int .i64 o, .int .i64 t, .int .i64 c, .int .i64 v]] w fun e w' => e = .returned (.tuple #[.agg #[.int .i64 0, .int .i64 0, .int .i64 0, .int .i64 0], .int .i64 2]) ∧ New w w') at HCh
    go_wp2_with fail
    with_reducible refine (HCh.out _).mono ?_
    rintro e w7 ⟨rfl, hN7⟩
    have HR7 := Lib.hid (HR6.out.keep hN7)
    have HN7 := Lib.hid (HN6.out.then_new hN7)
    clear hN7
    have r0 : w7.cell? ⟨w.heap.size + 1, 0, none⟩ = some (.int .i64 0) := (HR7.out.cell 0).trans rfl
    have r1 : w7.cell? ⟨w.heap.size + 1, 1, none⟩ = some (.int .i64 0) := (HR7.out.cell 1).trans rfl
    have r2 : w7.cell? ⟨w.heap.size + 1, 2, none⟩ = some (.int .i64 0) := (HR7.out.cell 2).trans rfl
    have r3 : w7.cell? ⟨w.heap.size + 1, 3, none⟩ = some (.int .i64 0) := (HR7.out.cell 3).trans rfl
    have z0 := HR7.out.free 0
    have z1 := HR7.out.free 1
    have z2 := HR7.out.free 2
    have z3 := HR7.out.free 3
    go_wp2_with fail
    obtain ⟨hX, hGX⟩ := setK HR7.out (.int .i64 0) (.int .i64 0) (.int .i64 0) (.int .i64 0)
    generalize ((((w7.setCell ⟨w.heap.size + 1, 0, none⟩ (.int .i64 0)).setCell ⟨w.heap.size + 1, 1, none⟩ (.int .i64 0)).setCell ⟨w.heap.size + 1, 2, none⟩ (.int .i64 0)).setCell ⟨w.heap.size + 1, 3, none⟩ (.int .i64 0)) = wX at hX hGX ⊢
    have g0 := (hX.cell 0).trans rfl
    have g1 := (hX.cell 1).trans rfl
    have g2 := (hX.cell 2).trans rfl
    have g3 := (hX.cell 3).trans rfl
    refine bodyPost_ret (v := .tuple #[.agg #[.int .i64 0, .int .i64 0, .int .i64 0, .int .i64 0], .int .i64 2]) (by simp [results, Try.results9, go_sem, g0, g1, g2, g3]) rfl ?_
    exact ⟨by first | rfl | (simp only [HH.out]; rfl) | simp [HH.out], New.set HN7.out hGX (by omega)⟩
  | true =>
    change Hid (∀ w, Calls Try.prog 24 #[.agg #[.int .i64 o, .int .i64 t, .int .i64 c, .int .i64 v]] w fun e w' => e = .returned (.tuple #[.agg #[.int .i64 o, .int .i64 t, .int .i64 c, .int .i64 v], .int .i64 0]) ∧ New w w') at HCh
    go_wp2_with fail
    with_reducible refine (HCh.out _).mono ?_
    rintro e w7 ⟨rfl, hN7⟩
    have HR7 := Lib.hid (HR6.out.keep hN7)
    have HN7 := Lib.hid (HN6.out.then_new hN7)
    clear hN7
    have r0 : w7.cell? ⟨w.heap.size + 1, 0, none⟩ = some (.int .i64 0) := (HR7.out.cell 0).trans rfl
    have r1 : w7.cell? ⟨w.heap.size + 1, 1, none⟩ = some (.int .i64 0) := (HR7.out.cell 1).trans rfl
    have r2 : w7.cell? ⟨w.heap.size + 1, 2, none⟩ = some (.int .i64 0) := (HR7.out.cell 2).trans rfl
    have r3 : w7.cell? ⟨w.heap.size + 1, 3, none⟩ = some (.int .i64 0) := (HR7.out.cell 3).trans rfl
    have z0 := HR7.out.free 0
    have z1 := HR7.out.free 1
    have z2 := HR7.out.free 2
    have z3 := HR7.out.free 3
    go_wp2_with fail
    obtain ⟨hX, hGX⟩ := setK HR7.out (.int .i64 o) (.int .i64 t) (.int .i64 c) (.int .i64 v)
    generalize ((((w7.setCell ⟨w.heap.size + 1, 0, none⟩ (.int .i64 o)).setCell ⟨w.heap.size + 1, 1, none⟩ (.int .i64 t)).setCell ⟨w.heap.size + 1, 2, none⟩ (.int .i64 c)).setCell ⟨w.heap.size + 1, 3, none⟩ (.int .i64 v)) = wX at hX hGX ⊢
    have g0 := (hX.cell 0).trans rfl
    have g1 := (hX.cell 1).trans rfl
    have g2 := (hX.cell 2).trans rfl
    have g3 := (hX.cell 3).trans rfl
    refine bodyPost_ret (v := .tuple #[.agg #[.int .i64 o, .int .i64 t, .int .i64 c, .int .i64 v], .int .i64 0]) (by simp [results, Try.results9, go_sem, g0, g1, g2, g3]) rfl ?_
    exact ⟨by first | rfl | (simp only [HH.out]; rfl) | simp [HH.out], New.set HN7.out hGX (by omega)⟩
set_option maxRecDepth 100000 in
set_option maxHeartbeats 1000000 in
theorem Derive_any (k : Ky) (A : Option Addr) (n m : Nat) (p : Nat → Int) (F : Nat → Prop) (w : World) (hA : Arr w F A n (fun i => iV (p i))) (hF : ∀ k, F k → k < w.heap.size) (hn : n ≤ 1000000000000000000) :
    Calls Try.prog 9 #[k.V, .slice A n m] w fun e w' => e = .returned (.tuple #[(derK k n p).V, .int .i64 (derE k n p)]) ∧ New w w' := by
  have HC := Lib.hid (Right_any k)
  have HH : Hid True := trivial
  obtain ⟨b, hb⟩ : ∃ b, rightB k = b := ⟨_, rfl⟩
  rw [hb] at HC
  cases b with
  | false =>
    rw [derK_bad (derE_no n p hb) (by decide), derE_no n p hb]
    clear hb hn
    obtain ⟨o, t, c, v⟩ := k
    go_enter Try.func9, Try.ntmps9
    go_wp2_with fail
    with_reducible refine (HC.out _).mono ?_
    rintro e w1 ⟨rfl, hN⟩
    have HB := Lib.hid (((Has.new w 23 #[.int .i64 o, .int .i64 t, .int .i64 c, .int .i64 v]).alloc (.cells #[.int .i64 0, .int .i64 0, .int .i64 0, .int .i64 0] 23)).keep hN)
    have HR := Lib.hid ((Has.new_at (w.alloc (.cells #[.int .i64 o, .int .i64 t, .int .i64 c, .int .i64 v] 23)) 23 #[.int .i64 0, .int .i64 0, .int .i64 0, .int .i64 0] (w.heap.size + 1) (by simp)).keep hN)
    have HN := Lib.hid ((((Chg.refl (fun _ => False) w).alloc _).alloc _).then_new hN)
    clear hN
    have hA1 := hA.new HN.out hF
    have HA := Lib.hid hA1; clear hA1 hA
    have r0 : w1.cell? ⟨w.heap.size + 1, 0, none⟩ = some (.int .i64 0) := (HR.out.cell 0).trans rfl
    have r1 : w1.cell? ⟨w.heap.size + 1, 1, none⟩ = some (.int .i64 0) := (HR.out.cell 1).trans rfl
    have r2 : w1.cell? ⟨w.heap.size + 1, 2, none⟩ = some (.int .i64 0) := (HR.out.cell 2).trans rfl
    have r3 : w1.cell? ⟨w.heap.size + 1, 3, none⟩ = some (.int .i64 0) := (HR.out.cell 3).trans rfl
    have z0 := HR.out.free 0
    have z1 := HR.out.free 1
    have z2 := HR.out.free 2
    have z3 := HR.out.free 3
    go_wp2_with fail
    obtain ⟨hX, hGX⟩ := setK HR.out (.int .i64 0) (.int .i64 0) (.int .i64 0) (.int .i64 0)
    generalize ((((w1.setCell ⟨w.heap.size + 1, 0, none⟩ (.int .i64 0)).setCell ⟨w.heap.size + 1, 1, none⟩ (.int .i64 0)).setCell ⟨w.heap.size + 1, 2, none⟩ (.int .i64 0)).setCell ⟨w.heap.size + 1, 3, none⟩ (.int .i64 0)) = wX at hX hGX ⊢
    have g0 := (hX.cell 0).trans rfl
    have g1 := (hX.cell 1).trans rfl
    have g2 := (hX.cell 2).trans rfl
    have g3 := (hX.cell 3).trans rfl
    refine bodyPost_ret (v := .tuple #[.agg #[.int .i64 0, .int .i64 0, .int .i64 0, .int .i64 0], .int .i64 2]) (by simp [results, Try.results9, go_sem, g0, g1, g2, g3]) rfl ?_
    exact ⟨by first | rfl | (simp only [HH.out]; rfl) | simp [HH.out], New.set HN.out hGX (by omega)⟩
  | true =>
    have HL := Lib.hid (Level_any k)
    rw [levI_yes hb] at HL
    have hle := lev_le k
    by_cases hnn : 3 < lev k + n
    · rw [derK_bad (derE_nest p hb hnn) (by decide), derE_nest p hb hnn]
      clear hb
      generalize lev k = l at HL hnn hle
      obtain ⟨o, t, c, v⟩ := k
      go_enter Try.func9, Try.ntmps9
      go_wp2_with fail
      with_reducible refine (HC.out _).mono ?_
      rintro e w1 ⟨rfl, hN⟩
      have HB := Lib.hid (((Has.new w 23 #[.int .i64 o, .int .i64 t, .int .i64 c, .int .i64 v]).alloc (.cells #[.int .i64 0, .int .i64 0, .int .i64 0, .int .i64 0] 23)).keep hN)
      have HR := Lib.hid ((Has.new_at (w.alloc (.cells #[.int .i64 o, .int .i64 t, .int .i64 c, .int .i64 v] 23)) 23 #[.int .i64 0, .int .i64 0, .int .i64 0, .int .i64 0] (w.heap.size + 1) (by simp)).keep hN)
      have HN := Lib.hid ((((Chg.refl (fun _ => False) w).alloc _).alloc _).then_new hN)
      clear hN
      have hA1 := hA.new HN.out hF
      have HA := Lib.hid hA1; clear hA1 hA
      have c0 : w1.cell? ⟨w.heap.size, 0, none⟩ = some (.int .i64 o) := (HB.out.cell 0).trans rfl
      have c1 : w1.cell? ⟨w.heap.size, 1, none⟩ = some (.int .i64 t) := (HB.out.cell 1).trans rfl
      have c2 : w1.cell? ⟨w.heap.size, 2, none⟩ = some (.int .i64 c) := (HB.out.cell 2).trans rfl
      have c3 : w1.cell? ⟨w.heap.size, 3, none⟩ = some (.int .i64 v) := (HB.out.cell 3).trans rfl
      go_wp2_with fail
      with_reducible refine (HL.out _).mono ?_
      rintro e w2 ⟨rfl, hN2⟩
      have HB2 := Lib.hid (HB.out.keep hN2)
      have HR2 := Lib.hid (HR.out.keep hN2)
      have HA2 := Lib.hid (HA.out.new hN2 (fun k hk => Nat.lt_of_lt_of_le (hF k hk) HN.out.size))
      have HN2 := Lib.hid (HN.out.then_new hN2)
      clear hN2 c0 c1 c2 c3 HB HR HN HA
      have r0 : w2.cell? ⟨w.heap.size + 1, 0, none⟩ = some (.int .i64 0) := (HR2.out.cell 0).trans rfl
      have r1 : w2.cell? ⟨w.heap.size + 1, 1, none⟩ = some (.int .i64 0) := (HR2.out.cell 1).trans rfl
      have r2 : w2.cell? ⟨w.heap.size + 1, 2, none⟩ = some (.int .i64 0) := (HR2.out.cell 2).trans rfl
      have r3 : w2.cell? ⟨w.heap.size + 1, 3, none⟩ = some (.int .i64 0) := (HR2.out.cell 3).trans rfl
      have z0 := HR2.out.free 0
      have z1 := HR2.out.free 1
      have z2 := HR2.out.free 2
      have z3 := HR2.out.free 3
      go_wp2_with fail
      obtain ⟨hX, hGX⟩ := setK HR2.out (.int .i64 0) (.int .i64 0) (.int .i64 0) (.int .i64 0)
      generalize ((((w2.setCell ⟨w.heap.size + 1, 0, none⟩ (.int .i64 0)).setCell ⟨w.heap.size + 1, 1, none⟩ (.int .i64 0)).setCell ⟨w.heap.size + 1, 2, none⟩ (.int .i64 0)).setCell ⟨w.heap.size + 1, 3, none⟩ (.int .i64 0)) = wX at hX hGX ⊢
      have g0 := (hX.cell 0).trans rfl
      have g1 := (hX.cell 1).trans rfl
      have g2 := (hX.cell 2).trans rfl
      have g3 := (hX.cell 3).trans rfl
      refine bodyPost_ret (v := .tuple #[.agg #[.int .i64 0, .int .i64 0, .int .i64 0, .int .i64 0], .int .i64 15]) (by simp [results, Try.results9, go_sem, g0, g1, g2, g3]) rfl ?_
      exact ⟨by first | rfl | (simp only [HH.out]; rfl) | simp [HH.out], New.set HN2.out hGX (by omega)⟩
    · obtain ⟨z, hz⟩ : ∃ z, zeroB n p = z := ⟨_, rfl⟩
      cases z with
      | true =>
        have hzz := zeroB_yes hz
        rw [derK_bad (derE_zero hb (by omega) hzz) (by decide), derE_zero hb (by omega) hzz]
        have HQ := Lib.hid (fun w h => Contains_any p A n m w F h (by omega))
        rw [hz] at HQ
        clear hb hz hzz
        generalize lev k = l at HL hnn hle
        obtain ⟨o, t, c, v⟩ := k
        go_enter Try.func9, Try.ntmps9
        go_wp2_with fail
        with_reducible refine (HC.out _).mono ?_
        rintro e w1 ⟨rfl, hN⟩
        have HB := Lib.hid (((Has.new w 23 #[.int .i64 o, .int .i64 t, .int .i64 c, .int .i64 v]).alloc (.cells #[.int .i64 0, .int .i64 0, .int .i64 0, .int .i64 0] 23)).keep hN)
        have HR := Lib.hid ((Has.new_at (w.alloc (.cells #[.int .i64 o, .int .i64 t, .int .i64 c, .int .i64 v] 23)) 23 #[.int .i64 0, .int .i64 0, .int .i64 0, .int .i64 0] (w.heap.size + 1) (by simp)).keep hN)
        have HN := Lib.hid ((((Chg.refl (fun _ => False) w).alloc _).alloc _).then_new hN)
        clear hN
        have hA1 := hA.new HN.out hF
        have HA := Lib.hid hA1; clear hA1 hA
        have c0 : w1.cell? ⟨w.heap.size, 0, none⟩ = some (.int .i64 o) := (HB.out.cell 0).trans rfl
        have c1 : w1.cell? ⟨w.heap.size, 1, none⟩ = some (.int .i64 t) := (HB.out.cell 1).trans rfl
        have c2 : w1.cell? ⟨w.heap.size, 2, none⟩ = some (.int .i64 c) := (HB.out.cell 2).trans rfl
        have c3 : w1.cell? ⟨w.heap.size, 3, none⟩ = some (.int .i64 v) := (HB.out.cell 3).trans rfl
        go_wp2_with fail
        with_reducible refine (HL.out _).mono ?_
        rintro e w2 ⟨rfl, hN2⟩
        have HB2 := Lib.hid (HB.out.keep hN2)
        have HR2 := Lib.hid (HR.out.keep hN2)
        have HA2 := Lib.hid (HA.out.new hN2 (fun k hk => Nat.lt_of_lt_of_le (hF k hk) HN.out.size))
        have HN2 := Lib.hid (HN.out.then_new hN2)
        clear hN2 c0 c1 c2 c3 HB HR HN HA
        go_wp2_with fail
        with_reducible refine (HQ.out _ HA2.out).mono ?_
        rintro e w' ⟨rfl, rfl⟩
        have r0 : w'.cell? ⟨w.heap.size + 1, 0, none⟩ = some (.int .i64 0) := (HR2.out.cell 0).trans rfl
        have r1 : w'.cell? ⟨w.heap.size + 1, 1, none⟩ = some (.int .i64 0) := (HR2.out.cell 1).trans rfl
        have r2 : w'.cell? ⟨w.heap.size + 1, 2, none⟩ = some (.int .i64 0) := (HR2.out.cell 2).trans rfl
        have r3 : w'.cell? ⟨w.heap.size + 1, 3, none⟩ = some (.int .i64 0) := (HR2.out.cell 3).trans rfl
        have z0 := HR2.out.free 0
        have z1 := HR2.out.free 1
        have z2 := HR2.out.free 2
        have z3 := HR2.out.free 3
        go_wp2_with fail
        obtain ⟨hX, hGX⟩ := setK HR2.out (.int .i64 0) (.int .i64 0) (.int .i64 0) (.int .i64 0)
        generalize ((((w'.setCell ⟨w.heap.size + 1, 0, none⟩ (.int .i64 0)).setCell ⟨w.heap.size + 1, 1, none⟩ (.int .i64 0)).setCell ⟨w.heap.size + 1, 2, none⟩ (.int .i64 0)).setCell ⟨w.heap.size + 1, 3, none⟩ (.int .i64 0)) = wX at hX hGX ⊢
        have g0 := (hX.cell 0).trans rfl
        have g1 := (hX.cell 1).trans rfl
        have g2 := (hX.cell 2).trans rfl
        have g3 := (hX.cell 3).trans rfl
        refine bodyPost_ret (v := .tuple #[.agg #[.int .i64 0, .int .i64 0, .int .i64 0, .int .i64 0], .int .i64 2]) (by simp [results, Try.results9, go_sem, g0, g1, g2, g3]) rfl ?_
        exact ⟨by first | rfl | (simp only [HH.out]; rfl) | simp [HH.out], New.set HN2.out hGX (by omega)⟩
      | false =>
        have hzz := zeroB_no hz
        clear HC HL hz HH
        rcases lev_parts k with hl | hl | hl | hl
        · rcases (show n = 0 ∨ n = 1 ∨ n = 2 ∨ n = 3 by omega) with rfl | rfl | rfl | rfl
          · exact Derive_00 k A m p F w hA hF hb hl hzz
          · exact Derive_01 k A m p F w hA hF hb hl hzz
          · exact Derive_02 k A m p F w hA hF hb hl hzz
          · exact Derive_03 k A m p F w hA hF hb hl hzz
        · rcases (show n = 0 ∨ n = 1 ∨ n = 2 by omega) with rfl | rfl | rfl
          · exact Derive_10 k A m p F w hA hF hb hl hzz
          · exact Derive_11 k A m p F w hA hF hb hl hzz
          · exact Derive_12 k A m p F w hA hF hb hl hzz
        · rcases (show n = 0 ∨ n = 1 by omega) with rfl | rfl
          · exact Derive_20 k A m p F w hA hF hb hl hzz
          · exact Derive_21 k A m p F w hA hF hb hl hzz
        · obtain rfl : n = 0 := by omega
          exact Derive_30 k A m p F w hA hF hb hl hzz
end Go.Proofs.Ytkegafkmcdkphaa
