/-
  The document's own answer for keys: Level, Parent, From.
-/
import Derived.Test.YtkegafkmcdkphaaKyR
namespace Go.Proofs.Ytkegafkmcdkphaa
open Go.RowKit
def nz (x : Int) : Int := if x = 0 then 0 else 1
def cnt (o t c : Int) (k : Nat) : Int := (if 1 ≤ k then nz o else 0) + (if 2 ≤ k then nz t else 0) + (if 3 ≤ k then nz c else 0)
theorem nz_yes {x : Int} (h : (x != 0) = true) : nz x = 1 := by unfold nz; rw [if_neg (bne_iff_ne.1 h)]
theorem nz_no {x : Int} (h : (x != 0) = false) : nz x = 0 := by unfold nz; rw [if_pos (bne_eq_false_iff_eq.1 h)]
theorem nz_le (x : Int) : 0 ≤ nz x ∧ nz x ≤ 1 := by unfold nz; split <;> omega
theorem cnt_0 (o t c : Int) : cnt o t c 0 = 0 := by unfold cnt; rfl
theorem cnt_1 (o t c : Int) : cnt o t c 1 = cnt o t c 0 + nz o := by unfold cnt; simp
theorem cnt_2 (o t c : Int) : cnt o t c 2 = cnt o t c 1 + nz t := by unfold cnt; simp
theorem cnt_3 (o t c : Int) : cnt o t c 3 = cnt o t c 2 + nz c := by unfold cnt; simp
theorem cnt_le (o t c : Int) (k : Nat) : 0 ≤ cnt o t c k ∧ cnt o t c k ≤ 3 := by
  have := nz_le o
  have := nz_le t
  have := nz_le c
  unfold cnt
  repeat' split
  all_goals omega
theorem cnt_lev {k : Ky} (h : KRight k) : cnt k.o k.t k.c 3 = (lev k : Int) := by
  rw [cnt_3, cnt_2, cnt_1, cnt_0]
  unfold nz
  rcases lev_ways h with ⟨e, a, b, c⟩ | ⟨e, a, b, c⟩ | ⟨e, a, b, c⟩ | ⟨e, a, b, c⟩ <;> rw [e] <;> simp [a, b, c]
set_option maxRecDepth 100000 in
set_option maxHeartbeats 2000000 in
theorem rLevel_any (k : Ky) (w : World) : Calls Try.prog 17 #[k.V] w fun e w' => e = .returned (.int .i64 (levI k)) ∧ New w w' := by
  have HC := Lib.hid (rRight_any k)
  have HF := Lib.hid (Row_any k)
  obtain ⟨l, hl⟩ : ∃ l, l = levI k := ⟨_, rfl⟩
  rw [← hl]
  have Hl := Lib.hid hl; clear hl
  obtain ⟨b, hb⟩ : ∃ b, rightB k = b := ⟨_, rfl⟩
  rw [hb] at HC
  have Hb := Lib.hid hb; clear hb
  obtain ⟨o, t, c, v⟩ := k
  go_enter Try.func17, Try.ntmps17
  go_wp2_with fail
  with_reducible refine (HC.out _).mono ?_
  rintro e w0 ⟨rfl, hN⟩
  have HB := Lib.hid ((Has.new w 23 #[.int .i64 o, .int .i64 t, .int .i64 c, .int .i64 v]).keep hN)
  have HN := Lib.hid (((Chg.refl (fun _ => False) w).alloc _).then_new hN)
  clear hN
  cases b with
  | false =>
    go_wp2_with fail
    go_ret
    exact ⟨by rw [Hl.out, levI_no Hb.out]; rfl, HN.out⟩
  | true =>
    have c0 : w0.cell? ⟨w.heap.size, 0, none⟩ = some (.int .i64 o) := (HB.out.cell 0).trans rfl
    have c1 : w0.cell? ⟨w.heap.size, 1, none⟩ = some (.int .i64 t) := (HB.out.cell 1).trans rfl
    have c2 : w0.cell? ⟨w.heap.size, 2, none⟩ = some (.int .i64 c) := (HB.out.cell 2).trans rfl
    have c3 : w0.cell? ⟨w.heap.size, 3, none⟩ = some (.int .i64 v) := (HB.out.cell 3).trans rfl
    go_wp2_with fail
    with_reducible refine (HF.out _).mono ?_
    rintro e w1 ⟨rfl, hN2⟩
    have HN2 := Lib.hid (HN.out.then_new hN2); clear hN2
    clear c0 c1 c2 c3
    go_wp2_with fail
    go_loopg [3, 5] 3 (fun gk n i wr => ∃ k : Nat, k ≤ 3 ∧ gk = 3 - k ∧ n = .int .i64 (cnt o t c k) ∧ i = .int .i64 k ∧ Has wr w1.heap.size 48 #[.int .i64 o, .int .i64 t, .int .i64 c] ∧ New w wr)
    case atStart => exact ⟨0, by omega, by omega, by rw [cnt_0], rfl, Has.new _ _ _, HN2.out.alloc _⟩
    case round =>
      obtain ⟨k, hk, rfl, rfl, rfl, hX, hN⟩ := hrel
      rcases (show k = 0 ∨ k = 1 ∨ k = 2 ∨ k = 3 by omega) with rfl | rfl | rfl | rfl
      · have HX := Lib.hid hX; clear hX
        have HN := Lib.hid hN; clear hN
        have hle := cnt_le o t c 0
        have He := Lib.hid (cnt_1 o t c)
        obtain ⟨s, hs⟩ : ∃ s, s = cnt o t c 0 := ⟨_, rfl⟩
        rw [← hs] at hle He ⊢
        clear hs
        have c0 : wr.cell? ⟨w1.heap.size, 0, none⟩ = some (.int .i64 o) := (HX.out.cell 0).trans rfl
        have c1 : wr.cell? ⟨w1.heap.size, 1, none⟩ = some (.int .i64 t) := (HX.out.cell 1).trans rfl
        have c2 : wr.cell? ⟨w1.heap.size, 2, none⟩ = some (.int .i64 c) := (HX.out.cell 2).trans rfl
        obtain ⟨b1, q1⟩ : ∃ b1, (o != 0) = b1 := ⟨_, rfl⟩
        cases b1 with
        | true =>
          have He2 := Lib.hid (He.out.trans (congrArg (s + ·) (nz_yes q1)))
          go_wp2_with fail
          go_roundg (3 - 1)
          case measure => omega
          case rel => exact ⟨1, by omega, rfl, by rw [He2.out] <;> go_num, by go_num, HX.out, HN.out⟩
        | false =>
          have He2 := Lib.hid (He.out.trans (congrArg (s + ·) (nz_no q1)))
          go_wp2_with fail
          go_roundg (3 - 1)
          case measure => omega
          case rel => exact ⟨1, by omega, rfl, by rw [He2.out] <;> go_num, by go_num, HX.out, HN.out⟩
      · have HX := Lib.hid hX; clear hX
        have HN := Lib.hid hN; clear hN
        have hle := cnt_le o t c 1
        have He := Lib.hid (cnt_2 o t c)
        obtain ⟨s, hs⟩ : ∃ s, s = cnt o t c 1 := ⟨_, rfl⟩
        rw [← hs] at hle He ⊢
        clear hs
        have c0 : wr.cell? ⟨w1.heap.size, 0, none⟩ = some (.int .i64 o) := (HX.out.cell 0).trans rfl
        have c1 : wr.cell? ⟨w1.heap.size, 1, none⟩ = some (.int .i64 t) := (HX.out.cell 1).trans rfl
        have c2 : wr.cell? ⟨w1.heap.size, 2, none⟩ = some (.int .i64 c) := (HX.out.cell 2).trans rfl
        obtain ⟨b1, q1⟩ : ∃ b1, (t != 0) = b1 := ⟨_, rfl⟩
        cases b1 with
        | true =>
          have He2 := Lib.hid (He.out.trans (congrArg (s + ·) (nz_yes q1)))
          go_wp2_with fail
          go_roundg (3 - 2)
          case measure => omega
          case rel => exact ⟨2, by omega, rfl, by rw [He2.out] <;> go_num, by go_num, HX.out, HN.out⟩
        | false =>
          have He2 := Lib.hid (He.out.trans (congrArg (s + ·) (nz_no q1)))
          go_wp2_with fail
          go_roundg (3 - 2)
          case measure => omega
          case rel => exact ⟨2, by omega, rfl, by rw [He2.out] <;> go_num, by go_num, HX.out, HN.out⟩
      · have HX := Lib.hid hX; clear hX
        have HN := Lib.hid hN; clear hN
        have hle := cnt_le o t c 2
        have He := Lib.hid (cnt_3 o t c)
        obtain ⟨s, hs⟩ : ∃ s, s = cnt o t c 2 := ⟨_, rfl⟩
        rw [← hs] at hle He ⊢
        clear hs
        have c0 : wr.cell? ⟨w1.heap.size, 0, none⟩ = some (.int .i64 o) := (HX.out.cell 0).trans rfl
        have c1 : wr.cell? ⟨w1.heap.size, 1, none⟩ = some (.int .i64 t) := (HX.out.cell 1).trans rfl
        have c2 : wr.cell? ⟨w1.heap.size, 2, none⟩ = some (.int .i64 c) := (HX.out.cell 2).trans rfl
        obtain ⟨b1, q1⟩ : ∃ b1, (c != 0) = b1 := ⟨_, rfl⟩
        cases b1 with
        | true =>
          have He2 := Lib.hid (He.out.trans (congrArg (s + ·) (nz_yes q1)))
          go_wp2_with fail
          go_roundg (3 - 3)
          case measure => omega
          case rel => exact ⟨3, by omega, rfl, by rw [He2.out] <;> go_num, by go_num, HX.out, HN.out⟩
        | false =>
          have He2 := Lib.hid (He.out.trans (congrArg (s + ·) (nz_no q1)))
          go_wp2_with fail
          go_roundg (3 - 3)
          case measure => omega
          case rel => exact ⟨3, by omega, rfl, by rw [He2.out] <;> go_num, by go_num, HX.out, HN.out⟩
      · have He := Lib.hid (cnt_lev (rightB_yes Hb.out))
        simp only at He
        obtain ⟨s, hs⟩ : ∃ s, s = cnt o t c 3 := ⟨_, rfl⟩
        rw [← hs] at He ⊢
        clear hs
        go_wp2_with fail
        go_ret
        exact ⟨by rw [Hl.out, levI_yes Hb.out, ← He.out]; rfl, hN⟩
set_option maxRecDepth 100000 in
set_option maxHeartbeats 2000000 in
theorem rParent_any (k : Ky) (w : World) : Calls Try.prog 12 #[k.V] w fun e w' => e = .returned (.tuple #[(parK k).V, .int .i64 (parE k)]) ∧ New w w' := by
  obtain ⟨b, hb⟩ : ∃ b, rightB k = b := ⟨_, rfl⟩
  cases b with
  | false =>
    obtain ⟨hK, hE⟩ := par_no hb
    rw [hK, hE]
    clear hK hE
    have HL := Lib.hid (rLevel_any k)
    rw [levI_no hb] at HL
    change Hid (∀ w, Calls Try.prog 17 _ w fun e w' => e = .returned (.int .i64 (-1)) ∧ New w w') at HL
    have HF := Lib.hid (Row_any k)
    have HH : Hid True := trivial
    clear hb
    obtain ⟨o, t, c, v⟩ := k
    go_enter Try.func12, Try.ntmps12
    go_wp2_with fail
    with_reducible refine (HL.out _).mono ?_
    rintro e w1 ⟨rfl, hN⟩
    have HB := Lib.hid (((Has.new w 23 #[.int .i64 o, .int .i64 t, .int .i64 c, .int .i64 v]).alloc (.cells #[.int .i64 0, .int .i64 0, .int .i64 0, .int .i64 0] 23)).keep hN)
    have HR := Lib.hid ((Has.new_at (w.alloc (.cells #[.int .i64 o, .int .i64 t, .int .i64 c, .int .i64 v] 23)) 23 #[.int .i64 0, .int .i64 0, .int .i64 0, .int .i64 0] (w.heap.size + 1) (by simp)).keep hN)
    have HN := Lib.hid ((((Chg.refl (fun _ => False) w).alloc _).alloc _).then_new hN)
    clear hN
    have r0 : w1.cell? ⟨w.heap.size + 1, 0, none⟩ = some (.int .i64 0) := (HR.out.cell 0).trans rfl
    have r1 : w1.cell? ⟨w.heap.size + 1, 1, none⟩ = some (.int .i64 0) := (HR.out.cell 1).trans rfl
    have r2 : w1.cell? ⟨w.heap.size + 1, 2, none⟩ = some (.int .i64 0) := (HR.out.cell 2).trans rfl
    have r3 : w1.cell? ⟨w.heap.size + 1, 3, none⟩ = some (.int .i64 0) := (HR.out.cell 3).trans rfl
    have z0 := HR.out.free 0
    have z1 := HR.out.free 1
    have z2 := HR.out.free 2
    have z3 := HR.out.free 3
    go_wp2_with fail
    obtain ⟨hX, hGX⟩ := setK HR.out (.int .i64 0) (.int .i64 0) (.int .i64 0) (.int .i64 0)
    generalize ((((w1.setCell ⟨w.heap.size + 1, 0, none⟩ (.int .i64 0)).setCell ⟨w.heap.size + 1, 1, none⟩ (.int .i64 0)).setCell ⟨w.heap.size + 1, 2, none⟩ (.int .i64 0)).setCell ⟨w.heap.size + 1, 3, none⟩ (.int .i64 0)) = wX at hX hGX ⊢
    have g0 := (hX.cell 0).trans rfl
    have g1 := (hX.cell 1).trans rfl
    have g2 := (hX.cell 2).trans rfl
    have g3 := (hX.cell 3).trans rfl
    refine bodyPost_ret (v := .tuple #[.agg #[.int .i64 0, .int .i64 0, .int .i64 0, .int .i64 0], .int .i64 2]) (by simp [results, Try.results12, go_sem, g0, g1, g2, g3]) rfl ?_
    exact ⟨by first | rfl | (simp only [HH.out]; rfl) | simp [HH.out], New.set HN.out hGX (by omega)⟩
  | true =>
    rcases lev_parts k with hl | hl | hl | hl
    · obtain ⟨hK, hE⟩ := par_zero hb hl
      rw [hK, hE]
      clear hK hE
      have HL := Lib.hid (rLevel_any k)
      rw [levI_yes hb, hl] at HL
      change Hid (∀ w, Calls Try.prog 17 _ w fun e w' => e = .returned (.int .i64 (0)) ∧ New w w') at HL
      have HF := Lib.hid (Row_any k)
      have HH : Hid True := trivial
      clear hb hl
      obtain ⟨o, t, c, v⟩ := k
      go_enter Try.func12, Try.ntmps12
      go_wp2_with fail
      with_reducible refine (HL.out _).mono ?_
      rintro e w1 ⟨rfl, hN⟩
      have HB := Lib.hid (((Has.new w 23 #[.int .i64 o, .int .i64 t, .int .i64 c, .int .i64 v]).alloc (.cells #[.int .i64 0, .int .i64 0, .int .i64 0, .int .i64 0] 23)).keep hN)
      have HR := Lib.hid ((Has.new_at (w.alloc (.cells #[.int .i64 o, .int .i64 t, .int .i64 c, .int .i64 v] 23)) 23 #[.int .i64 0, .int .i64 0, .int .i64 0, .int .i64 0] (w.heap.size + 1) (by simp)).keep hN)
      have HN := Lib.hid ((((Chg.refl (fun _ => False) w).alloc _).alloc _).then_new hN)
      clear hN
      have r0 : w1.cell? ⟨w.heap.size + 1, 0, none⟩ = some (.int .i64 0) := (HR.out.cell 0).trans rfl
      have r1 : w1.cell? ⟨w.heap.size + 1, 1, none⟩ = some (.int .i64 0) := (HR.out.cell 1).trans rfl
      have r2 : w1.cell? ⟨w.heap.size + 1, 2, none⟩ = some (.int .i64 0) := (HR.out.cell 2).trans rfl
      have r3 : w1.cell? ⟨w.heap.size + 1, 3, none⟩ = some (.int .i64 0) := (HR.out.cell 3).trans rfl
      have z0 := HR.out.free 0
      have z1 := HR.out.free 1
      have z2 := HR.out.free 2
      have z3 := HR.out.free 3
      go_wp2_with fail
      obtain ⟨hX, hGX⟩ := setK HR.out (.int .i64 0) (.int .i64 0) (.int .i64 0) (.int .i64 0)
      generalize ((((w1.setCell ⟨w.heap.size + 1, 0, none⟩ (.int .i64 0)).setCell ⟨w.heap.size + 1, 1, none⟩ (.int .i64 0)).setCell ⟨w.heap.size + 1, 2, none⟩ (.int .i64 0)).setCell ⟨w.heap.size + 1, 3, none⟩ (.int .i64 0)) = wX at hX hGX ⊢
      have g0 := (hX.cell 0).trans rfl
      have g1 := (hX.cell 1).trans rfl
      have g2 := (hX.cell 2).trans rfl
      have g3 := (hX.cell 3).trans rfl
      refine bodyPost_ret (v := .tuple #[.agg #[.int .i64 0, .int .i64 0, .int .i64 0, .int .i64 0], .int .i64 21]) (by simp [results, Try.results12, go_sem, g0, g1, g2, g3]) rfl ?_
      exact ⟨by first | rfl | (simp only [HH.out]; rfl) | simp [HH.out], New.set HN.out hGX (by omega)⟩
    · obtain ⟨hK, hE⟩ := par_1 hb hl
      rw [hK, hE]
      clear hK hE
      have HL := Lib.hid (rLevel_any k)
      rw [levI_yes hb, hl] at HL
      change Hid (∀ w, Calls Try.prog 17 _ w fun e w' => e = .returned (.int .i64 (1)) ∧ New w w') at HL
      have HF := Lib.hid (Row_any k)
      have HH : Hid True := trivial
      clear hb hl
      obtain ⟨o, t, c, v⟩ := k
      go_enter Try.func12, Try.ntmps12
      go_wp2_with fail
      with_reducible refine (HL.out _).mono ?_
      rintro e w1 ⟨rfl, hN⟩
      have HB := Lib.hid (((Has.new w 23 #[.int .i64 o, .int .i64 t, .int .i64 c, .int .i64 v]).alloc (.cells #[.int .i64 0, .int .i64 0, .int .i64 0, .int .i64 0] 23)).keep hN)
      have HR := Lib.hid ((Has.new_at (w.alloc (.cells #[.int .i64 o, .int .i64 t, .int .i64 c, .int .i64 v] 23)) 23 #[.int .i64 0, .int .i64 0, .int .i64 0, .int .i64 0] (w.heap.size + 1) (by simp)).keep hN)
      have HN := Lib.hid ((((Chg.refl (fun _ => False) w).alloc _).alloc _).then_new hN)
      clear hN
      have c0 : w1.cell? ⟨w.heap.size, 0, none⟩ = some (.int .i64 o) := (HB.out.cell 0).trans rfl
      have c1 : w1.cell? ⟨w.heap.size, 1, none⟩ = some (.int .i64 t) := (HB.out.cell 1).trans rfl
      have c2 : w1.cell? ⟨w.heap.size, 2, none⟩ = some (.int .i64 c) := (HB.out.cell 2).trans rfl
      have c3 : w1.cell? ⟨w.heap.size, 3, none⟩ = some (.int .i64 v) := (HB.out.cell 3).trans rfl
      go_wp2_with fail
      with_reducible refine (HF.out _).mono ?_
      rintro e w3 ⟨rfl, hN3⟩
      have HB3 := Lib.hid (HB.out.keep hN3)
      have HR3 := Lib.hid (HR.out.keep hN3)
      have HN3 := Lib.hid (HN.out.then_new hN3)
      clear hN3 c0 c1 c2 c3 HB HR HN
      have c0 : w3.cell? ⟨w.heap.size, 0, none⟩ = some (.int .i64 o) := (HB3.out.cell 0).trans rfl
      have c1 : w3.cell? ⟨w.heap.size, 1, none⟩ = some (.int .i64 t) := (HB3.out.cell 1).trans rfl
      have c2 : w3.cell? ⟨w.heap.size, 2, none⟩ = some (.int .i64 c) := (HB3.out.cell 2).trans rfl
      have c3 : w3.cell? ⟨w.heap.size, 3, none⟩ = some (.int .i64 v) := (HB3.out.cell 3).trans rfl
      have r0 : w3.cell? ⟨w.heap.size + 1, 0, none⟩ = some (.int .i64 0) := (HR3.out.cell 0).trans rfl
      have r1 : w3.cell? ⟨w.heap.size + 1, 1, none⟩ = some (.int .i64 0) := (HR3.out.cell 1).trans rfl
      have r2 : w3.cell? ⟨w.heap.size + 1, 2, none⟩ = some (.int .i64 0) := (HR3.out.cell 2).trans rfl
      have r3 : w3.cell? ⟨w.heap.size + 1, 3, none⟩ = some (.int .i64 0) := (HR3.out.cell 3).trans rfl
      have z0 := HR3.out.free 0
      have z1 := HR3.out.free 1
      have z2 := HR3.out.free 2
      have z3 := HR3.out.free 3
      have hgx := HR3.out.lt
      have hgb := HB3.out.lt
      go_wp2_with fail
      obtain ⟨hX, hGX⟩ := setK HR3.out (.int .i64 0) (.int .i64 t) (.int .i64 c) (.int .i64 v)
      have hNX := (New.set HN3.out hGX (by omega)).alloc (.cells #[.int .i64 0, .int .i64 t, .int .i64 c] 48)
      have hXX := hX.alloc (.cells #[.int .i64 0, .int .i64 t, .int .i64 c] 48)
      generalize (((((w3.setCell ⟨w.heap.size + 1, 0, none⟩ (.int .i64 0)).setCell ⟨w.heap.size + 1, 1, none⟩ (.int .i64 t)).setCell ⟨w.heap.size + 1, 2, none⟩ (.int .i64 c)).setCell ⟨w.heap.size + 1, 3, none⟩ (.int .i64 v)).alloc (.cells #[.int .i64 0, .int .i64 t, .int .i64 c] 48)) = wX at hXX hNX ⊢
      have g0 := (hXX.cell 0).trans rfl
      have g1 := (hXX.cell 1).trans rfl
      have g2 := (hXX.cell 2).trans rfl
      have g3 := (hXX.cell 3).trans rfl
      refine bodyPost_ret (v := .tuple #[.agg #[.int .i64 0, .int .i64 t, .int .i64 c, .int .i64 v], .int .i64 0]) (by simp [results, Try.results12, go_sem, g0, g1, g2, g3]) rfl ?_
      exact ⟨rfl, hNX⟩
    · obtain ⟨hK, hE⟩ := par_2 hb hl
      rw [hK, hE]
      clear hK hE
      have HL := Lib.hid (rLevel_any k)
      rw [levI_yes hb, hl] at HL
      change Hid (∀ w, Calls Try.prog 17 _ w fun e w' => e = .returned (.int .i64 (2)) ∧ New w w') at HL
      have HF := Lib.hid (Row_any k)
      have HH : Hid True := trivial
      clear hb hl
      obtain ⟨o, t, c, v⟩ := k
      go_enter Try.func12, Try.ntmps12
      go_wp2_with fail
      with_reducible refine (HL.out _).mono ?_
      rintro e w1 ⟨rfl, hN⟩
      have HB := Lib.hid (((Has.new w 23 #[.int .i64 o, .int .i64 t, .int .i64 c, .int .i64 v]).alloc (.cells #[.int .i64 0, .int .i64 0, .int .i64 0, .int .i64 0] 23)).keep hN)
      have HR := Lib.hid ((Has.new_at (w.alloc (.cells #[.int .i64 o, .int .i64 t, .int .i64 c, .int .i64 v] 23)) 23 #[.int .i64 0, .int .i64 0, .int .i64 0, .int .i64 0] (w.heap.size + 1) (by simp)).keep hN)
      have HN := Lib.hid ((((Chg.refl (fun _ => False) w).alloc _).alloc _).then_new hN)
      clear hN
      have c0 : w1.cell? ⟨w.heap.size, 0, none⟩ = some (.int .i64 o) := (HB.out.cell 0).trans rfl
      have c1 : w1.cell? ⟨w.heap.size, 1, none⟩ = some (.int .i64 t) := (HB.out.cell 1).trans rfl
      have c2 : w1.cell? ⟨w.heap.size, 2, none⟩ = some (.int .i64 c) := (HB.out.cell 2).trans rfl
      have c3 : w1.cell? ⟨w.heap.size, 3, none⟩ = some (.int .i64 v) := (HB.out.cell 3).trans rfl
      go_wp2_with fail
      with_reducible refine (HF.out _).mono ?_
      rintro e w3 ⟨rfl, hN3⟩
      have HB3 := Lib.hid (HB.out.keep hN3)
      have HR3 := Lib.hid (HR.out.keep hN3)
      have HN3 := Lib.hid (HN.out.then_new hN3)
      clear hN3 c0 c1 c2 c3 HB HR HN
      have c0 : w3.cell? ⟨w.heap.size, 0, none⟩ = some (.int .i64 o) := (HB3.out.cell 0).trans rfl
      have c1 : w3.cell? ⟨w.heap.size, 1, none⟩ = some (.int .i64 t) := (HB3.out.cell 1).trans rfl
      have c2 : w3.cell? ⟨w.heap.size, 2, none⟩ = some (.int .i64 c) := (HB3.out.cell 2).trans rfl
      have c3 : w3.cell? ⟨w.heap.size, 3, none⟩ = some (.int .i64 v) := (HB3.out.cell 3).trans rfl
      have r0 : w3.cell? ⟨w.heap.size + 1, 0, none⟩ = some (.int .i64 0) := (HR3.out.cell 0).trans rfl
      have r1 : w3.cell? ⟨w.heap.size + 1, 1, none⟩ = some (.int .i64 0) := (HR3.out.cell 1).trans rfl
      have r2 : w3.cell? ⟨w.heap.size + 1, 2, none⟩ = some (.int .i64 0) := (HR3.out.cell 2).trans rfl
      have r3 : w3.cell? ⟨w.heap.size + 1, 3, none⟩ = some (.int .i64 0) := (HR3.out.cell 3).trans rfl
      have z0 := HR3.out.free 0
      have z1 := HR3.out.free 1
      have z2 := HR3.out.free 2
      have z3 := HR3.out.free 3
      have hgx := HR3.out.lt
      have hgb := HB3.out.lt
      go_wp2_with fail
      obtain ⟨hX, hGX⟩ := setK HR3.out (.int .i64 o) (.int .i64 0) (.int .i64 c) (.int .i64 v)
      have hNX := (New.set HN3.out hGX (by omega)).alloc (.cells #[.int .i64 o, .int .i64 0, .int .i64 c] 48)
      have hXX := hX.alloc (.cells #[.int .i64 o, .int .i64 0, .int .i64 c] 48)
      generalize (((((w3.setCell ⟨w.heap.size + 1, 0, none⟩ (.int .i64 o)).setCell ⟨w.heap.size + 1, 1, none⟩ (.int .i64 0)).setCell ⟨w.heap.size + 1, 2, none⟩ (.int .i64 c)).setCell ⟨w.heap.size + 1, 3, none⟩ (.int .i64 v)).alloc (.cells #[.int .i64 o, .int .i64 0, .int .i64 c] 48)) = wX at hXX hNX ⊢
      have g0 := (hXX.cell 0).trans rfl
      have g1 := (hXX.cell 1).trans rfl
      have g2 := (hXX.cell 2).trans rfl
      have g3 := (hXX.cell 3).trans rfl
      refine bodyPost_ret (v := .tuple #[.agg #[.int .i64 o, .int .i64 0, .int .i64 c, .int .i64 v], .int .i64 0]) (by simp [results, Try.results12, go_sem, g0, g1, g2, g3]) rfl ?_
      exact ⟨rfl, hNX⟩
    · obtain ⟨hK, hE⟩ := par_3 hb hl
      rw [hK, hE]
      clear hK hE
      have HL := Lib.hid (rLevel_any k)
      rw [levI_yes hb, hl] at HL
      change Hid (∀ w, Calls Try.prog 17 _ w fun e w' => e = .returned (.int .i64 (3)) ∧ New w w') at HL
      have HF := Lib.hid (Row_any k)
      have HH : Hid True := trivial
      clear hb hl
      obtain ⟨o, t, c, v⟩ := k
      go_enter Try.func12, Try.ntmps12
      go_wp2_with fail
      with_reducible refine (HL.out _).mono ?_
      rintro e w1 ⟨rfl, hN⟩
      have HB := Lib.hid (((Has.new w 23 #[.int .i64 o, .int .i64 t, .int .i64 c, .int .i64 v]).alloc (.cells #[.int .i64 0, .int .i64 0, .int .i64 0, .int .i64 0] 23)).keep hN)
      have HR := Lib.hid ((Has.new_at (w.alloc (.cells #[.int .i64 o, .int .i64 t, .int .i64 c, .int .i64 v] 23)) 23 #[.int .i64 0, .int .i64 0, .int .i64 0, .int .i64 0] (w.heap.size + 1) (by simp)).keep hN)
      have HN := Lib.hid ((((Chg.refl (fun _ => False) w).alloc _).alloc _).then_new hN)
      clear hN
      have c0 : w1.cell? ⟨w.heap.size, 0, none⟩ = some (.int .i64 o) := (HB.out.cell 0).trans rfl
      have c1 : w1.cell? ⟨w.heap.size, 1, none⟩ = some (.int .i64 t) := (HB.out.cell 1).trans rfl
      have c2 : w1.cell? ⟨w.heap.size, 2, none⟩ = some (.int .i64 c) := (HB.out.cell 2).trans rfl
      have c3 : w1.cell? ⟨w.heap.size, 3, none⟩ = some (.int .i64 v) := (HB.out.cell 3).trans rfl
      go_wp2_with fail
      with_reducible refine (HF.out _).mono ?_
      rintro e w3 ⟨rfl, hN3⟩
      have HB3 := Lib.hid (HB.out.keep hN3)
      have HR3 := Lib.hid (HR.out.keep hN3)
      have HN3 := Lib.hid (HN.out.then_new hN3)
      clear hN3 c0 c1 c2 c3 HB HR HN
      have c0 : w3.cell? ⟨w.heap.size, 0, none⟩ = some (.int .i64 o) := (HB3.out.cell 0).trans rfl
      have c1 : w3.cell? ⟨w.heap.size, 1, none⟩ = some (.int .i64 t) := (HB3.out.cell 1).trans rfl
      have c2 : w3.cell? ⟨w.heap.size, 2, none⟩ = some (.int .i64 c) := (HB3.out.cell 2).trans rfl
      have c3 : w3.cell? ⟨w.heap.size, 3, none⟩ = some (.int .i64 v) := (HB3.out.cell 3).trans rfl
      have r0 : w3.cell? ⟨w.heap.size + 1, 0, none⟩ = some (.int .i64 0) := (HR3.out.cell 0).trans rfl
      have r1 : w3.cell? ⟨w.heap.size + 1, 1, none⟩ = some (.int .i64 0) := (HR3.out.cell 1).trans rfl
      have r2 : w3.cell? ⟨w.heap.size + 1, 2, none⟩ = some (.int .i64 0) := (HR3.out.cell 2).trans rfl
      have r3 : w3.cell? ⟨w.heap.size + 1, 3, none⟩ = some (.int .i64 0) := (HR3.out.cell 3).trans rfl
      have z0 := HR3.out.free 0
      have z1 := HR3.out.free 1
      have z2 := HR3.out.free 2
      have z3 := HR3.out.free 3
      have hgx := HR3.out.lt
      have hgb := HB3.out.lt
      go_wp2_with fail
      obtain ⟨hX, hGX⟩ := setK HR3.out (.int .i64 o) (.int .i64 t) (.int .i64 0) (.int .i64 v)
      have hNX := (New.set HN3.out hGX (by omega)).alloc (.cells #[.int .i64 o, .int .i64 t, .int .i64 0] 48)
      have hXX := hX.alloc (.cells #[.int .i64 o, .int .i64 t, .int .i64 0] 48)
      generalize (((((w3.setCell ⟨w.heap.size + 1, 0, none⟩ (.int .i64 o)).setCell ⟨w.heap.size + 1, 1, none⟩ (.int .i64 t)).setCell ⟨w.heap.size + 1, 2, none⟩ (.int .i64 0)).setCell ⟨w.heap.size + 1, 3, none⟩ (.int .i64 v)).alloc (.cells #[.int .i64 o, .int .i64 t, .int .i64 0] 48)) = wX at hXX hNX ⊢
      have g0 := (hXX.cell 0).trans rfl
      have g1 := (hXX.cell 1).trans rfl
      have g2 := (hXX.cell 2).trans rfl
      have g3 := (hXX.cell 3).trans rfl
      refine bodyPost_ret (v := .tuple #[.agg #[.int .i64 o, .int .i64 t, .int .i64 0, .int .i64 v], .int .i64 0]) (by simp [results, Try.results12, go_sem, g0, g1, g2, g3]) rfl ?_
      exact ⟨rfl, hNX⟩
end Go.Proofs.Ytkegafkmcdkphaa
