/-
  What the document's own Read comes to.
-/
import Derived.Test.YtjkpijinpfimiaaRefD
namespace Go.Proofs.Ytjkpijinpfimiaa
open Go.RowKit
/-- what Read tells of an image -/
def RdR (P : List Nat) (w : World) (e : Ending) (w' : World) : Prop :=
  ∃ A c, e = .returned (.tuple #[.agg #[.int .i64 (rdV P).c, .int .i64 (rdV P).u, .int .i64 (rdV P).q, .int .i64 (rdV P).p, .slice A (rdV P).es.length c], .int .i64 (rdE P)]) ∧ w'.ownsRow w.heap.size 60 4 (.slice A (rdV P).es.length c) (rdV P).es.length (enRow (rdV P).es)
/-- Directory's answer, one form for both ways -/
theorem DirR.both {bs : List Nat} {w w' : World} {e : Ending} (h : DirR bs w e w') : ∃ (s : Int) (A : Option Addr) (n c : Nat), e = .returned (.tuple #[.agg #[.int .i64 0, .int .i64 0, .int .i64 s, .int .i64 0, .slice A n c], .bool (dirB bs)]) ∧ (dirB bs = true → s = (seqN bs : Nat) ∧ n = bs.getD 2 0 ∧ w'.ownsRow w.heap.size 60 4 (.slice A n c) n (enRow (ens bs n))) := by
  rcases h with ⟨hd, A, c, rfl, hO⟩ | ⟨hd, s, A, n, c, rfl⟩
  · exact ⟨_, A, _, c, by rw [hd], fun _ => ⟨rfl, rfl, hO⟩⟩
  · exact ⟨s, A, n, c, by rw [hd], fun h => by rw [hd] at h; cases h⟩
theorem RdR.yes {P : List Nat} {w w' : World} {id x4 k : Nat} {s : Int} {A : Option Addr} {n c : Nat} (h0 : rdE P = 0) (hid : id = idN (sec P 0)) (hx : x4 = (sec P 0).getD 4 0) (hk : cpN P = k) (hs : s = (seqN (sec P k) : Nat)) (hn : n = (sec P k).getD 2 0) (hO : w'.ownsRow w.heap.size 60 4 (.slice A n c) n (enRow (ens (sec P k) n))) :
    RdR P w (.returned (.tuple #[.agg #[.int .i64 (id : Int), .int .i64 (x4 : Int), .int .i64 s, .int .i64 (k : Int), .slice A n c], .int .i64 0])) w' := by
  have hv : rdV P = ⟨(id : Nat), (x4 : Nat), s, (k : Nat), ens (sec P k) n⟩ := by
    unfold rdV
    rw [if_pos h0, hk, hid, hx, hs, hn]
  unfold RdR
  rw [hv, h0]
  simp only [ens_len]
  exact ⟨A, c, rfl, hO⟩
theorem RdR.no {P : List Nat} {w w' : World} {x : Int} (hx : rdE P = x) (h0 : x ≠ 0) : RdR P w (.returned (.tuple #[.agg #[.int .i64 0, .int .i64 0, .int .i64 0, .int .i64 0, .slice none 0 0], .int .i64 x])) w' := by
  have hv : rdV P = noV := by unfold rdV; rw [hx, if_neg h0]
  unfold RdR
  rw [hv, hx]
  exact ⟨none, 0, rfl, World.ownsRow_nil _ _ _ _⟩
theorem rdE_sum {P : List Nat} (h : sumOk (sec P 0) = false) : rdE P = 13 := by unfold rdE; rw [h]; rfl
theorem rdE_form {P : List Nat} (h : sumOk (sec P 0) = true) (h2 : formB (sec P 0) = false) : rdE P = 12 := by unfold rdE; rw [h, h2]; rfl
theorem rdE_none {P : List Nat} (h : sumOk (sec P 0) = true) (h2 : formB (sec P 0) = true) (h3 : dirB (sec P 1) = false) (h4 : dirB (sec P 2) = false) : rdE P = 21 := by unfold rdE; rw [h, h2, h3, h4]; rfl
theorem rdE_ok {P : List Nat} (h : sumOk (sec P 0) = true) (h2 : formB (sec P 0) = true) (h3 : dirB (sec P 1) = true ∨ dirB (sec P 2) = true) : rdE P = 0 := by
  unfold rdE
  rw [h, h2]
  rcases h3 with h3 | h3 <;> rw [h3] <;> simp
theorem form_ways {x0 x1 id x4 : Nat} {z bad : Bool} (h : bad = !(x0 == 70 && x1 == 66 && decide (1 ≤ id) && decide (1 ≤ x4) && decide (x4 ≤ 4) && z)) :
    (bad = true ∧ ((x0 : Int) != 70) = true) ∨ (bad = true ∧ ((x0 : Int) != 70) = false ∧ ((x1 : Int) != 66) = true) ∨ (bad = true ∧ ((x0 : Int) != 70) = false ∧ ((x1 : Int) != 66) = false ∧ decide ((id : Int) < 1) = true) ∨ (bad = true ∧ ((x0 : Int) != 70) = false ∧ ((x1 : Int) != 66) = false ∧ decide ((id : Int) < 1) = false ∧ decide ((x4 : Int) < 1) = true) ∨ (bad = true ∧ ((x0 : Int) != 70) = false ∧ ((x1 : Int) != 66) = false ∧ decide ((id : Int) < 1) = false ∧ decide ((x4 : Int) < 1) = false ∧ decide (4 < (x4 : Int)) = true) ∨ (bad = !z ∧ ((x0 : Int) != 70) = false ∧ ((x1 : Int) != 66) = false ∧ decide ((id : Int) < 1) = false ∧ decide ((x4 : Int) < 1) = false ∧ decide (4 < (x4 : Int)) = false) := by
  subst h
  by_cases a0 : x0 = 70
  · by_cases a1 : x1 = 66
    · by_cases a2 : 1 ≤ id
      · by_cases a3 : 1 ≤ x4
        · by_cases a4 : x4 ≤ 4
          · right; right; right; right; right
            refine ⟨by simp [a0, a1, a2, a3, a4], by simp [a0], by simp [a1], by simp; omega, by simp; omega, by simp; omega⟩
          · right; right; right; right; left
            refine ⟨by simp [a4], by simp [a0], by simp [a1], by simp; omega, by simp; omega, by simp; omega⟩
        · right; right; right; left
          refine ⟨by simp [a3], by simp [a0], by simp [a1], by simp; omega, by simp; omega⟩
      · right; right; left
        refine ⟨by simp [a2], by simp [a0], by simp [a1], by simp; omega⟩
    · right; left
      exact ⟨by simp [a1], by simp [a0], by simp; omega⟩
  · left
    exact ⟨by simp [a0], by simp; omega⟩
theorem form_eq (b : List Nat) : formB b = (b.getD 0 0 == 70 && b.getD 1 0 == 66 && decide (1 ≤ idN b) && decide (1 ≤ b.getD 4 0) && decide (b.getD 4 0 ≤ 4) && nil0 b 5) := rfl
set_option maxRecDepth 100000 in
set_option maxHeartbeats 8000000 in
theorem rRead_any (g : Nat) (P : List Nat) (w : World) (hR : Row w g P) (hl : P.length = 512) (hb : ∀ x ∈ P, x < 256) :
    Calls Try.prog 11 #[.slice (some ⟨g, 0, none⟩) 512 512] w fun e w' => RdR P w e w' ∧ New w w' := by
  have HP := Lib.hid hR; clear hR
  have Hl := Lib.hid hl; clear hl
  have Hb := Lib.hid hb; clear hb
  have Hgl : Hid (g < w.heap.size) := HP.out.lt
  have HS : Hid (∀ wx k, New w wx → k < 16 → Arr wx (· = g) (some ⟨g, 32 * k, none⟩) 32 (fun i => bV ((sec P k).getD i 0))) := fun wx k hx hk => (HP.out.new hx).part Hl.out hk
  obtain ⟨rb, hrb⟩ : ∃ rb, rb = w.heap.size := ⟨_, rfl⟩
  obtain ⟨nb, hnb⟩ : ∃ nb, nb = w.heap.size + 1 := ⟨_, rfl⟩
  have hs0 : ∀ wy, (Instr.slice 22 (.slice (some ⟨g, 0, none⟩) 512 512) none (some (.int .i64 32)) none).run Try.prog wy = .ok (.slice (some ⟨g, 0, none⟩) 32 512) wy := fun wy => slice_to ⟨g, 0, none⟩ 512 512 32 (by omega) wy
  have hs1 : ∀ wy, (Instr.slice 22 (.slice (some ⟨g, 0, none⟩) 512 512) (some (.int .i64 32)) (some (.int .i64 64)) none).run Try.prog wy = .ok (.slice (some ⟨g, 32, none⟩) 32 480) wy := fun wy => slice_cut ⟨g, 0, none⟩ 512 512 32 64 (by omega) (by omega) (by omega) wy
  have hs2 : ∀ wy, (Instr.slice 22 (.slice (some ⟨g, 0, none⟩) 512 512) (some (.int .i64 64)) (some (.int .i64 96)) none).run Try.prog wy = .ok (.slice (some ⟨g, 64, none⟩) 32 448) wy := fun wy => slice_cut ⟨g, 0, none⟩ 512 512 64 96 (by omega) (by omega) (by omega) wy
  have hs3 : ∀ wy, (Instr.slice 22 (.slice (some ⟨g, 0, none⟩) 512 512) (some (.int .i64 5)) (some (.int .i64 30)) none).run Try.prog wy = .ok (.slice (some ⟨g, 5, none⟩) 25 507) wy := fun wy => slice_cut ⟨g, 0, none⟩ 512 512 5 30 (by omega) (by omega) (by omega) wy
  go_enter Try.func11, Try.ntmps11
  go_wp2_with fail
  obtain ⟨w1, hw1⟩ : ∃ w1, w1 = (w.alloc (.cells #[.int .i64 0, .int .i64 0, .int .i64 0, .int .i64 0, .slice none 0 0] 34)).alloc (.cells #[.int .i64 0, .int .i64 0, .int .i64 0, .int .i64 0, .slice none 0 0] 34) := ⟨_, rfl⟩
  have HR1 : Hid (Has w1 rb 34 #[.int .i64 0, .int .i64 0, .int .i64 0, .int .i64 0, .slice none 0 0]) := by rw [hw1, hrb]; exact (Has.new w 34 _).alloc _
  have HV1 : Hid (Has w1 nb 34 #[.int .i64 0, .int .i64 0, .int .i64 0, .int .i64 0, .slice none 0 0]) := by rw [hw1, hnb]; exact Has.new_at _ 34 _ _ (by simp)
  have HN1 : Hid (New w w1) := by rw [hw1]; exact ((Chg.refl _ _).alloc _).alloc _
  have Hrv : Hid (rb ≠ nb ∧ w.heap.size ≤ rb ∧ w.heap.size ≤ nb) := by show _ ∧ _ ∧ _; omega
  rw [← hw1, ← hnb, ← hrb]
  clear hw1 hrb hnb hs0
  obtain ⟨S, hS⟩ : ∃ S, S = sec P 0 := ⟨_, rfl⟩
  have HSl : Hid (S.length = 32) := by rw [hS]; exact sec_len Hl.out (by omega)
  have HSs : Hid (∀ x ∈ S, x < 256) := by rw [hS]; exact sec_small Hb.out
  have HA : Hid (∀ wx, New w wx → Arr wx (· = g) (some ⟨g, 0, none⟩) 32 (fun i => bV (S.getD i 0))) := by rw [hS]; exact fun wx hx => HS.out wx 0 hx (by omega)
  have HSd := Lib.hid hS; clear hS
  with_reducible refine (rSealed_any ⟨g, 0, none⟩ 512 _ S w1 (HA.out w1 HN1.out) (fun k hk => by rw [hk]; exact Nat.lt_of_lt_of_le Hgl.out HN1.out.size) HSl.out HSs.out (by omega)).mono ?_
  rintro e w2 ⟨rfl, hN2⟩
  have HR2 := Lib.hid (HR1.out.keep hN2)
  have HV2 := Lib.hid (HV1.out.keep hN2)
  have HN2 := Lib.hid (HN1.out.then_new hN2)
  clear hN2 HR1 HV1 HN1
  have r0 : w2.cell? ⟨rb, 0, none⟩ = some (.int .i64 0) := (HR2.out.cell 0).trans rfl
  have r1 : w2.cell? ⟨rb, 1, none⟩ = some (.int .i64 0) := (HR2.out.cell 1).trans rfl
  have r2 : w2.cell? ⟨rb, 2, none⟩ = some (.int .i64 0) := (HR2.out.cell 2).trans rfl
  have r3 : w2.cell? ⟨rb, 3, none⟩ = some (.int .i64 0) := (HR2.out.cell 3).trans rfl
  have r4 : w2.cell? ⟨rb, 4, none⟩ = some (.slice none 0 0) := (HR2.out.cell 4).trans rfl
  have v0 : w2.cell? ⟨nb, 0, none⟩ = some (.int .i64 0) := (HV2.out.cell 0).trans rfl
  have v1 : w2.cell? ⟨nb, 1, none⟩ = some (.int .i64 0) := (HV2.out.cell 1).trans rfl
  have v2 : w2.cell? ⟨nb, 2, none⟩ = some (.int .i64 0) := (HV2.out.cell 2).trans rfl
  have v3 : w2.cell? ⟨nb, 3, none⟩ = some (.int .i64 0) := (HV2.out.cell 3).trans rfl
  have v4 : w2.cell? ⟨nb, 4, none⟩ = some (.slice none 0 0) := (HV2.out.cell 4).trans rfl
  have z0 := HR2.out.free 0
  have z1 := HR2.out.free 1
  have z2 := HR2.out.free 2
  have z3 := HR2.out.free 3
  have z4 := HR2.out.free 4
  cases hsum : sumOk S with
  | false =>
    have Hd : Hid (rdE P = 13) := rdE_sum (by rw [← HSd.out]; exact hsum)
    go_wp2_with fail
    obtain ⟨hX, hGX⟩ := set5 HR2.out (.int .i64 0) (.int .i64 0) (.int .i64 0) (.int .i64 0) (.slice none 0 0)
    generalize (((((w2.setCell ⟨rb, 0, none⟩ (.int .i64 0)).setCell ⟨rb, 1, none⟩ (.int .i64 0)).setCell ⟨rb, 2, none⟩ (.int .i64 0)).setCell ⟨rb, 3, none⟩ (.int .i64 0)).setCell ⟨rb, 4, none⟩ (.slice none 0 0)) = wX at hX hGX ⊢
    have g0 := (hX.cell 0).trans rfl
    have g1 := (hX.cell 1).trans rfl
    have g2 := (hX.cell 2).trans rfl
    have g3 := (hX.cell 3).trans rfl
    have g4 := (hX.cell 4).trans rfl
    refine bodyPost_ret (v := .tuple #[.agg #[.int .i64 0, .int .i64 0, .int .i64 0, .int .i64 0, .slice none 0 0], .int .i64 13]) (by simp [results, Try.results11, go_sem, g0, g1, g2, g3, g4]) rfl ?_
    exact ⟨RdR.no Hd.out (by decide), HN2.out.trans hGX (fun i hi h => by have := Hrv.out; omega)⟩
  | true =>
  clear r0 r1 r2 r3 r4 v0 v1 v2 v3 v4 z0 z1 z2 z3 z4
  obtain ⟨x0, hx0⟩ : ∃ x, x = S.getD 0 0 := ⟨_, rfl⟩
  obtain ⟨x1, hx1⟩ : ∃ x, x = S.getD 1 0 := ⟨_, rfl⟩
  obtain ⟨x2, hx2⟩ : ∃ x, x = S.getD 2 0 := ⟨_, rfl⟩
  obtain ⟨x3, hx3⟩ : ∃ x, x = S.getD 3 0 := ⟨_, rfl⟩
  obtain ⟨x4, hx4⟩ : ∃ x, x = S.getD 4 0 := ⟨_, rfl⟩
  have l0 : x0 < 256 := by rw [hx0]; exact getD_lt S HSs.out 0
  have l1 : x1 < 256 := by rw [hx1]; exact getD_lt S HSs.out 1
  have l2 : x2 < 256 := by rw [hx2]; exact getD_lt S HSs.out 2
  have l3 : x3 < 256 := by rw [hx3]; exact getD_lt S HSs.out 3
  have l4 : x4 < 256 := by rw [hx4]; exact getD_lt S HSs.out 4
  have HC : Hid (∀ wx, New w wx → wx.cell? ⟨g, 0, none⟩ = some (.int .u8 (x0 : Int)) ∧ wx.cell? ⟨g, 1, none⟩ = some (.int .u8 (x1 : Int)) ∧ wx.cell? ⟨g, 2, none⟩ = some (.int .u8 (x2 : Int)) ∧ wx.cell? ⟨g, 3, none⟩ = some (.int .u8 (x3 : Int)) ∧ wx.cell? ⟨g, 4, none⟩ = some (.int .u8 (x4 : Int))) := by
    intro wx hx
    have h := HA.out wx hx
    have c1 := cell_at h 1 (by omega) (by omega)
    have c2 := cell_at h 2 (by omega) (by omega)
    have c3 := cell_at h 3 (by omega) (by omega)
    have c4 := cell_at h 4 (by omega) (by omega)
    simp only [Nat.zero_add] at c1 c2 c3 c4
    rw [hx0, hx1, hx2, hx3, hx4]
    exact ⟨cell_nought h (by omega), c1, c2, c3, c4⟩
  obtain ⟨id, hid⟩ : ∃ id, id = x2 * 256 + x3 := ⟨_, rfl⟩
  have Hid' : Hid (id = idN S) := by show _ = _; rw [hid, hx2, hx3]; rfl
  have fid : (x2 : Int) * 256 + (x3 : Int) = (id : Int) := by omega
  have lid : id ≤ 65535 := by omega
  obtain ⟨z, hz⟩ : ∃ z, z = nil0 S 5 := ⟨_, rfl⟩
  obtain ⟨bad, hbad⟩ : ∃ bad : Bool, bad = !(x0 == 70 && x1 == 66 && decide (1 ≤ id) && decide (1 ≤ x4) && decide (x4 ≤ 4) && z) := ⟨_, rfl⟩
  have Hform : Hid (formB S = !bad) := by show _ = _; rw [hbad, form_eq, Bool.not_not, hz, Hid'.out, hx0, hx1, hx4]
  have HZ : Hid (∀ wx, New w wx → Calls Try.prog 37 #[.slice (some ⟨g, 5, none⟩) 25 507] wx fun e w' => e = .returned (.bool z) ∧ w' = wx) := by
    intro wx hx
    have hcut := Arr.cut (l := 5) (m := 25) (HA.out wx hx) (by omega)
    have ha : (⟨g, 0, none⟩ : Addr).add 5 = ⟨g, 5, none⟩ := rfl
    rw [ha] at hcut
    have hz' : z = ((S.drop 5).take 25).all (· == 0) := by
      rw [hz]
      unfold nil0
      rw [List.drop_take]
    rw [hz']
    exact rZeros_any _ _ _ _ _ wx hcut (by rw [List.length_take, List.length_drop, HSl.out]; rfl) (by omega)
  have Hx4 : Hid (x4 = S.getD 4 0) := hx4
  obtain ⟨c0, c1, c2, c3, c4⟩ := HC.out w2 HN2.out
  have Hways := Lib.hid (form_ways hbad)
  clear hx0 hx1 hx2 hx3 hx4 hid hz hbad
  go_upto_region 4 with (fail)
  go_quiet (fail)
  obtain ⟨w3, hw3⟩ : ∃ w3, w3 = w2.drewN nq := ⟨_, rfl⟩
  have hN3 : New w2 w3 := by rw [hw3]; exact (Chg.refl _ _).drewN _
  rw [← hw3]
  clear hw3 c0 c1 c2 c3 c4
  have HR3 := Lib.hid (HR2.out.keep hN3)
  have HV3 := Lib.hid (HV2.out.keep hN3)
  have HN3 := Lib.hid (HN2.out.then_new hN3)
  clear hN3 HR2 HV2 HN2
  obtain ⟨c0, c1, c2, c3, c4⟩ := HC.out w3 HN3.out
  go_upto_region 5 with (fail)
  go_cut [57] (fun s57 wx => s57 = .bool bad ∧ w3 = wx)
  case first =>
    rcases Hways.out with ⟨hb, b0⟩ | ⟨hb, b0, b1⟩ | ⟨hb, b0, b1, b2⟩ | ⟨hb, b0, b1, b2, b3⟩ | ⟨hb, b0, b1, b2, b3, b4⟩ | ⟨hb, b0, b1, b2, b3, b4⟩
    all_goals
      go_wp2_with (go_at_call 37; (with_reducible refine (HZ.out w3 HN3.out).mono ?_); rintro e w' ⟨rfl, rfl⟩)
      go_meet
      case rel => exact ⟨by rw [hb], rfl⟩
  case rest =>
  obtain ⟨rfl, hwc⟩ := hcut
  subst hwc
  cases bad with
  | true =>
    have r0 : w3.cell? ⟨rb, 0, none⟩ = some (.int .i64 0) := (HR3.out.cell 0).trans rfl
    have r1 : w3.cell? ⟨rb, 1, none⟩ = some (.int .i64 0) := (HR3.out.cell 1).trans rfl
    have r2 : w3.cell? ⟨rb, 2, none⟩ = some (.int .i64 0) := (HR3.out.cell 2).trans rfl
    have r3 : w3.cell? ⟨rb, 3, none⟩ = some (.int .i64 0) := (HR3.out.cell 3).trans rfl
    have r4 : w3.cell? ⟨rb, 4, none⟩ = some (.slice none 0 0) := (HR3.out.cell 4).trans rfl
    have v0 : w3.cell? ⟨nb, 0, none⟩ = some (.int .i64 0) := (HV3.out.cell 0).trans rfl
    have v1 : w3.cell? ⟨nb, 1, none⟩ = some (.int .i64 0) := (HV3.out.cell 1).trans rfl
    have v2 : w3.cell? ⟨nb, 2, none⟩ = some (.int .i64 0) := (HV3.out.cell 2).trans rfl
    have v3 : w3.cell? ⟨nb, 3, none⟩ = some (.int .i64 0) := (HV3.out.cell 3).trans rfl
    have v4 : w3.cell? ⟨nb, 4, none⟩ = some (.slice none 0 0) := (HV3.out.cell 4).trans rfl
    have z0 := HR3.out.free 0
    have z1 := HR3.out.free 1
    have z2 := HR3.out.free 2
    have z3 := HR3.out.free 3
    have z4 := HR3.out.free 4
    have Hd : Hid (rdE P = 12) := rdE_form (by rw [← HSd.out]; exact hsum) (by rw [← HSd.out]; exact Hform.out)
    go_wp2_with fail
    obtain ⟨hX, hGX⟩ := set5 HR3.out (.int .i64 0) (.int .i64 0) (.int .i64 0) (.int .i64 0) (.slice none 0 0)
    generalize (((((w3.setCell ⟨rb, 0, none⟩ (.int .i64 0)).setCell ⟨rb, 1, none⟩ (.int .i64 0)).setCell ⟨rb, 2, none⟩ (.int .i64 0)).setCell ⟨rb, 3, none⟩ (.int .i64 0)).setCell ⟨rb, 4, none⟩ (.slice none 0 0)) = wX at hX hGX ⊢
    have g0 := (hX.cell 0).trans rfl
    have g1 := (hX.cell 1).trans rfl
    have g2 := (hX.cell 2).trans rfl
    have g3 := (hX.cell 3).trans rfl
    have g4 := (hX.cell 4).trans rfl
    refine bodyPost_ret (v := .tuple #[.agg #[.int .i64 0, .int .i64 0, .int .i64 0, .int .i64 0, .slice none 0 0], .int .i64 12]) (by simp [results, Try.results11, go_sem, g0, g1, g2, g3, g4]) rfl ?_
    exact ⟨RdR.no Hd.out (by decide), HN3.out.trans hGX (fun i hi h => by have := Hrv.out; omega)⟩
  | false =>
  clear c0 c1 c2 c3 c4 fid Hways
  have Hsum : Hid (sumOk (sec P 0) = true) := by rw [← HSd.out]; exact hsum
  have Hfm : Hid (formB (sec P 0) = true) := by rw [← HSd.out]; exact Hform.out
  clear hsum Hform
  obtain ⟨d1, hd1⟩ : ∃ d, d = dirB (sec P 1) := ⟨_, rfl⟩
  obtain ⟨d2, hd2⟩ : ∃ d, d = dirB (sec P 2) := ⟨_, rfl⟩
  have Hd1 := Lib.hid hd1; clear hd1
  have Hd2 := Lib.hid hd2; clear hd2
  go_wp2_with fail
  with_reducible refine (rDir_any ⟨g, 32, none⟩ 480 (· = g) (sec P 1) w3 (HS.out w3 1 HN3.out (by omega)) (fun k hk => by rw [hk]; exact Nat.lt_of_lt_of_le Hgl.out HN3.out.size) (sec_len Hl.out (by omega)) (sec_small Hb.out) (by omega)).mono ?_
  rintro e w4 ⟨hD4, hN4⟩
  obtain ⟨s1, A1, n1, c1, rfl, hO1⟩ := hD4.both
  rw [← Hd1.out] at hO1 ⊢
  have HO1 := Lib.hid hO1
  have HN4 := Lib.hid (HN3.out.then_new hN4)
  have HR4 := Lib.hid (HR3.out.keep hN4)
  have HV4 := Lib.hid (HV3.out.keep hN4)
  clear hD4 hO1 hN4
  go_upto_region 8 with (fail)
  obtain ⟨xb, hxb⟩ : ∃ xb, xb = w4.heap.size := ⟨_, rfl⟩
  obtain ⟨w5, hw5⟩ : ∃ w5, w5 = w4.alloc (.cells #[.int .i64 0, .int .i64 0, .int .i64 s1, .int .i64 0, .slice A1 n1 c1] 34) := ⟨_, rfl⟩
  have hX5 : Has w5 xb 34 #[.int .i64 0, .int .i64 0, .int .i64 s1, .int .i64 0, .slice A1 n1 c1] := by rw [hw5, hxb]; exact Has.new w4 34 _
  have hM5 : New w4 w5 := by rw [hw5]; exact (Chg.refl _ _).alloc _
  rw [← hw5, ← hxb]
  have Hxb : Hid (xb = w4.heap.size) := hxb
  have HX5 := Lib.hid hX5
  have HM5 := Lib.hid hM5
  have HN5 := Lib.hid (HN4.out.then_new hM5)
  clear hw5 hxb hX5 hM5
  go_wp2_with fail
  with_reducible refine (rDir_any ⟨g, 64, none⟩ 448 (· = g) (sec P 2) w5 (HS.out w5 2 HN5.out (by omega)) (fun k hk => by rw [hk]; exact Nat.lt_of_lt_of_le Hgl.out HN5.out.size) (sec_len Hl.out (by omega)) (sec_small Hb.out) (by omega)).mono ?_
  rintro e w6 ⟨hD6, hN6⟩
  obtain ⟨s2, A2, n2, c2, rfl, hO2⟩ := hD6.both
  rw [← Hd2.out] at hO2 ⊢
  have HO2 := Lib.hid hO2
  have HN6 := Lib.hid (HN5.out.then_new hN6)
  have HM6 := Lib.hid (HM5.out.then_new hN6)
  have HX6 := Lib.hid (HX5.out.keep hN6)
  have HR6 := Lib.hid (HR4.out.keep HM6.out)
  have HV6 := Lib.hid (HV4.out.keep HM6.out)
  clear hD6 hO2 hN6
  go_upto_region 9 with (fail)
  obtain ⟨yb, hyb⟩ : ∃ yb, yb = w6.heap.size := ⟨_, rfl⟩
  obtain ⟨w7, hw7⟩ : ∃ w7, w7 = w6.alloc (.cells #[.int .i64 0, .int .i64 0, .int .i64 s2, .int .i64 0, .slice A2 n2 c2] 34) := ⟨_, rfl⟩
  have hY7 : Has w7 yb 34 #[.int .i64 0, .int .i64 0, .int .i64 s2, .int .i64 0, .slice A2 n2 c2] := by rw [hw7, hyb]; exact Has.new w6 34 _
  have hM7 : New w6 w7 := by rw [hw7]; exact (Chg.refl _ _).alloc _
  rw [← hw7, ← hyb]
  have HR7 := Lib.hid (HR6.out.keep hM7)
  have HV7 := Lib.hid (HV6.out.keep hM7)
  have HN7 := Lib.hid (HN6.out.then_new hM7)
  have HX7 := Lib.hid (HX6.out.keep hM7)
  have HY7 := Lib.hid hY7
  have HMx := Lib.hid (HM6.out.then_new hM7)
  have HMy := Lib.hid hM7
  clear hw7 hyb hY7 hM7
  obtain ⟨c0', c1', c2', c3', c4⟩ := HC.out w7 HN7.out
  clear c0' c1' c2' c3'
  have r0 : w7.cell? ⟨rb, 0, none⟩ = some (.int .i64 0) := (HR7.out.cell 0).trans rfl
  have r1 : w7.cell? ⟨rb, 1, none⟩ = some (.int .i64 0) := (HR7.out.cell 1).trans rfl
  have r2 : w7.cell? ⟨rb, 2, none⟩ = some (.int .i64 0) := (HR7.out.cell 2).trans rfl
  have r3 : w7.cell? ⟨rb, 3, none⟩ = some (.int .i64 0) := (HR7.out.cell 3).trans rfl
  have r4 : w7.cell? ⟨rb, 4, none⟩ = some (.slice none 0 0) := (HR7.out.cell 4).trans rfl
  have v0 : w7.cell? ⟨nb, 0, none⟩ = some (.int .i64 0) := (HV7.out.cell 0).trans rfl
  have v1 : w7.cell? ⟨nb, 1, none⟩ = some (.int .i64 0) := (HV7.out.cell 1).trans rfl
  have v2 : w7.cell? ⟨nb, 2, none⟩ = some (.int .i64 0) := (HV7.out.cell 2).trans rfl
  have v3 : w7.cell? ⟨nb, 3, none⟩ = some (.int .i64 0) := (HV7.out.cell 3).trans rfl
  have v4 : w7.cell? ⟨nb, 4, none⟩ = some (.slice none 0 0) := (HV7.out.cell 4).trans rfl
  have z0 := HR7.out.free 0
  have z1 := HR7.out.free 1
  have z2 := HR7.out.free 2
  have z3 := HR7.out.free 3
  have z4 := HR7.out.free 4
  have k0 : w7.cell? ⟨xb, 0, none⟩ = some (.int .i64 0) := (HX7.out.cell 0).trans rfl
  have k1 : w7.cell? ⟨xb, 1, none⟩ = some (.int .i64 0) := (HX7.out.cell 1).trans rfl
  have k2 : w7.cell? ⟨xb, 2, none⟩ = some (.int .i64 s1) := (HX7.out.cell 2).trans rfl
  have k3 : w7.cell? ⟨xb, 3, none⟩ = some (.int .i64 0) := (HX7.out.cell 3).trans rfl
  have k4 : w7.cell? ⟨xb, 4, none⟩ = some (.slice A1 n1 c1) := (HX7.out.cell 4).trans rfl
  have j0 : w7.cell? ⟨yb, 0, none⟩ = some (.int .i64 0) := (HY7.out.cell 0).trans rfl
  have j1 : w7.cell? ⟨yb, 1, none⟩ = some (.int .i64 0) := (HY7.out.cell 1).trans rfl
  have j2 : w7.cell? ⟨yb, 2, none⟩ = some (.int .i64 s2) := (HY7.out.cell 2).trans rfl
  have j3 : w7.cell? ⟨yb, 3, none⟩ = some (.int .i64 0) := (HY7.out.cell 3).trans rfl
  have j4 : w7.cell? ⟨yb, 4, none⟩ = some (.slice A2 n2 c2) := (HY7.out.cell 4).trans rfl
  have q1 := HX7.out.lt
  have q2 := HY7.out.lt
  have q3 := HR7.out.lt
  have q4 : g < w7.heap.size := Nat.lt_of_lt_of_le Hgl.out HN7.out.size
  cases d1 with
  | false =>
    cases d2 with
    | false =>
      have Hd : Hid (rdE P = 21) := rdE_none Hsum.out Hfm.out Hd1.out.symm Hd2.out.symm
      go_wp2_with fail
      obtain ⟨hX, hGX⟩ := set5 HR7.out (.int .i64 0) (.int .i64 0) (.int .i64 0) (.int .i64 0) (.slice none 0 0)
      generalize (((((w7.setCell ⟨rb, 0, none⟩ (.int .i64 0)).setCell ⟨rb, 1, none⟩ (.int .i64 0)).setCell ⟨rb, 2, none⟩ (.int .i64 0)).setCell ⟨rb, 3, none⟩ (.int .i64 0)).setCell ⟨rb, 4, none⟩ (.slice none 0 0)) = wX at hX hGX ⊢
      have g0 := (hX.cell 0).trans rfl
      have g1 := (hX.cell 1).trans rfl
      have g2 := (hX.cell 2).trans rfl
      have g3 := (hX.cell 3).trans rfl
      have g4 := (hX.cell 4).trans rfl
      refine bodyPost_ret (v := .tuple #[.agg #[.int .i64 0, .int .i64 0, .int .i64 0, .int .i64 0, .slice none 0 0], .int .i64 21]) (by simp [results, Try.results11, go_sem, g0, g1, g2, g3, g4]) rfl ?_
      exact ⟨RdR.no Hd.out (by decide), HN7.out.trans hGX (fun i hi h => by have := Hrv.out; omega)⟩
    | true =>
      go_wp2_with fail
      obtain ⟨hX, hGX⟩ := set5 HR7.out (.int .i64 (id : Int)) (.int .i64 (x4 : Int)) (.int .i64 s2) (.int .i64 2) (.slice A2 n2 c2)
      generalize (((((w7.setCell ⟨rb, 0, none⟩ (.int .i64 (id : Int))).setCell ⟨rb, 1, none⟩ (.int .i64 (x4 : Int))).setCell ⟨rb, 2, none⟩ (.int .i64 s2)).setCell ⟨rb, 3, none⟩ (.int .i64 2)).setCell ⟨rb, 4, none⟩ (.slice A2 n2 c2)) = wX at hX hGX ⊢
      have hY := hX.alloc (.cells #[.int .i64 (id : Int), .int .i64 (x4 : Int), .int .i64 s2, .int .i64 2, .slice A2 n2 c2] 34)
      have hNY : New w (wX.alloc (.cells #[.int .i64 (id : Int), .int .i64 (x4 : Int), .int .i64 s2, .int .i64 2, .slice A2 n2 c2] 34)) := (HN7.out.trans hGX (fun i hi h => by have := Hrv.out; omega)).alloc _
      obtain ⟨es, en, eo⟩ := HO2.out (by trivial)
      have eo7 := own_chg (own_new eo HMy.out) hGX (fun x hx h => own_apart (own_new eo HMy.out) HR7.out (by decide) (by rw [hx, h]))
      have eoY := own_base (base' := w.heap.size) (own_new eo7 ((Chg.refl _ _).alloc (.cells #[.int .i64 (id : Int), .int .i64 (x4 : Int), .int .i64 s2, .int .i64 2, .slice A2 n2 c2] 34))) (fun x hx => by have := (eo.lt x hx).1; have := HN3.out.size; have := HN5.out.size; omega)
      generalize wX.alloc (.cells #[.int .i64 (id : Int), .int .i64 (x4 : Int), .int .i64 s2, .int .i64 2, .slice A2 n2 c2] 34) = wY at hY hNY eoY ⊢
      have g0 := (hY.cell 0).trans rfl
      have g1 := (hY.cell 1).trans rfl
      have g2 := (hY.cell 2).trans rfl
      have g3 := (hY.cell 3).trans rfl
      have g4 := (hY.cell 4).trans rfl
      refine bodyPost_ret (v := .tuple #[.agg #[.int .i64 (id : Int), .int .i64 (x4 : Int), .int .i64 s2, .int .i64 2, .slice A2 n2 c2], .int .i64 0]) (by simp [results, Try.results11, go_sem, g0, g1, g2, g3, g4]) rfl ?_
      exact ⟨RdR.yes (k := 2) (rdE_ok Hsum.out Hfm.out (Or.inr Hd2.out.symm)) (by rw [Hid'.out, HSd.out]) (by rw [Hx4.out, HSd.out]) (by unfold cpN pick2; rw [← Hd1.out, ← Hd2.out]; simp) es en eoY, hNY⟩
  | true =>
    cases d2 with
    | false =>
      go_wp2_with fail
      obtain ⟨hX, hGX⟩ := set5 HR7.out (.int .i64 (id : Int)) (.int .i64 (x4 : Int)) (.int .i64 s1) (.int .i64 1) (.slice A1 n1 c1)
      generalize (((((w7.setCell ⟨rb, 0, none⟩ (.int .i64 (id : Int))).setCell ⟨rb, 1, none⟩ (.int .i64 (x4 : Int))).setCell ⟨rb, 2, none⟩ (.int .i64 s1)).setCell ⟨rb, 3, none⟩ (.int .i64 1)).setCell ⟨rb, 4, none⟩ (.slice A1 n1 c1)) = wX at hX hGX ⊢
      have hY := hX.alloc (.cells #[.int .i64 (id : Int), .int .i64 (x4 : Int), .int .i64 s1, .int .i64 1, .slice A1 n1 c1] 34)
      have hNY : New w (wX.alloc (.cells #[.int .i64 (id : Int), .int .i64 (x4 : Int), .int .i64 s1, .int .i64 1, .slice A1 n1 c1] 34)) := (HN7.out.trans hGX (fun i hi h => by have := Hrv.out; omega)).alloc _
      obtain ⟨es, en, eo⟩ := HO1.out (by trivial)
      have eo7 := own_chg (own_new eo HMx.out) hGX (fun x hx h => own_apart (own_new eo HMx.out) HR7.out (by decide) (by rw [hx, h]))
      have eoY := own_base (base' := w.heap.size) (own_new eo7 ((Chg.refl _ _).alloc (.cells #[.int .i64 (id : Int), .int .i64 (x4 : Int), .int .i64 s1, .int .i64 1, .slice A1 n1 c1] 34))) (fun x hx => by have := (eo.lt x hx).1; have := HN3.out.size; have := HN5.out.size; omega)
      generalize wX.alloc (.cells #[.int .i64 (id : Int), .int .i64 (x4 : Int), .int .i64 s1, .int .i64 1, .slice A1 n1 c1] 34) = wY at hY hNY eoY ⊢
      have g0 := (hY.cell 0).trans rfl
      have g1 := (hY.cell 1).trans rfl
      have g2 := (hY.cell 2).trans rfl
      have g3 := (hY.cell 3).trans rfl
      have g4 := (hY.cell 4).trans rfl
      refine bodyPost_ret (v := .tuple #[.agg #[.int .i64 (id : Int), .int .i64 (x4 : Int), .int .i64 s1, .int .i64 1, .slice A1 n1 c1], .int .i64 0]) (by simp [results, Try.results11, go_sem, g0, g1, g2, g3, g4]) rfl ?_
      exact ⟨RdR.yes (k := 1) (rdE_ok Hsum.out Hfm.out (Or.inl Hd1.out.symm)) (by rw [Hid'.out, HSd.out]) (by rw [Hx4.out, HSd.out]) (by unfold cpN pick2; rw [← Hd1.out, ← Hd2.out]; simp) es en eoY, hNY⟩
    | true =>
      have e1 := (HO1.out (by trivial)).1
      have e2 := (HO2.out (by trivial)).1
      by_cases hlt : seqN (sec P 1) < seqN (sec P 2)
      · have tt : decide (s1 < s2) = true := by rw [e1, e2]; simp only [decide_eq_true_eq]; omega
        have Hlt := Lib.hid hlt
        clear e1 e2 hlt
        go_wp2_with fail
        obtain ⟨hX, hGX⟩ := set5 HR7.out (.int .i64 (id : Int)) (.int .i64 (x4 : Int)) (.int .i64 s2) (.int .i64 2) (.slice A2 n2 c2)
        generalize (((((w7.setCell ⟨rb, 0, none⟩ (.int .i64 (id : Int))).setCell ⟨rb, 1, none⟩ (.int .i64 (x4 : Int))).setCell ⟨rb, 2, none⟩ (.int .i64 s2)).setCell ⟨rb, 3, none⟩ (.int .i64 2)).setCell ⟨rb, 4, none⟩ (.slice A2 n2 c2)) = wX at hX hGX ⊢
        have hY := hX.alloc (.cells #[.int .i64 (id : Int), .int .i64 (x4 : Int), .int .i64 s2, .int .i64 2, .slice A2 n2 c2] 34)
        have hNY : New w (wX.alloc (.cells #[.int .i64 (id : Int), .int .i64 (x4 : Int), .int .i64 s2, .int .i64 2, .slice A2 n2 c2] 34)) := (HN7.out.trans hGX (fun i hi h => by have := Hrv.out; omega)).alloc _
        obtain ⟨es, en, eo⟩ := HO2.out (by trivial)
        have eo7 := own_chg (own_new eo HMy.out) hGX (fun x hx h => own_apart (own_new eo HMy.out) HR7.out (by decide) (by rw [hx, h]))
        have eoY := own_base (base' := w.heap.size) (own_new eo7 ((Chg.refl _ _).alloc (.cells #[.int .i64 (id : Int), .int .i64 (x4 : Int), .int .i64 s2, .int .i64 2, .slice A2 n2 c2] 34))) (fun x hx => by have := (eo.lt x hx).1; have := HN3.out.size; have := HN5.out.size; omega)
        generalize wX.alloc (.cells #[.int .i64 (id : Int), .int .i64 (x4 : Int), .int .i64 s2, .int .i64 2, .slice A2 n2 c2] 34) = wY at hY hNY eoY ⊢
        have g0 := (hY.cell 0).trans rfl
        have g1 := (hY.cell 1).trans rfl
        have g2 := (hY.cell 2).trans rfl
        have g3 := (hY.cell 3).trans rfl
        have g4 := (hY.cell 4).trans rfl
        refine bodyPost_ret (v := .tuple #[.agg #[.int .i64 (id : Int), .int .i64 (x4 : Int), .int .i64 s2, .int .i64 2, .slice A2 n2 c2], .int .i64 0]) (by simp [results, Try.results11, go_sem, g0, g1, g2, g3, g4]) rfl ?_
        exact ⟨RdR.yes (k := 2) (rdE_ok Hsum.out Hfm.out (Or.inr Hd2.out.symm)) (by rw [Hid'.out, HSd.out]) (by rw [Hx4.out, HSd.out]) (by unfold cpN pick2; rw [← Hd1.out, ← Hd2.out]; simp [Hlt.out]) es en eoY, hNY⟩
      · have tt : decide (s1 < s2) = false := by rw [e1, e2]; simp only [decide_eq_false_iff_not]; omega
        have Hlt := Lib.hid hlt
        clear e1 e2 hlt
        go_wp2_with fail
        obtain ⟨hX, hGX⟩ := set5 HR7.out (.int .i64 (id : Int)) (.int .i64 (x4 : Int)) (.int .i64 s1) (.int .i64 1) (.slice A1 n1 c1)
        generalize (((((w7.setCell ⟨rb, 0, none⟩ (.int .i64 (id : Int))).setCell ⟨rb, 1, none⟩ (.int .i64 (x4 : Int))).setCell ⟨rb, 2, none⟩ (.int .i64 s1)).setCell ⟨rb, 3, none⟩ (.int .i64 1)).setCell ⟨rb, 4, none⟩ (.slice A1 n1 c1)) = wX at hX hGX ⊢
        have hY := hX.alloc (.cells #[.int .i64 (id : Int), .int .i64 (x4 : Int), .int .i64 s1, .int .i64 1, .slice A1 n1 c1] 34)
        have hNY : New w (wX.alloc (.cells #[.int .i64 (id : Int), .int .i64 (x4 : Int), .int .i64 s1, .int .i64 1, .slice A1 n1 c1] 34)) := (HN7.out.trans hGX (fun i hi h => by have := Hrv.out; omega)).alloc _
        obtain ⟨es, en, eo⟩ := HO1.out (by trivial)
        have eo7 := own_chg (own_new eo HMx.out) hGX (fun x hx h => own_apart (own_new eo HMx.out) HR7.out (by decide) (by rw [hx, h]))
        have eoY := own_base (base' := w.heap.size) (own_new eo7 ((Chg.refl _ _).alloc (.cells #[.int .i64 (id : Int), .int .i64 (x4 : Int), .int .i64 s1, .int .i64 1, .slice A1 n1 c1] 34))) (fun x hx => by have := (eo.lt x hx).1; have := HN3.out.size; have := HN5.out.size; omega)
        generalize wX.alloc (.cells #[.int .i64 (id : Int), .int .i64 (x4 : Int), .int .i64 s1, .int .i64 1, .slice A1 n1 c1] 34) = wY at hY hNY eoY ⊢
        have g0 := (hY.cell 0).trans rfl
        have g1 := (hY.cell 1).trans rfl
        have g2 := (hY.cell 2).trans rfl
        have g3 := (hY.cell 3).trans rfl
        have g4 := (hY.cell 4).trans rfl
        refine bodyPost_ret (v := .tuple #[.agg #[.int .i64 (id : Int), .int .i64 (x4 : Int), .int .i64 s1, .int .i64 1, .slice A1 n1 c1], .int .i64 0]) (by simp [results, Try.results11, go_sem, g0, g1, g2, g3, g4]) rfl ?_
        exact ⟨RdR.yes (k := 1) (rdE_ok Hsum.out Hfm.out (Or.inl Hd1.out.symm)) (by rw [Hid'.out, HSd.out]) (by rw [Hx4.out, HSd.out]) (by unfold cpN pick2; rw [← Hd1.out, ← Hd2.out]; simp [Hlt.out]) es en eoY, hNY⟩
end Go.Proofs.Ytjkpijinpfimiaa
