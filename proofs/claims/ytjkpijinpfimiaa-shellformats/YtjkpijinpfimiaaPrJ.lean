/-
  What the program's Read does: what the card says.
-/
import Derived.Test.YtjkpijinpfimiaaPrI
import Derived.Test.YtjkpijinpfimiaaRefR
namespace Go.Proofs.Ytjkpijinpfimiaa
open Go.RowKit
/-- what is found behind the first k copies -/
def stK (B : List Nat) : Nat → Int × Int × List En
  | 0 => (0, 0, [])
  | k + 1 => if dirB (sec B (k + 1)) = true ∧ (stK B k).1 < (seqN (sec B (k + 1)) : Nat) then (((seqN (sec B (k + 1)) : Nat) : Int), ((k + 1 : Nat) : Int), ens (sec B (k + 1)) ((sec B (k + 1)).getD 2 0)) else stK B k
theorem stK_none {B : List Nat} (h1 : dirB (sec B 1) = false) (h2 : dirB (sec B 2) = false) : stK B 2 = (0, 0, []) := by
  simp [stK, h1, h2]
theorem stK_two (B : List Nat) : stK B 2 = if dirB (sec B 2) = true ∧ (stK B 1).1 < ((seqN (sec B 2) : Nat) : Int) then (((seqN (sec B 2) : Nat) : Int), (2 : Int), ens (sec B 2) ((sec B 2).getD 2 0)) else stK B 1 := rfl
theorem stK_some {B : List Nat} (h : dirB (sec B 1) = true ∨ dirB (sec B 2) = true) : stK B 2 = (((seqN (sec B (cpN B)) : Nat) : Int), ((cpN B : Nat) : Int), ens (sec B (cpN B)) ((sec B (cpN B)).getD 2 0)) ∧ 0 < seqN (sec B (cpN B)) := by
  unfold cpN pick2
  cases h1 : dirB (sec B 1) with
  | true =>
    have s1 := (dir_parts h1).2.2
    have e1 : stK B 1 = (((seqN (sec B 1) : Nat) : Int), (1 : Int), ens (sec B 1) ((sec B 1).getD 2 0)) := by
      unfold stK
      rw [if_pos ⟨h1, by simp [stK]; omega⟩]
      rfl
    cases h2 : dirB (sec B 2) with
    | true =>
      have s2 := (dir_parts h2).2.2
      by_cases hlt : seqN (sec B 1) < seqN (sec B 2)
      · refine ⟨?_, by simp [hlt]; exact s2⟩
        rw [stK_two, e1, if_pos ⟨h2, by simp only; omega⟩]
        simp [hlt]
      · refine ⟨?_, by simp [hlt]; exact s1⟩
        rw [stK_two, e1, if_neg (by simp only; omega)]
        simp [hlt]
    | false =>
      refine ⟨?_, by simp; exact s1⟩
      rw [stK_two, e1, if_neg (by rw [h2]; simp)]
      simp
  | false =>
    have h2 : dirB (sec B 2) = true := by rcases h with h | h; (rw [h1] at h; cases h); exact h
    have s2 := (dir_parts h2).2.2
    have e1 : stK B 1 = (0, 0, []) := by
      unfold stK
      rw [if_neg (by rw [h1]; simp)]
      rfl
    refine ⟨?_, by simp; exact s2⟩
    rw [stK_two, e1, if_pos ⟨h2, by simp only; omega⟩]
    simp
theorem rs_rd {B : List Nat} (h : rsE (sec B 0) ≠ 0) : rdE B = rsE (sec B 0) := by
  unfold rdE rsE at *
  cases h1 : sumOk (sec B 0) <;> cases h2 : formB (sec B 0) <;> simp_all
theorem rs_ok {B : List Nat} (h : rsE (sec B 0) = 0) : sumOk (sec B 0) = true ∧ formB (sec B 0) = true := by
  unfold rsE at h
  cases h1 : sumOk (sec B 0) <;> cases h2 : formB (sec B 0) <;> simp_all
theorem set3 {w : World} {g : Nat} {y0 y1 y2 y3 y4 : Value} (h : Has w g 30 #[y0, y1, y2, y3, y4]) (x2 x3 x4 : Value) :
    Has (((w.setCell ⟨g, 2, none⟩ x2).setCell ⟨g, 3, none⟩ x3).setCell ⟨g, 4, none⟩ x4) g 30 #[y0, y1, x2, x3, x4] ∧
      Chg (· = g) w (((w.setCell ⟨g, 2, none⟩ x2).setCell ⟨g, 3, none⟩ x3).setCell ⟨g, 4, none⟩ x4) := by
  refine ⟨?_, ?_⟩
  · have := ((h.set 2 x2).set 3 x3).set 4 x4
    simpa using this
  · exact Chg.setCell (S := (· = g)) (Chg.setCell (S := (· = g)) (Chg.setCell (S := (· = g)) (Chg.refl _ _) (fun _ => rfl) _) (fun _ => rfl) _) (fun _ => rfl) _
set_option maxRecDepth 100000 in
set_option maxHeartbeats 8000000 in
theorem pRead_any (g : Nat) (B : List Nat) (pw : Int) (w : World) (hC : Cd w g B pw) :
    Calls Try.prog 10 #[.pointer (some ⟨g, 0, none⟩)] w fun e w' => RdR B w e w' ∧ New w w' := by
  have HC := Lib.hid hC
  have hgl := hC.lt
  clear hC
  obtain ⟨rb, hrb⟩ : ∃ rb, rb = w.heap.size := ⟨_, rfl⟩
  go_enter Try.func10, Try.ntmps10
  go_wp2_with fail
  obtain ⟨w1, hw1⟩ : ∃ w1, w1 = w.alloc (.cells #[.int .i64 0, .int .i64 0, .int .i64 0, .int .i64 0, .slice none 0 0] 30) := ⟨_, rfl⟩
  have HB1 : Hid (Has w1 rb 30 #[.int .i64 0, .int .i64 0, .int .i64 0, .int .i64 0, .slice none 0 0]) := by rw [hw1, hrb]; exact Has.new w 30 _
  have HN1 : Hid (New w w1) := by rw [hw1]; exact (Chg.refl _ _).alloc _
  have Hrb : Hid (w.heap.size ≤ rb) := by show _ ≤ _; omega
  rw [← hw1, ← hrb]
  clear hw1 hrb
  with_reducible refine (readShell_any g B pw w1 (HC.out.new HN1.out)).mono ?_
  rintro e w2 ⟨hE, hN2⟩
  have HB2 := Lib.hid (HB1.out.keep hN2)
  have HN2 := Lib.hid (HN1.out.then_new hN2)
  clear hN2 HB1
  rcases hE with ⟨hz, rfl⟩ | ⟨hz, rfl⟩
  case inr =>
    have Hrd := Lib.hid (rs_rd hz)
    have Hz := Lib.hid hz
    obtain ⟨x, hx⟩ : ∃ x, x = rsE (sec B 0) := ⟨_, rfl⟩
    rw [← hx] at hz Hrd Hz ⊢
    have tx : (x != 0) = true := by simpa using hz
    clear hx hz
    go_upto_region 4 with (fail)
    obtain ⟨w3, hw3⟩ : ∃ w3, w3 = w2.alloc (.cells #[.int .i64 0, .int .i64 0, .int .i64 0, .int .i64 0, .slice none 0 0] 30) := ⟨_, rfl⟩
    have hN3 : New w2 w3 := by rw [hw3]; exact (Chg.refl _ _).alloc _
    have HB3 := Lib.hid (HB2.out.keep hN3)
    have HN3 := Lib.hid (HN2.out.then_new hN3)
    rw [← hw3]
    clear hw3 hN3
    have r0 : w3.cell? ⟨rb, 0, none⟩ = some (.int .i64 0) := (HB3.out.cell 0).trans rfl
    have r1 : w3.cell? ⟨rb, 1, none⟩ = some (.int .i64 0) := (HB3.out.cell 1).trans rfl
    have r2 : w3.cell? ⟨rb, 2, none⟩ = some (.int .i64 0) := (HB3.out.cell 2).trans rfl
    have r3 : w3.cell? ⟨rb, 3, none⟩ = some (.int .i64 0) := (HB3.out.cell 3).trans rfl
    have r4 : w3.cell? ⟨rb, 4, none⟩ = some (.slice none 0 0) := (HB3.out.cell 4).trans rfl
    have z0 := HB3.out.free 0
    have z1 := HB3.out.free 1
    have z2 := HB3.out.free 2
    have z3 := HB3.out.free 3
    have z4 := HB3.out.free 4
    go_wp2_with fail
    obtain ⟨hX, hGX⟩ := setV HB3.out (.int .i64 0) (.int .i64 0) (.int .i64 0) (.int .i64 0) (.slice none 0 0)
    generalize (((((w3.setCell ⟨rb, 0, none⟩ (.int .i64 0)).setCell ⟨rb, 1, none⟩ (.int .i64 0)).setCell ⟨rb, 2, none⟩ (.int .i64 0)).setCell ⟨rb, 3, none⟩ (.int .i64 0)).setCell ⟨rb, 4, none⟩ (.slice none 0 0)) = wX at hX hGX ⊢
    have g0 := (hX.cell 0).trans rfl
    have g1 := (hX.cell 1).trans rfl
    have g2 := (hX.cell 2).trans rfl
    have g3 := (hX.cell 3).trans rfl
    have g4 := (hX.cell 4).trans rfl
    refine bodyPost_ret (v := .tuple #[.agg #[.int .i64 0, .int .i64 0, .int .i64 0, .int .i64 0, .slice none 0 0], .int .i64 x]) (by simp [results, Try.results10, go_sem, g0, g1, g2, g3, g4]) rfl ?_
    exact ⟨RdR.no Hrd.out Hz.out, HN3.out.trans hGX (fun i hi h => by have := Hrb.out; omega)⟩
  obtain ⟨hsum, hform⟩ := rs_ok hz
  have Hsum := Lib.hid hsum
  have Hform := Lib.hid hform
  obtain ⟨id, hid⟩ : ∃ id : Int, id = (idN (sec B 0) : Nat) := ⟨_, rfl⟩
  obtain ⟨u, hu⟩ : ∃ u : Int, u = ((sec B 0).getD 4 0 : Nat) := ⟨_, rfl⟩
  rw [← hid, ← hu]
  have Hid' := Lib.hid hid
  have Hu := Lib.hid hu
  clear hz hsum hform hid hu
  obtain ⟨vb, hvb⟩ : ∃ vb, vb = w2.heap.size := ⟨_, rfl⟩
  obtain ⟨a, ha⟩ : ∃ a : Addr, a = ⟨w2.heap.size + 1, 0, none⟩ := ⟨_, rfl⟩
  go_wp2_with fail
  obtain ⟨w3, hw3⟩ : ∃ w3, w3 = (w2.alloc (.cells #[.int .i64 id, .int .i64 u, .int .i64 0, .int .i64 0, .slice none 0 0] 30)).alloc (.cells #[.int .i64 1, .int .i64 2] 3) := ⟨_, rfl⟩
  have hN3 : New w2 w3 := by rw [hw3]; exact ((Chg.refl _ _).alloc _).alloc _
  have HV3 : Hid (Has w3 vb 30 #[.int .i64 id, .int .i64 u, .int .i64 0, .int .i64 0, .slice none 0 0]) := by rw [hw3, hvb]; exact (Has.new w2 30 _).alloc _
  have HA3 : Hid (Has w3 a.block 3 #[.int .i64 1, .int .i64 2]) := by rw [hw3, ha]; exact Has.new_at _ 3 _ _ (by simp)
  have Haa : Hid (∀ k, k < 2 → ∀ wx, Has wx a.block 3 #[.int .i64 1, .int .i64 2] → wx.cell? (a.add k) = some (.int .i64 ((k : Int) + 1))) := by
    intro k hk wx hx
    have hadd : a.add k = ⟨a.block, k, none⟩ := by rw [ha]; unfold Addr.add; split <;> simp_all
    rw [hadd, hx.cell]
    rcases (show k = 0 ∨ k = 1 by omega) with rfl | rfl <;> rfl
  have HB3 := Lib.hid (HB2.out.keep hN3)
  have HN3 := Lib.hid (HN2.out.then_new hN3)
  have Hvb : Hid (w.heap.size ≤ vb ∧ vb ≠ rb ∧ a.block ≠ vb ∧ a.block ≠ rb) := by
    have := HN2.out.size
    have := HB2.out.lt
    have hab : a.block = w2.heap.size + 1 := by rw [ha]
    show _ ∧ _ ∧ _ ∧ _
    omega
  rw [← hw3, ← ha, ← hvb]
  clear hw3 hN3 ha hvb HB2
  go_loopg [25] 2 (fun gk x wr => ∃ (k : Nat) (s p : Int) (l : List En) (E : Option Addr) (n ec : Nat), k ≤ 2 ∧ gk = 2 - k ∧ x = .int .i64 k ∧ stK B k = (s, p, l) ∧ l.length = n ∧ Has wr vb 30 #[.int .i64 id, .int .i64 u, .int .i64 s, .int .i64 p, .slice E n ec] ∧ wr.ownsRow w.heap.size 60 4 (.slice E n ec) n (enRow l) ∧ Has wr a.block 3 #[.int .i64 1, .int .i64 2] ∧ Has wr rb 30 #[.int .i64 0, .int .i64 0, .int .i64 0, .int .i64 0, .slice none 0 0] ∧ New w wr)
  case atStart => exact ⟨0, 0, 0, [], none, 0, 0, by omega, by omega, rfl, rfl, rfl, HV3.out, World.ownsRow_nil _ _ _ _, HA3.out, HB3.out, HN3.out⟩
  case round =>
    clear HV3 HA3 HB3 HN3
    obtain ⟨k, s, p, l, E, n, ec, hk, rfl, rfl, hst, hln, hV, hO, hA, hB, hN⟩ := hrel
    have Hst := Lib.hid hst
    have Hln := Lib.hid hln
    have HV := Lib.hid hV
    have HO := Lib.hid hO
    have HA := Lib.hid hA
    have HB := Lib.hid hB
    have HN := Lib.hid hN
    clear hst hln hV hO hA hB hN
    by_cases hlt : k < 2
    · have hca := Haa.out k hlt wr HA.out
      go_wp2_with fail
      with_reducible refine (readCopy_any g ((k : Int) + 1) B pw wr (HC.out.new HN.out) (by omega)).mono ?_
      rw [show ((k : Int) + 1).toNat = k + 1 by omega]
      rintro e w4 ⟨hE, hN4⟩
      have HV4 := Lib.hid (HV.out.keep hN4)
      have HA4 := Lib.hid (HA.out.keep hN4)
      have HB4 := Lib.hid (HB.out.keep hN4)
      have HO4 := Lib.hid (own_new HO.out hN4)
      have HN4 := Lib.hid (HN.out.then_new hN4)
      have Hsz := Lib.hid HN.out.size
      clear hN4 HV HA HB HO HN hca
      have Hs1 : Hid (stK B (k + 1) = if dirB (sec B (k + 1)) = true ∧ s < ((seqN (sec B (k + 1)) : Nat) : Int) then (((seqN (sec B (k + 1)) : Nat) : Int), ((k + 1 : Nat) : Int), ens (sec B (k + 1)) ((sec B (k + 1)).getD 2 0)) else (s, p, l)) := by
        show _ = _
        rw [stK, Hst.out]
      rcases hE with ⟨hd, rfl⟩ | ⟨hd, E', ec', rfl, hO'⟩
      · have Hd : Hid (stK B (k + 1) = (s, p, l)) := by show _ = _; rw [Hs1.out, if_neg (by rw [hd]; simp)]
        clear hd
        go_wp2_with fail
        go_roundg (2 - (k + 1))
        case measure => omega
        case rel => exact ⟨k + 1, s, p, l, E, n, ec, by omega, rfl, by go_num, Hd.out, Hln.out, HV4.out, HO4.out, HA4.out, HB4.out, HN4.out⟩
      · have HOn : Hid (w4.ownsRow w.heap.size 60 4 (.slice E' ((sec B (k + 1)).getD 2 0) ec') ((sec B (k + 1)).getD 2 0) (enRow (ens (sec B (k + 1)) ((sec B (k + 1)).getD 2 0)))) := own_base hO' (fun x hx => Nat.le_trans Hsz.out (hO'.lt x hx).1)
        obtain ⟨n', hn'⟩ : ∃ n', n' = (sec B (k + 1)).getD 2 0 := ⟨_, rfl⟩
        obtain ⟨s', hs'⟩ : ∃ s' : Int, s' = ((seqN (sec B (k + 1)) : Nat) : Int) := ⟨_, rfl⟩
        rw [← hn', ← hs'] at Hs1
        rw [← hn'] at HOn
        rw [← hn', ← hs']
        have Hs2 : Hid (stK B (k + 1) = if s < s' then (s', ((k + 1 : Nat) : Int), ens (sec B (k + 1)) n') else (s, p, l)) := by
          show _ = _
          rw [Hs1.out]
          by_cases h : s < s'
          · rw [if_pos ⟨hd, h⟩, if_pos h]
          · rw [if_neg (fun x => h x.2), if_neg h]
        clear hn' hs' hd hO' Hs1
        have v0 : w4.cell? ⟨vb, 0, none⟩ = some (.int .i64 id) := (HV4.out.cell 0).trans rfl
        have v1 : w4.cell? ⟨vb, 1, none⟩ = some (.int .i64 u) := (HV4.out.cell 1).trans rfl
        have v2 : w4.cell? ⟨vb, 2, none⟩ = some (.int .i64 s) := (HV4.out.cell 2).trans rfl
        have v3 : w4.cell? ⟨vb, 3, none⟩ = some (.int .i64 p) := (HV4.out.cell 3).trans rfl
        have v4 : w4.cell? ⟨vb, 4, none⟩ = some (.slice E n ec) := (HV4.out.cell 4).trans rfl
        have y0 := HV4.out.free 0
        have y1 := HV4.out.free 1
        have y2 := HV4.out.free 2
        have y3 := HV4.out.free 3
        have y4 := HV4.out.free 4
        by_cases hlt2 : s < s'
        · have t : decide (s < s') = true := decide_eq_true hlt2
          have Hd : Hid (stK B (k + 1) = (s', ((k + 1 : Nat) : Int), ens (sec B (k + 1)) n')) := by show _ = _; rw [Hs2.out, if_pos hlt2]
          clear hlt2
          go_wp2_with fail
          obtain ⟨hX, hGX⟩ := set3 HV4.out (.int .i64 s') (.int .i64 ((k : Int) + 1)) (.slice E' n' ec')
          generalize (((w4.setCell ⟨vb, 2, none⟩ (.int .i64 s')).setCell ⟨vb, 3, none⟩ (.int .i64 ((k : Int) + 1))).setCell ⟨vb, 4, none⟩ (.slice E' n' ec')) = wX at hX hGX ⊢
          go_roundg (2 - (k + 1))
          case measure => omega
          case rel => exact ⟨k + 1, s', ((k + 1 : Nat) : Int), ens (sec B (k + 1)) n', E', n', ec', by omega, rfl, by go_num, Hd.out, ens_len _ _, hX, own_chg HOn.out hGX (fun x hx h => own_apart HOn.out HV4.out (by decide) (by rw [hx, h])), HA4.out.chg hGX Hvb.out.2.2.1, HB4.out.chg hGX Hvb.out.2.1.symm, HN4.out.trans hGX (fun i hi h => by have := Hvb.out; omega)⟩
        · have t : decide (s < s') = false := decide_eq_false hlt2
          have Hd : Hid (stK B (k + 1) = (s, p, l)) := by show _ = _; rw [Hs2.out, if_neg hlt2]
          clear hlt2
          go_wp2_with fail
          go_roundg (2 - (k + 1))
          case measure => omega
          case rel => exact ⟨k + 1, s, p, l, E, n, ec, by omega, rfl, by go_num, Hd.out, Hln.out, HV4.out, HO4.out, HA4.out, HB4.out, HN4.out⟩
    · obtain rfl : k = 2 := by omega
      have v0 : wr.cell? ⟨vb, 0, none⟩ = some (.int .i64 id) := (HV.out.cell 0).trans rfl
      have v1 : wr.cell? ⟨vb, 1, none⟩ = some (.int .i64 u) := (HV.out.cell 1).trans rfl
      have v2 : wr.cell? ⟨vb, 2, none⟩ = some (.int .i64 s) := (HV.out.cell 2).trans rfl
      have v3 : wr.cell? ⟨vb, 3, none⟩ = some (.int .i64 p) := (HV.out.cell 3).trans rfl
      have v4 : wr.cell? ⟨vb, 4, none⟩ = some (.slice E n ec) := (HV.out.cell 4).trans rfl
      have y0 := HV.out.free 0
      have y1 := HV.out.free 1
      have y2 := HV.out.free 2
      have y3 := HV.out.free 3
      have y4 := HV.out.free 4
      have r0 : wr.cell? ⟨rb, 0, none⟩ = some (.int .i64 0) := (HB.out.cell 0).trans rfl
      have r1 : wr.cell? ⟨rb, 1, none⟩ = some (.int .i64 0) := (HB.out.cell 1).trans rfl
      have r2 : wr.cell? ⟨rb, 2, none⟩ = some (.int .i64 0) := (HB.out.cell 2).trans rfl
      have r3 : wr.cell? ⟨rb, 3, none⟩ = some (.int .i64 0) := (HB.out.cell 3).trans rfl
      have r4 : wr.cell? ⟨rb, 4, none⟩ = some (.slice none 0 0) := (HB.out.cell 4).trans rfl
      have z0 := HB.out.free 0
      have z1 := HB.out.free 1
      have z2 := HB.out.free 2
      have z3 := HB.out.free 3
      have z4 := HB.out.free 4
      by_cases hd : dirB (sec B 1) = true ∨ dirB (sec B 2) = true
      · obtain ⟨e1, e2⟩ := stK_some hd
        have h3 := Hst.out.symm.trans e1
        simp only [Prod.mk.injEq] at h3
        obtain ⟨h31, h32, h33⟩ := h3
        have t0 : (s == 0) = false := by rw [h31]; simp; omega
        have Hrd := Lib.hid (rdE_ok Hsum.out Hform.out hd)
        have HV2 : Hid (s = ((seqN (sec B (cpN B)) : Nat) : Int) ∧ p = ((cpN B : Nat) : Int) ∧ l = ens (sec B (cpN B)) ((sec B (cpN B)).getD 2 0)) := ⟨h31, h32, h33⟩
        clear e1 e2 h31 h32 h33 hd
        go_wp2_with fail
        obtain ⟨hX, hGX⟩ := setV HB.out (.int .i64 id) (.int .i64 u) (.int .i64 s) (.int .i64 p) (.slice E n ec)
        generalize (((((wr.setCell ⟨rb, 0, none⟩ (.int .i64 id)).setCell ⟨rb, 1, none⟩ (.int .i64 u)).setCell ⟨rb, 2, none⟩ (.int .i64 s)).setCell ⟨rb, 3, none⟩ (.int .i64 p)).setCell ⟨rb, 4, none⟩ (.slice E n ec)) = wX at hX hGX ⊢
        have g0 := (hX.cell 0).trans rfl
        have g1 := (hX.cell 1).trans rfl
        have g2 := (hX.cell 2).trans rfl
        have g3 := (hX.cell 3).trans rfl
        have g4 := (hX.cell 4).trans rfl
        refine bodyPost_ret (v := .tuple #[.agg #[.int .i64 id, .int .i64 u, .int .i64 s, .int .i64 p, .slice E n ec], .int .i64 0]) (by simp [results, Try.results10, go_sem, g0, g1, g2, g3, g4]) rfl ?_
        refine ⟨?_, HN.out.trans hGX (fun i hi h => by have := Hrb.out; omega)⟩
        have hO9 := own_chg HO.out hGX (fun x hx h => own_apart HO.out HB.out (by decide) (by rw [hx, h]))
        have hn9 := Hln.out
        obtain ⟨h1, h2, h3⟩ := HV2.out
        rw [h3, ens_len] at hn9
        rw [h1, h2, Hid'.out, Hu.out]
        rw [h3] at hO9
        refine RdR.yes Hrd.out rfl rfl rfl rfl hn9.symm ?_
        rw [hn9] at hO9
        exact hO9
      · have hd1 : dirB (sec B 1) = false := by cases h : dirB (sec B 1); rfl; exact absurd (Or.inl h) hd
        have hd2 : dirB (sec B 2) = false := by cases h : dirB (sec B 2); rfl; exact absurd (Or.inr h) hd
        have Hrd := Lib.hid (rdE_none Hsum.out Hform.out hd1 hd2)
        have h3 := Hst.out.symm.trans (stK_none hd1 hd2)
        simp only [Prod.mk.injEq] at h3
        obtain ⟨rfl, rfl, rfl⟩ := h3
        clear hd hd1 hd2
        go_wp2_with fail
        obtain ⟨hX, hGX⟩ := setV HB.out (.int .i64 0) (.int .i64 0) (.int .i64 0) (.int .i64 0) (.slice none 0 0)
        generalize (((((wr.setCell ⟨rb, 0, none⟩ (.int .i64 0)).setCell ⟨rb, 1, none⟩ (.int .i64 0)).setCell ⟨rb, 2, none⟩ (.int .i64 0)).setCell ⟨rb, 3, none⟩ (.int .i64 0)).setCell ⟨rb, 4, none⟩ (.slice none 0 0)) = wX at hX hGX ⊢
        have g0 := (hX.cell 0).trans rfl
        have g1 := (hX.cell 1).trans rfl
        have g2 := (hX.cell 2).trans rfl
        have g3 := (hX.cell 3).trans rfl
        have g4 := (hX.cell 4).trans rfl
        refine bodyPost_ret (v := .tuple #[.agg #[.int .i64 0, .int .i64 0, .int .i64 0, .int .i64 0, .slice none 0 0], .int .i64 21]) (by simp [results, Try.results10, go_sem, g0, g1, g2, g3, g4]) rfl ?_
        exact ⟨RdR.no Hrd.out (by decide), HN.out.trans hGX (fun i hi h => by have := Hrb.out; omega)⟩
end Go.Proofs.Ytjkpijinpfimiaa
