/-
  ShellTorn, walked: wherever power fails within a change, the card says what it said, or what it was to say.
-/
import Derived.Test.YtjkpijinpfimiaaShT
import Derived.Test.YtjkpijinpfimiaaOpenC
import Derived.Test.YtjkpijinpfimiaaRefE
namespace Go.Proofs.Ytjkpijinpfimiaa
open Go.RowKit
set_option maxRecDepth 100000 in
set_option maxHeartbeats 16000000 in
theorem torn_walk (id pw : Int) (A : Option Addr) (n c : Nat) (ek eo ei es yp : Int) (yo : Bool) (bs : List Nat) (D : Option Addr) (m dc : Nat) (w : World) (_wid : i64R id) (_wpw : i64R pw) (hC : Cgs w (· < w.heap.size) A n) (hn : n ≤ maxLen) (hy : CgV w (· < w.heap.size) ⟨⟨ek, eo, ei, es⟩, yo, yp, bs⟩ D m dc) :
    Calls Try.prog 6 #[.agg #[.int .i64 id, .int .i64 pw, .slice A n c, .int .i64 ek, .int .i64 eo, .int .i64 ei, .int .i64 es, .slice D m dc, .bool yo, .int .i64 yp]] w fun e w' => e = .returned (.bool true) ∧ New w w' := by
  have HCg := Lib.hid hC; clear hC
  have Hy := Lib.hid hy; clear hy
  have Hn := Lib.hid hn; clear hn
  clear _wid _wpw
  obtain ⟨tb, htb⟩ : ∃ tb, tb = w.heap.size := ⟨_, rfl⟩
  go_enter Try.func6, Try.ntmps6
  go_upto_region 1 with (fail)
  obtain ⟨w1, hw1⟩ : ∃ w1, w1 = w.alloc (.cells #[.int .i64 id, .int .i64 pw, .slice A n c, .int .i64 ek, .int .i64 eo, .int .i64 ei, .int .i64 es, .slice D m dc, .bool yo, .int .i64 yp] 70) := ⟨_, rfl⟩
  have HB1 : Hid (Has w1 tb 70 #[.int .i64 id, .int .i64 pw, .slice A n c, .int .i64 ek, .int .i64 eo, .int .i64 ei, .int .i64 es, .slice D m dc, .bool yo, .int .i64 yp]) := by rw [hw1, htb]; exact Has.new w 70 _
  have HN1 : Hid (New w w1) := by rw [hw1]; exact (Chg.refl _ _).alloc _
  rw [← hw1, ← htb]
  clear hw1 htb
  have htl := HB1.out.lt
  have q0 : w1.cell? ⟨tb, 0, none⟩ = some (.int .i64 id) := (HB1.out.cell 0).trans rfl
  have q1 : w1.cell? ⟨tb, 1, none⟩ = some (.int .i64 pw) := (HB1.out.cell 1).trans rfl
  have q2 : w1.cell? ⟨tb, 2, none⟩ = some (.slice A n c) := (HB1.out.cell 2).trans rfl
  have q3 : w1.cell? ⟨tb, 3, none⟩ = some (.int .i64 ek) := (HB1.out.cell 3).trans rfl
  have q4 : w1.cell? ⟨tb, 4, none⟩ = some (.int .i64 eo) := (HB1.out.cell 4).trans rfl
  have q5 : w1.cell? ⟨tb, 5, none⟩ = some (.int .i64 ei) := (HB1.out.cell 5).trans rfl
  have q6 : w1.cell? ⟨tb, 6, none⟩ = some (.int .i64 es) := (HB1.out.cell 6).trans rfl
  have q7 : w1.cell? ⟨tb, 7, none⟩ = some (.slice D m dc) := (HB1.out.cell 7).trans rfl
  have q8 : w1.cell? ⟨tb, 8, none⟩ = some (.bool yo) := (HB1.out.cell 8).trans rfl
  have q9 : w1.cell? ⟨tb, 9, none⟩ = some (.int .i64 yp) := (HB1.out.cell 9).trans rfl
  go_cut [3, 4, 5, 6] (fun s3 s4 s5 s6 wx => s3 = .int .i64 id ∧ s4 = .slice A n c ∧ s6 = .int .i64 pw ∧ ∃ lb, s5 = .pointer (some ⟨lb, 0, none⟩) ∧ w1.heap.size ≤ lb ∧ Has wx lb 62 #[.int .i64 ek, .int .i64 eo, .int .i64 ei, .int .i64 es, .slice D m dc, .bool yo, .int .i64 yp] ∧ New w1 wx)
  case first =>
    go_region
    all_goals
      go_wp2_with fail
      go_meet
      case rel => first | exact ⟨rfl, rfl, rfl, _, rfl, Nat.le_refl _, (Has.new w1 62 _).drew, ((Chg.refl _ _).alloc _).drew⟩ | exact ⟨rfl, rfl, rfl, _, rfl, Nat.le_refl _, Has.new w1 62 _, (Chg.refl _ _).alloc _⟩ | exact ⟨rfl, rfl, rfl, _, rfl, Nat.le_refl _, Has.new w1.drew 62 _, ((Chg.refl _ _).drew).alloc _⟩
  case rest =>
  obtain ⟨w2, rfl⟩ : ∃ w2, w2 = wc := ⟨_, rfl⟩
  obtain ⟨rfl, rfl, rfl, lb, rfl, hlb, hL2, hN2⟩ := hcut
  have HL2 := Lib.hid hL2
  have Hlb : Hid (w.heap.size ≤ lb) := Nat.le_trans HN1.out.size hlb
  have HN2 := Lib.hid (HN1.out.then_new hN2)
  clear hL2 hlb hN2 htl q0 q1 q2 q3 q4 q5 q6 q7 q8 q9 HB1 HN1
  go_wp2_with fail
  with_reducible refine (awake_any w2).mono ?_
  rintro e w3 ⟨rfl, hN3⟩
  have HL3 := Lib.hid (HL2.out.keep hN3)
  have HN3 := Lib.hid (HN2.out.then_new hN3)
  clear hN3 HL2 HN2
  go_wp2_with fail
  with_reducible refine (NewC w3).mono ?_
  rintro e w4 ⟨g, rfl, Hg, hC4, hN4⟩
  have HL4 := Lib.hid (HL3.out.keep hN4)
  have HC4 := Lib.hid hC4
  have HN4 := Lib.hid (HN3.out.then_new hN4)
  have Hgw : Hid (w.heap.size ≤ g) := by have := Hg.out; have := HN3.out.size; show _ ≤ _; omega
  clear hN4 hC4 HL3
  go_wp2_with fail
  with_reducible refine (NewC w4).mono ?_
  rintro e w5 ⟨d, rfl, Hd, hD5, hN5⟩
  have HL5 := Lib.hid (HL4.out.keep hN5)
  have HC5 := Lib.hid (HC4.out.new hN5)
  have HD5 := Lib.hid hD5
  have HN5 := Lib.hid (HN4.out.then_new hN5)
  have Hdw : Hid (w.heap.size ≤ d ∧ d ≠ g) := by have := Hd.out; have := HN4.out.size; have := HC4.out.lt; show _ ∧ _; omega
  clear hN5 hD5 HL4 HC4
  obtain ⟨⟨j, hj, hj2⟩, hwj⟩ := turn_big id 65535 (by omega) (by omega)
  obtain ⟨a1, ha1⟩ : ∃ x, x = Int.tmod id 65535 + 65535 := ⟨_, rfl⟩
  have ha2 : Int.tmod id 65535 + 65535 = a1 := ha1.symm
  rw [← ha1] at hj hwj
  have hjj : wrap64 (1 + (j : Int)) = 1 + (j : Int) := by unfold wrap64; omega
  clear ha1
  go_wp2_with fail
  with_reducible refine (Format_free g (1 + (j : Int)) 1 nought w5 HC5.out (by omega) (by omega)).mono ?_
  rintro e w6 ⟨rfl, ⟨B6, hC6, hr6, _⟩, hG6⟩
  have HL6 := Lib.hid (HL5.out.chg hG6 (fun h => Has.apart HL5.out HC5.out.has (by decide) h))
  have HD6 := Lib.hid (HD5.out.chg hG6 Hdw.out.2)
  have HC6 := Lib.hid hC6
  have Hr6 := Lib.hid hr6
  have HN6 : Hid (New w w6) := HN5.out.trans hG6 (fun i hi h => by have := Hgw.out; omega)
  clear hC6 hr6 hG6 hj hj2 hwj ha2 hjj HL5 HC5 HD5
  go_wp2_with fail
  obtain ⟨N, hN⟩ : ∃ N, N = min n 40 := ⟨_, rfl⟩
  have hN1 : N ≤ n := by omega
  have hN2 : N ≤ 40 := by omega
  have HNd : Hid (n ≤ N ∨ 40 ≤ N) := by show _ ∨ _; omega
  clear hN
  go_loopg [10] N (fun gk x wr => ∃ (k : Nat) (B : List Nat), k ≤ N ∧ gk = N - k ∧ x = .int .i64 k ∧ Cd wr g B (-1) ∧ rdE B = 0 ∧ Cd wr d nought (-1) ∧ Has wr lb 62 #[.int .i64 ek, .int .i64 eo, .int .i64 ei, .int .i64 es, .slice D m dc, .bool yo, .int .i64 yp] ∧ New w wr)
  case atStart => exact ⟨0, B6, by omega, by omega, rfl, HC6.out, Hr6.out, HD6.out, HL6.out, HN6.out⟩
  case round =>
    clear HC6 Hr6 HD6 HL6 HN6
    obtain ⟨k, B, hk, rfl, rfl, hC, hr, hD, hL, hN⟩ := hrel
    have HC := Lib.hid hC
    have Hr := Lib.hid hr
    have HD := Lib.hid hD
    have HL := Lib.hid hL
    have HN := Lib.hid hN
    clear hC hr hD hL hN
    by_cases hlt : k < N
    · have t1 : decide ((k : Int) < (n : Int)) = true := by simp only [decide_eq_true_eq]; omega
      have t2 : decide ((k : Int) < 40) = true := by simp only [decide_eq_true_eq]; omega
      obtain ⟨x, hx⟩ := HCg.out k (by omega)
      cases x with
      | mk ex ko2 kp kb =>
      cases ex with
      | mk kk ko ki ks =>
      have hx' := hx
      obtain ⟨a, DD, mm, ddc, rfl, hab, h0, h1, h2, h3, h4, h5, _, hcv⟩ := hx'
      simp only at h0 h1 h2 h3 h4 h5
      have hal : a.block < w.heap.size := hab
      have HX : Hid (∀ wx, New w wx → wx.cell? (a.add (k * 7)) = some (.int .i64 kk) ∧ wx.cell? ⟨(a.add (k * 7)).block, (a.add (k * 7)).off + 1, none⟩ = some (.int .i64 ko) ∧ wx.cell? ⟨(a.add (k * 7)).block, (a.add (k * 7)).off + 2, none⟩ = some (.int .i64 ki) ∧ wx.cell? ⟨(a.add (k * 7)).block, (a.add (k * 7)).off + 3, none⟩ = some (.int .i64 ks) ∧ wx.cell? ⟨(a.add (k * 7)).block, (a.add (k * 7)).off + 4, none⟩ = some (.slice DD mm ddc) ∧ wx.cell? ⟨(a.add (k * 7)).block, (a.add (k * 7)).off + 5, none⟩ = some (.bool ko2)) := fun wx hwx => by
        have hb1 : (a.add (k * 7)).block < w.heap.size := by rw [add_block]; exact hal
        have z := fun t => hwx.cell (p := ⟨(a.add (k * 7)).block, t, none⟩) hb1 (fun f => f)
        exact ⟨(hwx.cell hb1 (fun f => f)).trans h0, (z _).trans h1, (z _).trans h2, (z _).trans h3, (z _).trans h4, (z _).trans h5⟩
      have Hcv := Lib.hid hcv
      clear hx hab hcv h0 h1 h2 h3 h4 h5
      go_wp2_with fail
      with_reducible refine (pRead_any g B (-1) wr HC.out).mono ?_
      rintro e w7 ⟨⟨E, ec, rfl, hO7⟩, hN7⟩
      obtain ⟨vc, vu, q, p, l, hV, hfn⟩ := rd_letters HC.out.small Hr.out
      rw [Hr.out, hV]
      rw [hV] at hO7
      simp only at hO7 ⊢
      have HV := Lib.hid hV
      have Hfn := Lib.hid hfn
      obtain ⟨ln, hln⟩ : ∃ ln, ln = l.length := ⟨_, rfl⟩
      rw [← hln] at hO7 ⊢
      have Hln := Lib.hid hln
      have HO7 := Lib.hid hO7
      have HC7 := Lib.hid (HC.out.new hN7)
      have HD7 := Lib.hid (HD.out.new hN7)
      have HL7 := Lib.hid (HL.out.keep hN7)
      have HN7 := Lib.hid (HN.out.then_new hN7)
      clear hV hfn hln hO7 hN7 t1 t2
      go_upto_region 12 with (fail)
      obtain ⟨vb, hvb⟩ : ∃ vb, vb = w7.heap.size := ⟨_, rfl⟩
      obtain ⟨w8, hw8⟩ : ∃ w8, w8 = w7.alloc (.cells #[.int .i64 vc, .int .i64 vu, .int .i64 (q : Int), .int .i64 (p : Int), .slice E ln ec] 30) := ⟨_, rfl⟩
      have hN8 : New w7 w8 := by rw [hw8]; exact (Chg.refl _ _).alloc _
      have HV8 : Hid (Has w8 vb 30 #[.int .i64 vc, .int .i64 vu, .int .i64 (q : Int), .int .i64 (p : Int), .slice E ln ec]) := by rw [hw8, hvb]; exact Has.new w7 30 _
      have Hvg : Hid (vb ≠ g) := by have := HC7.out.lt; show _ ≠ _; omega
      have HO8 := Lib.hid (own_new HO7.out hN8)
      have HC8 := Lib.hid (HC7.out.new hN8)
      have HD8 := Lib.hid (HD7.out.new hN8)
      have HL8 := Lib.hid (HL7.out.keep hN8)
      have HN8 := Lib.hid (HN7.out.then_new hN8)
      rw [← hw8, ← hvb]
      clear hw8 hvb hN8 HO7 HC7 HD7 HL7
      have HK : Hid (∀ wx, Chg (fun k => k = g ∨ w8.heap.size ≤ k) w8 wx → (wx.cell? (a.add (k * 7)) = some (.int .i64 kk) ∧ wx.cell? ⟨(a.add (k * 7)).block, (a.add (k * 7)).off + 1, none⟩ = some (.int .i64 ko) ∧ wx.cell? ⟨(a.add (k * 7)).block, (a.add (k * 7)).off + 2, none⟩ = some (.int .i64 ki) ∧ wx.cell? ⟨(a.add (k * 7)).block, (a.add (k * 7)).off + 3, none⟩ = some (.int .i64 ks) ∧ wx.cell? ⟨(a.add (k * 7)).block, (a.add (k * 7)).off + 4, none⟩ = some (.slice DD mm ddc) ∧ wx.cell? ⟨(a.add (k * 7)).block, (a.add (k * 7)).off + 5, none⟩ = some (.bool ko2)) ∧ wx.cell? ⟨vb, 0, none⟩ = some (.int .i64 vc) ∧ wx.cell? ⟨vb, 1, none⟩ = some (.int .i64 vu) ∧ wx.cell? ⟨vb, 2, none⟩ = some (.int .i64 (q : Int)) ∧ wx.cell? ⟨vb, 3, none⟩ = some (.int .i64 (p : Int)) ∧ wx.cell? ⟨vb, 4, none⟩ = some (.slice E ln ec)) := fun wx hx => by
        have h1 := HV8.out.chg hx (fun h => by have := Hvg.out; have := HV8.out.lt; omega)
        refine ⟨HX.out wx (HN8.out.trans hx (fun i hi h => by have := Hgw.out; have := HN8.out.size; omega)), (h1.cell 0).trans rfl, (h1.cell 1).trans rfl, (h1.cell 2).trans rfl, (h1.cell 3).trans rfl, (h1.cell 4).trans rfl⟩
      obtain ⟨⟨c0, c1, c2, c3, c4, c5⟩, v0, v1, v2, v3, v4⟩ := HK.out w8 (Chg.refl _ _)
      have hal8 : (a.add (k * 7)).block < w8.heap.size := by rw [add_block]; exact Nat.lt_of_lt_of_le hal HN8.out.size
      have HEn : Hid (∀ wx, New w8 wx → Ents wx (· < wx.heap.size) E l) := fun wx hx => fun j e he => by
        obtain ⟨b, hb, hbb, r⟩ := ((Ents.of_own HO8.out).new hx (own_below HO8.out)) j e he
        exact ⟨b, hb, Nat.lt_of_lt_of_le (own_below HO8.out _ hbb) hx.size, r⟩
      have HDr : Hid (∀ wx, New w8 wx → Calls Try.prog 29 #[.pointer (some ⟨g, 0, none⟩), .agg #[.int .i64 vc, .int .i64 vu, .int .i64 (q : Int), .int .i64 (p : Int), .slice E ln ec], .int .i64 ko, .int .i64 ki] wx fun e w' => ∃ r Bc pw', e = .returned r ∧ Cd w' g Bc pw' ∧ TornTo B (drB B ko ki) (-1) Bc pw' ∧ Chg (· = g) wx w') := fun wx hx =>
        Drop_torn g B (-1) vc vu ko ki q p E ln ec _ l wx B (HC8.out.new hx) rfl Hr.out HV.out (HEn.out wx hx) (fun _ h => h) Hln.out.symm (own_nil HO8.out) (own_cap HO8.out)
      have HSt : Hid (∀ (wx : World) (A9 : Option Addr) (c9 : Nat), New w8 wx → wx.ownsRow w.heap.size 5 1 (.slice A9 mm c9) mm (kb.map bV) → Calls Try.prog 30 #[.pointer (some ⟨g, 0, none⟩), .agg #[.int .i64 vc, .int .i64 vu, .int .i64 (q : Int), .int .i64 (p : Int), .slice E ln ec], .agg #[.int .i64 kk, .int .i64 ko, .int .i64 ki, .int .i64 ks], .slice A9 mm c9] wx fun e w' => ∃ r Bc pw', e = .returned r ∧ Cd w' g Bc pw' ∧ TornTo B (stB B ⟨kk, ko, ki, ks⟩ kb) (-1) Bc pw' ∧ Chg (· = g) wx w') := fun wx A9 c9 hx hO =>
        Store_torn g B (-1) vc vu kk ko ki ks q p E ln ec (· < wx.heap.size) l A9 mm c9 kb wx B (HC8.out.new hx) rfl Hr.out HV.out (HEn.out wx hx) (fun _ h => h) Hln.out.symm (own_nil HO8.out) ((own_arr_bs (own_length hO) hO).mono (own_below hO)) (own_length hO) Hcv.out.2.2.1
      cases ko2 with
      | true =>
        go_upto_region 13 with (fail)
        go_region_held_law (fun wx => (wx.cell? (a.add (k * 7)) = some (.int .i64 kk) ∧ wx.cell? ⟨(a.add (k * 7)).block, (a.add (k * 7)).off + 1, none⟩ = some (.int .i64 ko) ∧ wx.cell? ⟨(a.add (k * 7)).block, (a.add (k * 7)).off + 2, none⟩ = some (.int .i64 ki) ∧ wx.cell? ⟨(a.add (k * 7)).block, (a.add (k * 7)).off + 3, none⟩ = some (.int .i64 ks) ∧ wx.cell? ⟨(a.add (k * 7)).block, (a.add (k * 7)).off + 4, none⟩ = some (.slice DD mm ddc) ∧ wx.cell? ⟨(a.add (k * 7)).block, (a.add (k * 7)).off + 5, none⟩ = some (.bool true)) ∧ wx.cell? ⟨vb, 0, none⟩ = some (.int .i64 vc) ∧ wx.cell? ⟨vb, 1, none⟩ = some (.int .i64 vu) ∧ wx.cell? ⟨vb, 2, none⟩ = some (.int .i64 (q : Int)) ∧ wx.cell? ⟨vb, 3, none⟩ = some (.int .i64 (p : Int)) ∧ wx.cell? ⟨vb, 4, none⟩ = some (.slice E ln ec))
          (with_reducible refine HK.out _ ?_; first | exact HG9.out | exact (by with_reducible repeat (first | exact Chg.refl _ _ | refine Chg.alloc ?_ _ | refine Chg.drew ?_)))
          (first
            | (go_at_call 29; (with_reducible refine (HDr.out _ (by with_reducible repeat (first | exact Chg.refl _ _ | refine Chg.alloc ?_ _ | refine Chg.drew ?_))).mono ?_); rintro e w9 ⟨r, Bc, pw', rfl, hC9, hT9, hG9⟩
               have hM9 : Chg (· = g) w8 w9 := Chg.new_then (by with_reducible repeat (first | exact Chg.refl _ _ | refine Chg.alloc ?_ _ | refine Chg.drew ?_)) hG9
               have HG9 : Hid (Chg (fun k => k = g ∨ w8.heap.size ≤ k) w8 w9) := hM9.mono fun _ _ h => Or.inl h
               have HMg := Lib.hid hM9
               have HC9 := Lib.hid hC9
               have HT9 := Lib.hid hT9
               clear hC9 hT9 hG9 hM9))
        all_goals
          clear c0 c1 c2 c3 c4 c5 v0 v1 v2 v3 v4
          go_wp2_with fail
          go_roundg (N - (k + 1))
          case measure => omega
          case rel =>
            obtain ⟨e1, e2⟩ := HT9.out.1 rfl
            have hC9 := HC9.out
            rw [e1, e2] at hC9
            exact ⟨k + 1, _, by omega, rfl, by go_num, hC9, drB_rd HC.out.len HC.out.small Hr.out _ _, HD8.out.chg HMg.out Hdw.out.2, HL8.out.chg HMg.out (fun h => Has.apart HL8.out HC8.out.has (by decide) h), HN8.out.trans HMg.out (fun i hi h => by have := Hgw.out; omega)⟩
      | false =>
        go_upto_region 14 with (fail)
        go_region_held_law (fun wx => (wx.cell? (a.add (k * 7)) = some (.int .i64 kk) ∧ wx.cell? ⟨(a.add (k * 7)).block, (a.add (k * 7)).off + 1, none⟩ = some (.int .i64 ko) ∧ wx.cell? ⟨(a.add (k * 7)).block, (a.add (k * 7)).off + 2, none⟩ = some (.int .i64 ki) ∧ wx.cell? ⟨(a.add (k * 7)).block, (a.add (k * 7)).off + 3, none⟩ = some (.int .i64 ks) ∧ wx.cell? ⟨(a.add (k * 7)).block, (a.add (k * 7)).off + 4, none⟩ = some (.slice DD mm ddc) ∧ wx.cell? ⟨(a.add (k * 7)).block, (a.add (k * 7)).off + 5, none⟩ = some (.bool false)) ∧ wx.cell? ⟨vb, 0, none⟩ = some (.int .i64 vc) ∧ wx.cell? ⟨vb, 1, none⟩ = some (.int .i64 vu) ∧ wx.cell? ⟨vb, 2, none⟩ = some (.int .i64 (q : Int)) ∧ wx.cell? ⟨vb, 3, none⟩ = some (.int .i64 (p : Int)) ∧ wx.cell? ⟨vb, 4, none⟩ = some (.slice E ln ec))
          (with_reducible refine HK.out _ ?_; first | exact HG10.out | exact HG9.out | exact (by with_reducible repeat (first | exact Chg.refl _ _ | refine Chg.alloc ?_ _ | refine Chg.drew ?_)))
          (first
            | (refine step_copy (wX := w) (by kernel_rfl) (HN8.out.then_new (by ((with_reducible repeat (first | exact Chg.refl _ _ | refine Chg.alloc ?_ _ | refine Chg.drew ?_)); fail_if_success (have := True.intro)))) (.tmp 96) (.tmp 101) rfl w8.heap.size rfl (by ((with_reducible repeat (first | exact Has.new_at _ _ _ _ rfl | refine Has.drew ?_)); fail_if_success (have := True.intro))) HN8.out.size DD mm ddc kb (· < w.heap.size) rfl (Hcv.out.1.new (HN8.out.then_new (by ((with_reducible repeat (first | exact Chg.refl _ _ | refine Chg.alloc ?_ _ | refine Chg.drew ?_)); fail_if_success (have := True.intro)))) (fun _ h => h)) Hcv.out.2.1 Hcv.out.2.2.2.1 (by have := Hcv.out.2.2.2.2.1; omega) ?_
               intro A9 c9 w9 hO9 hN9 hC9
               have hM9 : Chg (fun k => w8.heap.size ≤ k) w8 w9 := (Chg.of_new (by with_reducible repeat (first | exact Chg.refl _ _ | refine Chg.alloc ?_ _ | refine Chg.drew ?_))).trans hC9 (fun i _ h => by omega)
               have HM9 : Hid (New w8 w9) := hM9.mono fun i hi h => by omega
               have HG9 : Hid (Chg (fun k => k = g ∨ w8.heap.size ≤ k) w8 w9) := hM9.mono fun _ _ h => Or.inr h
               have HO9 := Lib.hid hO9
               clear hO9 hN9 hC9 hM9)
            | (go_at_call 30; (with_reducible refine (HSt.out w9 A9 c9 HM9.out HO9.out).mono ?_); rintro e w10 ⟨r, Bc, pw', rfl, hC10, hT10, hG10⟩
               have hM10 : Chg (· = g) w8 w10 := Chg.new_then HM9.out hG10
               have HG10 : Hid (Chg (fun k => k = g ∨ w8.heap.size ≤ k) w8 w10) := hM10.mono fun _ _ h => Or.inl h
               have HMg := Lib.hid hM10
               have HC9 := Lib.hid hC10
               have HT9 := Lib.hid hT10
               clear hC10 hT10 hG10 hM10))
        all_goals
          clear c0 c1 c2 c3 c4 c5 v0 v1 v2 v3 v4
          go_wp2_with fail
          go_roundg (N - (k + 1))
          case measure => omega
          case rel =>
            obtain ⟨e1, e2⟩ := HT9.out.1 rfl
            have hC9 := HC9.out
            rw [e1, e2] at hC9
            exact ⟨k + 1, _, by omega, rfl, by go_num, hC9, stB_rd HC.out.len HC.out.small Hr.out _ _, HD8.out.chg HMg.out Hdw.out.2, HL8.out.chg HMg.out (fun h => Has.apart HL8.out HC8.out.has (by decide) h), HN8.out.trans HMg.out (fun i hi h => by have := Hgw.out; omega)⟩
    · obtain rfl : k = N := by omega
      have hways : (decide ((k : Int) < (n : Int)) = false ∧ decide (k < n) = false ∧ ¬ k < n) ∨ (decide ((k : Int) < (n : Int)) = true ∧ decide ((k : Int) < 40) = false ∧ decide (k < n) = true ∧ decide (k < 40) = false ∧ k < n ∧ ¬ k < 40) := by
        by_cases h0 : k < n
        · have h4 : ¬ k < 40 := by have := HNd.out; omega
          exact Or.inr ⟨decide_eq_true (by omega), decide_eq_false (by omega), decide_eq_true h0, decide_eq_false h4, h0, h4⟩
        · exact Or.inl ⟨decide_eq_false (by omega), decide_eq_false h0, h0⟩
      clear hlt HNd
      rcases hways with ⟨t1, t2, t3⟩ | ⟨t1, t2, t3, t4, t5, t6⟩
      all_goals
        go_wp2_with fail
        with_reducible refine (Image_any g B (-1) wr HC.out).mono ?_
        rintro e w7 ⟨A7, c7, rfl, hO7, hN7⟩
        have HO7 := Lib.hid hO7
        have HC7 := Lib.hid (HC.out.new hN7)
        have HD7 := Lib.hid (HD.out.new hN7)
        have HL7 := Lib.hid (HL.out.keep hN7)
        have HN7 := Lib.hid (HN.out.then_new hN7)
        clear hO7 hN7
        go_wp2_with fail
        with_reducible refine (Load_any d nought B (-1) A7 512 c7 _ w7 HD7.out (own_arr_bs HC.out.len HO7.out) HC.out.len HC.out.small).mono ?_
        rintro e w8 ⟨rfl, hD8, hG8⟩
        rw [lB_same HC.out.len] at hD8
        rw [szE_same]
        have HD8 := Lib.hid hD8
        have HC8 := Lib.hid (HC7.out.chg hG8 Hdw.out.2.symm)
        have HL8 := Lib.hid (HL7.out.chg hG8 (fun h => Has.apart HL7.out HD7.out.has (by decide) h))
        have HN8 : Hid (New w w8) := HN7.out.trans hG8 (fun i hi h => by have := Hdw.out; omega)
        clear hD8 hG8
        go_wp2_with fail
        with_reducible refine (told_any g B (-1) w8 HC8.out Hr.out).mono ?_
        rintro e w9 ⟨E1, ec1, rfl, hO9, hN9⟩
        obtain ⟨l1, hl1⟩ : ∃ l1, l1 = (rdV B).es := ⟨_, rfl⟩
        rw [← hl1] at hO9 ⊢
        have Hl1 := Lib.hid hl1; clear hl1
        obtain ⟨n1, hn1⟩ : ∃ n1, n1 = l1.length := ⟨_, rfl⟩
        rw [← hn1] at hO9 ⊢
        have Hn1 := Lib.hid hn1; clear hn1
        obtain ⟨b1, hb1⟩ : ∃ b1, b1 = bodsI B l1 := ⟨_, rfl⟩
        rw [← hb1]
        have Hb1 := Lib.hid hb1; clear hb1
        have HO9 := Lib.hid hO9
        have HC9 := Lib.hid (HC8.out.new hN9)
        have HD9 := Lib.hid (HD8.out.new hN9)
        have HL9 := Lib.hid (HL8.out.keep hN9)
        have HN9 := Lib.hid (HN8.out.then_new hN9)
        have HB : Hid (∀ x ∈ B, x < 256) := HC.out.small
        clear hO9 hN9
        go_wp2_with fail
        with_reducible refine (pRead_any g B (-1) w9 HC9.out).mono ?_
        rintro e wa ⟨⟨E, ec, rfl, hOa⟩, hNa⟩
        obtain ⟨vc, vu, q, p, l, hV, hfn⟩ := rd_letters HC.out.small Hr.out
        rw [Hr.out, hV]
        rw [hV] at hOa
        simp only at hOa ⊢
        have HV := Lib.hid hV
        obtain ⟨ln, hln⟩ : ∃ ln, ln = l.length := ⟨_, rfl⟩
        rw [← hln] at hOa ⊢
        have Hln := Lib.hid hln
        have HOa := Lib.hid hOa
        have HO9a := Lib.hid (own_new HO9.out hNa)
        have HCa := Lib.hid (HC9.out.new hNa)
        have HDa := Lib.hid (HD9.out.new hNa)
        have HLa := Lib.hid (HL9.out.keep hNa)
        have HNa := Lib.hid (HN9.out.then_new hNa)
        clear hV hfn hln hOa hNa
        go_upto_region 19 with (fail)
        obtain ⟨vb, hvb⟩ : ∃ vb, vb = wa.heap.size := ⟨_, rfl⟩
        obtain ⟨wb, hwb⟩ : ∃ wb, wb = wa.alloc (.cells #[.int .i64 vc, .int .i64 vu, .int .i64 (q : Int), .int .i64 (p : Int), .slice E ln ec] 30) := ⟨_, rfl⟩
        have hNb : New wa wb := by rw [hwb]; exact (Chg.refl _ _).alloc _
        have HVb : Hid (Has wb vb 30 #[.int .i64 vc, .int .i64 vu, .int .i64 (q : Int), .int .i64 (p : Int), .slice E ln ec]) := by rw [hwb, hvb]; exact Has.new wa 30 _
        have Hvg : Hid (vb ≠ g ∧ vb ≠ d) := by have := HCa.out.lt; have := HDa.out.lt; show _ ∧ _; omega
        have HOb := Lib.hid (own_new HOa.out hNb)
        have HO9b := Lib.hid (own_new HO9a.out hNb)
        have HCb := Lib.hid (HCa.out.new hNb)
        have HDb := Lib.hid (HDa.out.new hNb)
        have HLb := Lib.hid (HLa.out.keep hNb)
        have HNb := Lib.hid (HNa.out.then_new hNb)
        rw [← hwb, ← hvb]
        clear hwb hvb hNb HOa HO9a HCa HDa HLa
        obtain ⟨⟨kq, hj, hj2⟩, hwj⟩ := turn_in pw 4 (by omega) (by omega)
        obtain ⟨a1, ha1⟩ : ∃ x, x = Int.tmod pw 4 + 4 := ⟨_, rfl⟩
        have ha2 : Int.tmod pw 4 + 4 = a1 := ha1.symm
        rw [← ha1] at hj hwj
        clear ha1
        go_wp2_with fail
        with_reducible refine (Power_any g B (-1) (kq : Int) wb HCb.out (by omega)).mono ?_
        rintro e wp ⟨rfl, hCp, hGp⟩
        have HCp := Lib.hid hCp
        have HDp := Lib.hid (HDb.out.chg hGp Hdw.out.2)
        have HLp := Lib.hid (HLb.out.chg hGp (fun h => Has.apart HLb.out HCb.out.has (by decide) h))
        have HVp := Lib.hid (HVb.out.chg hGp Hvg.out.1)
        have HOp := Lib.hid (own_chg HOb.out hGp (fun k hk h => own_apart HOb.out HCb.out.has (by decide) (by rw [hk, h])))
        have HO9p := Lib.hid (own_chg HO9b.out hGp (fun k hk h => own_apart HO9b.out HCb.out.has (by decide) (by rw [hk, h])))
        have HNp : Hid (New w wp) := HNb.out.trans hGp (fun i hi h => by have := Hgw.out; omega)
        clear hCp hGp hj hj2 hwj ha2
        have HKp : Hid (∀ wx, Chg (fun k => k = g ∨ k = d ∨ wp.heap.size ≤ k) wp wx → (wx.cell? ⟨lb, 0, none⟩ = some (.int .i64 ek) ∧ wx.cell? ⟨lb, 1, none⟩ = some (.int .i64 eo) ∧ wx.cell? ⟨lb, 2, none⟩ = some (.int .i64 ei) ∧ wx.cell? ⟨lb, 3, none⟩ = some (.int .i64 es) ∧ wx.cell? ⟨lb, 4, none⟩ = some (.slice D m dc)) ∧ (wx.cell? ⟨lb, 5, none⟩ = some (.bool yo)) ∧ wx.cell? ⟨vb, 0, none⟩ = some (.int .i64 vc) ∧ wx.cell? ⟨vb, 1, none⟩ = some (.int .i64 vu) ∧ wx.cell? ⟨vb, 2, none⟩ = some (.int .i64 (q : Int)) ∧ wx.cell? ⟨vb, 3, none⟩ = some (.int .i64 (p : Int)) ∧ wx.cell? ⟨vb, 4, none⟩ = some (.slice E ln ec)) := fun wx hx => by
          have h1 := HLp.out.chg hx (fun h => by
            rcases h with h | h | h
            · exact Has.apart HLp.out HCp.out.has (by decide) h
            · exact Has.apart HLp.out HDp.out.has (by decide) h
            · have := HLp.out.lt; omega)
          have h2 := HVp.out.chg hx (fun h => by have := Hvg.out; have := HVp.out.lt; omega)
          exact ⟨⟨(h1.cell 0).trans rfl, (h1.cell 1).trans rfl, (h1.cell 2).trans rfl, (h1.cell 3).trans rfl, (h1.cell 4).trans rfl⟩, (h1.cell 5).trans rfl, (h2.cell 0).trans rfl, (h2.cell 1).trans rfl, (h2.cell 2).trans rfl, (h2.cell 3).trans rfl, (h2.cell 4).trans rfl⟩
        have HEn : Hid (∀ wx, Chg (fun k => k = g ∨ k = d ∨ wp.heap.size ≤ k) wp wx → Ents wx (· < wx.heap.size) E l) := fun wx hx => fun j e he => by
          obtain ⟨b, hb, hbb, r⟩ := ((Ents.of_own HOp.out).chg hx (fun k hk => ⟨own_below HOp.out k hk, fun h => by
            rcases h with h | h | h
            · exact own_apart HOp.out HCp.out.has (by decide) (by rw [hk, h])
            · exact own_apart HOp.out HDp.out.has (by decide) (by rw [hk, h])
            · have := own_below HOp.out k hk; omega⟩)) j e he
          exact ⟨b, hb, Nat.lt_of_lt_of_le (own_below HOp.out _ hbb) hx.size, r⟩
        obtain ⟨⟨c0, c1, c2, c3, c4⟩, c5, v0, v1, v2, v3, v4⟩ := HKp.out wp (Chg.refl _ _)
        cases yo with
        | true =>
          go_wp2_with fail
          with_reducible refine (Drop_torn g B (kq : Int) vc vu eo ei q p E ln ec _ l wp B HCp.out rfl Hr.out HV.out (HEn.out wp (Chg.refl _ _)) (fun _ h => h) Hln.out.symm (own_nil HOp.out) (own_cap HOp.out)).mono ?_
          rintro e wq ⟨r, Bc, pc, rfl, hCq, hTq, hGq⟩
          have HMq : Hid (Chg (fun k => k = g ∨ k = d ∨ wp.heap.size ≤ k) wp wq) := hGq.mono fun _ _ h => Or.inl h
          have HCq := Lib.hid hCq
          have HTq := Lib.hid hTq
          have HDq := Lib.hid (HDp.out.chg hGq Hdw.out.2)
          have HO9q := Lib.hid (own_chg HO9p.out hGq (fun k hk h => own_apart HO9p.out HCp.out.has (by decide) (by rw [hk, h])))
          have HNq : Hid (New w wq) := HNp.out.trans hGq (fun i hi h => by have := Hgw.out; omega)
          clear hCq hTq hGq c0 c1 c2 c3 c4 c5 v0 v1 v2 v3 v4
          obtain ⟨⟨c0, c1, c2, c3, c4⟩, c5, v0, v1, v2, v3, v4⟩ := HKp.out wq HMq.out
          go_wp2_with fail
          with_reducible refine (Drop_torn d B (-1) vc vu eo ei q p E ln ec _ l wq B HDq.out rfl Hr.out HV.out (HEn.out wq HMq.out) (fun _ h => h) Hln.out.symm (own_nil HOp.out) (own_cap HOp.out)).mono ?_
          rintro e wz ⟨r2, Bd, pd, rfl, hDz, hTz, hGz⟩
          obtain ⟨e1, e2⟩ := hTz.1 rfl
          rw [e2] at hDz
          have HCz := Lib.hid (HCq.out.chg hGz (Ne.symm Hdw.out.2))
          have HDz := Lib.hid hDz
          have Hrc : Hid (rdE Bc = 0) := HTq.out.2.1
          have Hrd : Hid (rdE Bd = 0) := hTz.2.1
          have HTz : Hid (Bc = Bd ∨ (rdV Bc = rdV B ∧ bodsI Bc (rdV B).es = bodsI B (rdV B).es)) := by rw [e1]; exact HTq.out.2.2
          have HOz := Lib.hid (own_chg HO9q.out hGz (fun k hk h => own_apart HO9q.out HDq.out.has (by decide) (by rw [hk, h])))
          have HNz : Hid (New w wz) := HNq.out.trans hGz (fun i hi h => by have := Hdw.out; omega)
          clear hDz hTz hGz e1 e2 c0 c1 c2 c3 c4 c5 v0 v1 v2 v3 v4
          go_wp2_with fail
          with_reducible refine (told_any g Bc pc wz HCz.out Hrc.out).mono ?_
          rintro e wt ⟨E2, ec2, rfl, hO2, hNt⟩
          obtain ⟨l2, hl2⟩ : ∃ l2, l2 = (rdV Bc).es := ⟨_, rfl⟩
          rw [← hl2] at hO2 ⊢
          have Hl2 := Lib.hid hl2; clear hl2
          obtain ⟨n2, hn2⟩ : ∃ n2, n2 = l2.length := ⟨_, rfl⟩
          rw [← hn2] at hO2 ⊢
          have Hn2 := Lib.hid hn2; clear hn2
          obtain ⟨b2, hb2⟩ : ∃ b2, b2 = bodsI Bc l2 := ⟨_, rfl⟩
          rw [← hb2]
          have Hb2 := Lib.hid hb2; clear hb2
          have HO2 := Lib.hid hO2
          have HOt := Lib.hid (own_new HOz.out hNt)
          have HDt := Lib.hid (HDz.out.new hNt)
          have HNt := Lib.hid (HNz.out.then_new hNt)
          clear hO2 hNt
          go_wp2_with fail
          with_reducible refine (told_any d Bd (-1) wt HDt.out Hrd.out).mono ?_
          rintro e wu ⟨E3, ec3, rfl, hO3, hNu⟩
          obtain ⟨l3, hl3⟩ : ∃ l3, l3 = (rdV Bd).es := ⟨_, rfl⟩
          rw [← hl3] at hO3 ⊢
          have Hl3 := Lib.hid hl3; clear hl3
          obtain ⟨n3, hn3⟩ : ∃ n3, n3 = l3.length := ⟨_, rfl⟩
          rw [← hn3] at hO3 ⊢
          have Hn3 := Lib.hid hn3; clear hn3
          obtain ⟨b3, hb3⟩ : ∃ b3, b3 = bodsI Bd l3 := ⟨_, rfl⟩
          rw [← hb3]
          have Hb3 := Lib.hid hb3; clear hb3
          have HO3 := Lib.hid hO3
          have HO2u := Lib.hid (own_new HO2.out hNu)
          have HOu := Lib.hid (own_new HOt.out hNu)
          have HNu := Lib.hid (HNt.out.then_new hNu)
          clear hO3 hNu
          have HE1 : Hid (∀ wx, New wu wx → Ents wx (· < wx.heap.size) E1 l1) := fun wx hx => fun j e he => by
            obtain ⟨b, hb, hbb, r⟩ := ((Ents.of_own HOu.out).new hx (own_below HOu.out)) j e he
            exact ⟨b, hb, Nat.lt_of_lt_of_le (own_below HOu.out _ hbb) hx.size, r⟩
          have HE2 : Hid (∀ wx, New wu wx → Ents wx (· < wx.heap.size) E2 l2) := fun wx hx => fun j e he => by
            obtain ⟨b, hb, hbb, r⟩ := ((Ents.of_own HO2u.out).new hx (own_below HO2u.out)) j e he
            exact ⟨b, hb, Nat.lt_of_lt_of_le (own_below HO2u.out _ hbb) hx.size, r⟩
          have HE3 : Hid (∀ wx, New wu wx → Ents wx (· < wx.heap.size) E3 l3) := fun wx hx => fun j e he => by
            obtain ⟨b, hb, hbb, r⟩ := ((Ents.of_own HO3.out).new hx (own_below HO3.out)) j e he
            exact ⟨b, hb, Nat.lt_of_lt_of_le (own_below HO3.out _ hbb) hx.size, r⟩
          have Hn25 : Hid (n2 ≤ 1000) := by
            have h := (rd_fine HCz.out.small Hrc.out).len
            rw [← Hl2.out, ← Hn2.out] at h
            exact Nat.le_trans h (by decide)
          have HEa : Hid (∀ wx, New wu wx → Calls Try.prog 33 #[.slice E2 n2 ec2, .slice E1 n1 ec1] wx fun e w' => e = .returned (.bool (decide (l2 = l1))) ∧ New wx w') := fun wx hx => entries_any E2 E1 n2 ec2 n1 ec1 _ l2 l1 wx (HE2.out wx hx) (HE1.out wx hx) (fun _ h => h) Hn2.out.symm Hn1.out.symm Hn25.out
          have HEb : Hid (∀ wx, New wu wx → Calls Try.prog 33 #[.slice E2 n2 ec2, .slice E3 n3 ec3] wx fun e w' => e = .returned (.bool (decide (l2 = l3))) ∧ New wx w') := fun wx hx => entries_any E2 E3 n2 ec2 n3 ec3 _ l2 l3 wx (HE2.out wx hx) (HE3.out wx hx) (fun _ h => h) Hn2.out.symm Hn3.out.symm Hn25.out
          have Hsm : Hid ((∀ x ∈ b1, x < 256) ∧ ∀ x ∈ b2, x < 256) := by
            refine ⟨?_, ?_⟩
            · rw [Hb1.out]; exact bods_small HB.out _
            · rw [Hb2.out]; exact bods_small HCz.out.small _
          have Hw : Hid ((l2 = l1 ∧ b2 = b1) ∨ (l2 = l3 ∧ b2 = b3)) := by
            rcases HTz.out with h | ⟨h1, h2⟩
            · right
              rw [Hl2.out, Hl3.out, Hb2.out, Hb3.out, h, Hl2.out, Hl3.out, h]
              exact ⟨rfl, rfl⟩
            · left
              have h3 : l2 = l1 := by rw [Hl2.out, Hl1.out, h1]
              refine ⟨h3, ?_⟩
              rw [Hb2.out, Hb1.out, h3, Hl1.out]
              exact h2
          by_cases hA1 : l2 = l1
          · by_cases hA2 : b2 = b1
            · have t1 := decide_eq_true hA1
              subst hA2
              go_wp2_with fail
              with_reducible refine (HEa.out wu (Chg.refl _ _)).mono ?_
              rintro e wv ⟨rfl, hNv⟩
              rw [t1]
              have HNv := Lib.hid (HNu.out.then_new hNv); clear hNv
              go_wp2_with fail
              go_ret
              exact ⟨by simp, HNv.out⟩
            · have t1 := decide_eq_true hA1
              have h3 : l2 = l3 ∧ b2 = b3 := by
                rcases Hw.out with h | h
                · exact absurd h.2 hA2
                · exact h
              have t2 := decide_eq_true h3.1
              have hne := bstr_ne Hsm.out.2 Hsm.out.1 hA2
              have H3 := Lib.hid h3.2
              clear h3 hA1 hA2
              rw [← H3.out]
              go_wp2_with fail
              with_reducible refine (HEa.out wu (Chg.refl _ _)).mono ?_
              rintro e wv ⟨rfl, hNv⟩
              rw [t1]
              have HMv := Lib.hid hNv
              have HNv := Lib.hid (HNu.out.then_new hNv); clear hNv
              go_wp2_with fail
              with_reducible refine (HEb.out wv HMv.out).mono ?_
              rintro e wy ⟨rfl, hNy⟩
              rw [t2]
              have HNy := Lib.hid (HNv.out.then_new hNy); clear hNy
              go_wp2_with fail
              go_ret
              exact ⟨by simp, HNy.out⟩
          · have t1 := decide_eq_false hA1
            have h3 : l2 = l3 ∧ b2 = b3 := by
              rcases Hw.out with h | h
              · exact absurd h.1 hA1
              · exact h
            have t2 := decide_eq_true h3.1
            have H3 := Lib.hid h3.2
            clear h3 hA1
            rw [← H3.out]
            go_wp2_with fail
            with_reducible refine (HEa.out wu (Chg.refl _ _)).mono ?_
            rintro e wv ⟨rfl, hNv⟩
            rw [t1]
            have HMv := Lib.hid hNv
            have HNv := Lib.hid (HNu.out.then_new hNv); clear hNv
            go_wp2_with fail
            with_reducible refine (HEb.out wv HMv.out).mono ?_
            rintro e wy ⟨rfl, hNy⟩
            rw [t2]
            have HNy := Lib.hid (HNv.out.then_new hNy); clear hNy
            go_wp2_with fail
            go_ret
            exact ⟨by simp, HNy.out⟩
        | false =>
          have HMp : Hid (Chg (fun k => k = g ∨ k = d ∨ wp.heap.size ≤ k) wp wp) := Chg.refl _ _
          go_upto_region 24 with (fail)
          have HKc : Hid (∀ wx, Chg (fun k => k = g ∨ wp.heap.size ≤ k) wp wx → (wx.cell? ⟨lb, 0, none⟩ = some (.int .i64 ek) ∧ wx.cell? ⟨lb, 1, none⟩ = some (.int .i64 eo) ∧ wx.cell? ⟨lb, 2, none⟩ = some (.int .i64 ei) ∧ wx.cell? ⟨lb, 3, none⟩ = some (.int .i64 es) ∧ wx.cell? ⟨lb, 4, none⟩ = some (.slice D m dc)) ∧ (wx.cell? ⟨lb, 5, none⟩ = some (.bool false)) ∧ wx.cell? ⟨vb, 0, none⟩ = some (.int .i64 vc) ∧ wx.cell? ⟨vb, 1, none⟩ = some (.int .i64 vu) ∧ wx.cell? ⟨vb, 2, none⟩ = some (.int .i64 (q : Int)) ∧ wx.cell? ⟨vb, 3, none⟩ = some (.int .i64 (p : Int)) ∧ wx.cell? ⟨vb, 4, none⟩ = some (.slice E ln ec)) := fun wx hx => HKp.out wx (HMp.out.trans hx (fun i hi h => by rcases h with h | h; (first | exact Or.inl h | exact Or.inr (Or.inl h)); (have := HMp.out.size; exact Or.inr (Or.inr (by omega)))))
          have HStc : Hid (∀ (wx : World) (A9 : Option Addr) (c9 : Nat), New wp wx → wx.ownsRow w.heap.size 5 1 (.slice A9 m c9) m (bs.map bV) → Calls Try.prog 30 #[.pointer (some ⟨g, 0, none⟩), .agg #[.int .i64 vc, .int .i64 vu, .int .i64 (q : Int), .int .i64 (p : Int), .slice E ln ec], .agg #[.int .i64 ek, .int .i64 eo, .int .i64 ei, .int .i64 es], .slice A9 m c9] wx fun e w' => ∃ r Bc pw', e = .returned r ∧ Cd w' g Bc pw' ∧ TornTo B (stB B ⟨ek, eo, ei, es⟩ bs) (kq : Int) Bc pw' ∧ Chg (· = g) wx w') := fun wx A9 c9 hx hO =>
            Store_torn g B (kq : Int) vc vu ek eo ei es q p E ln ec (· < wx.heap.size) l A9 m c9 bs wx B (HCp.out.new hx) rfl Hr.out HV.out (HEn.out wx (HMp.out.trans hx (fun _ _ h => h.elim))) (fun _ h => h) Hln.out.symm (own_nil HOp.out) ((own_arr_bs (own_length hO) hO).mono (own_below hO)) (own_length hO) Hy.out.2.2.1
          go_region_held_law (fun wx => (wx.cell? ⟨lb, 0, none⟩ = some (.int .i64 ek) ∧ wx.cell? ⟨lb, 1, none⟩ = some (.int .i64 eo) ∧ wx.cell? ⟨lb, 2, none⟩ = some (.int .i64 ei) ∧ wx.cell? ⟨lb, 3, none⟩ = some (.int .i64 es) ∧ wx.cell? ⟨lb, 4, none⟩ = some (.slice D m dc)) ∧ (wx.cell? ⟨lb, 5, none⟩ = some (.bool false)) ∧ wx.cell? ⟨vb, 0, none⟩ = some (.int .i64 vc) ∧ wx.cell? ⟨vb, 1, none⟩ = some (.int .i64 vu) ∧ wx.cell? ⟨vb, 2, none⟩ = some (.int .i64 (q : Int)) ∧ wx.cell? ⟨vb, 3, none⟩ = some (.int .i64 (p : Int)) ∧ wx.cell? ⟨vb, 4, none⟩ = some (.slice E ln ec))
            (with_reducible refine HKc.out _ ?_; first | exact HHc.out | exact HGc.out | exact (by with_reducible repeat (first | exact Chg.refl _ _ | refine Chg.alloc ?_ _ | refine Chg.drew ?_)))
            (first
              | (refine step_copy (wX := w) (by kernel_rfl) (HNp.out.then_new (by ((with_reducible repeat (first | exact Chg.refl _ _ | refine Chg.alloc ?_ _ | refine Chg.drew ?_)); fail_if_success (have := True.intro)))) (.tmp 151) (.tmp 153) rfl wp.heap.size rfl (by ((with_reducible repeat (first | exact Has.new_at _ _ _ _ rfl | refine Has.drew ?_)); fail_if_success (have := True.intro))) HNp.out.size D m dc bs (· < w.heap.size) rfl (Hy.out.1.new (HNp.out.then_new (by ((with_reducible repeat (first | exact Chg.refl _ _ | refine Chg.alloc ?_ _ | refine Chg.drew ?_)); fail_if_success (have := True.intro)))) (fun _ h => h)) Hy.out.2.1 Hy.out.2.2.2.1 (by have := Hy.out.2.2.2.2.1; omega) ?_
                 intro A9 c9 w9 hO9 hN9 hC9
                 have hM9 : Chg (fun k => wp.heap.size ≤ k) wp w9 := (Chg.of_new (by with_reducible repeat (first | exact Chg.refl _ _ | refine Chg.alloc ?_ _ | refine Chg.drew ?_))).trans hC9 (fun i _ h => by omega)
                 have HM9 : Hid (New wp w9) := hM9.mono fun i hi h => by omega
                 have HGc : Hid (Chg (fun k => k = g ∨ wp.heap.size ≤ k) wp w9) := hM9.mono fun _ _ h => Or.inr h
                 have HO9 := Lib.hid hO9
                 clear hO9 hN9 hC9 hM9)
              | (go_at_call 30; (with_reducible refine (HStc.out w9 A9 c9 HM9.out HO9.out).mono ?_); rintro e wq ⟨r, Bc, pc, rfl, hCx, hTx, hGx⟩
                 have hMx : Chg (· = g) wp wq := Chg.new_then HM9.out hGx
                 have HHc : Hid (Chg (fun k => k = g ∨ wp.heap.size ≤ k) wp wq) := hMx.mono fun _ _ h => Or.inl h
                 have HMc := Lib.hid hMx
                 have HCc := Lib.hid hCx
                 have HTc := Lib.hid hTx
                 clear hCx hTx hGx hMx))
          all_goals
            have HMq : Hid (Chg (fun k => k = g ∨ k = d ∨ wp.heap.size ≤ k) wp wq) := HMc.out.mono fun _ _ h => Or.inl h
            have HDq := Lib.hid (HDp.out.chg HMc.out Hdw.out.2)
            have HO9q := Lib.hid (own_chg HO9p.out HMc.out (fun k hk h => own_apart HO9p.out HCp.out.has (by decide) (by rw [hk, h])))
            have HNq : Hid (New w wq) := HNp.out.trans HMc.out (fun i hi h => by have := Hgw.out; omega)
            clear c0 c1 c2 c3 c4 c5 v0 v1 v2 v3 v4
            obtain ⟨⟨c0, c1, c2, c3, c4⟩, c5, v0, v1, v2, v3, v4⟩ := HKp.out wq HMq.out
            go_upto_region 25 with (fail)
            have HKd : Hid (∀ wx, Chg (fun k => k = d ∨ wq.heap.size ≤ k) wq wx → (wx.cell? ⟨lb, 0, none⟩ = some (.int .i64 ek) ∧ wx.cell? ⟨lb, 1, none⟩ = some (.int .i64 eo) ∧ wx.cell? ⟨lb, 2, none⟩ = some (.int .i64 ei) ∧ wx.cell? ⟨lb, 3, none⟩ = some (.int .i64 es) ∧ wx.cell? ⟨lb, 4, none⟩ = some (.slice D m dc)) ∧ (wx.cell? ⟨lb, 5, none⟩ = some (.bool false)) ∧ wx.cell? ⟨vb, 0, none⟩ = some (.int .i64 vc) ∧ wx.cell? ⟨vb, 1, none⟩ = some (.int .i64 vu) ∧ wx.cell? ⟨vb, 2, none⟩ = some (.int .i64 (q : Int)) ∧ wx.cell? ⟨vb, 3, none⟩ = some (.int .i64 (p : Int)) ∧ wx.cell? ⟨vb, 4, none⟩ = some (.slice E ln ec)) := fun wx hx => HKp.out wx (HMq.out.trans hx (fun i hi h => by rcases h with h | h; (first | exact Or.inl h | exact Or.inr (Or.inl h)); (have := HMq.out.size; exact Or.inr (Or.inr (by omega)))))
            have HStd : Hid (∀ (wx : World) (A9 : Option Addr) (c9 : Nat), New wq wx → wx.ownsRow w.heap.size 5 1 (.slice A9 m c9) m (bs.map bV) → Calls Try.prog 30 #[.pointer (some ⟨d, 0, none⟩), .agg #[.int .i64 vc, .int .i64 vu, .int .i64 (q : Int), .int .i64 (p : Int), .slice E ln ec], .agg #[.int .i64 ek, .int .i64 eo, .int .i64 ei, .int .i64 es], .slice A9 m c9] wx fun e w' => ∃ r Bc pw', e = .returned r ∧ Cd w' d Bc pw' ∧ TornTo B (stB B ⟨ek, eo, ei, es⟩ bs) (-1) Bc pw' ∧ Chg (· = d) wx w') := fun wx A9 c9 hx hO =>
              Store_torn d B (-1) vc vu ek eo ei es q p E ln ec (· < wx.heap.size) l A9 m c9 bs wx B (HDq.out.new hx) rfl Hr.out HV.out (HEn.out wx (HMq.out.trans hx (fun _ _ h => h.elim))) (fun _ h => h) Hln.out.symm (own_nil HOp.out) ((own_arr_bs (own_length hO) hO).mono (own_below hO)) (own_length hO) Hy.out.2.2.1
            go_region_held_law (fun wx => (wx.cell? ⟨lb, 0, none⟩ = some (.int .i64 ek) ∧ wx.cell? ⟨lb, 1, none⟩ = some (.int .i64 eo) ∧ wx.cell? ⟨lb, 2, none⟩ = some (.int .i64 ei) ∧ wx.cell? ⟨lb, 3, none⟩ = some (.int .i64 es) ∧ wx.cell? ⟨lb, 4, none⟩ = some (.slice D m dc)) ∧ (wx.cell? ⟨lb, 5, none⟩ = some (.bool false)) ∧ wx.cell? ⟨vb, 0, none⟩ = some (.int .i64 vc) ∧ wx.cell? ⟨vb, 1, none⟩ = some (.int .i64 vu) ∧ wx.cell? ⟨vb, 2, none⟩ = some (.int .i64 (q : Int)) ∧ wx.cell? ⟨vb, 3, none⟩ = some (.int .i64 (p : Int)) ∧ wx.cell? ⟨vb, 4, none⟩ = some (.slice E ln ec))
              (with_reducible refine HKd.out _ ?_; first | exact HHd.out | exact HGd.out | exact (by with_reducible repeat (first | exact Chg.refl _ _ | refine Chg.alloc ?_ _ | refine Chg.drew ?_)))
              (first
                | (refine step_copy (wX := w) (by kernel_rfl) (HNq.out.then_new (by ((with_reducible repeat (first | exact Chg.refl _ _ | refine Chg.alloc ?_ _ | refine Chg.drew ?_)); fail_if_success (have := True.intro)))) (.tmp 160) (.tmp 162) rfl wq.heap.size rfl (by ((with_reducible repeat (first | exact Has.new_at _ _ _ _ rfl | refine Has.drew ?_)); fail_if_success (have := True.intro))) HNq.out.size D m dc bs (· < w.heap.size) rfl (Hy.out.1.new (HNq.out.then_new (by ((with_reducible repeat (first | exact Chg.refl _ _ | refine Chg.alloc ?_ _ | refine Chg.drew ?_)); fail_if_success (have := True.intro)))) (fun _ h => h)) Hy.out.2.1 Hy.out.2.2.2.1 (by have := Hy.out.2.2.2.2.1; omega) ?_
                   intro A9 c9 w9 hO9 hN9 hC9
                   have hM9 : Chg (fun k => wq.heap.size ≤ k) wq w9 := (Chg.of_new (by with_reducible repeat (first | exact Chg.refl _ _ | refine Chg.alloc ?_ _ | refine Chg.drew ?_))).trans hC9 (fun i _ h => by omega)
                   have HM9 : Hid (New wq w9) := hM9.mono fun i hi h => by omega
                   have HGd : Hid (Chg (fun k => k = d ∨ wq.heap.size ≤ k) wq w9) := hM9.mono fun _ _ h => Or.inr h
                   have HO9 := Lib.hid hO9
                   clear hO9 hN9 hC9 hM9)
                | (go_at_call 30; (with_reducible refine (HStd.out w9 A9 c9 HM9.out HO9.out).mono ?_); rintro e wz ⟨r, Bd, pd, rfl, hCx, hTx, hGx⟩
                   have hMx : Chg (· = d) wq wz := Chg.new_then HM9.out hGx
                   have HHd : Hid (Chg (fun k => k = d ∨ wq.heap.size ≤ k) wq wz) := hMx.mono fun _ _ h => Or.inl h
                   have HMd := Lib.hid hMx
                   have HCd := Lib.hid hCx
                   have HTd := Lib.hid hTx
                   clear hCx hTx hGx hMx))
            all_goals
              obtain ⟨e1, e2⟩ := HTd.out.1 rfl
              have hDz := HCd.out
              rw [e2] at hDz
              have HCz := Lib.hid (HCc.out.chg HMd.out (Ne.symm Hdw.out.2))
              have HDz := Lib.hid hDz
              have Hrc : Hid (rdE Bc = 0) := HTc.out.2.1
              have Hrd : Hid (rdE Bd = 0) := HTd.out.2.1
              have HTz : Hid (Bc = Bd ∨ (rdV Bc = rdV B ∧ bodsI Bc (rdV B).es = bodsI B (rdV B).es)) := by rw [e1]; exact HTc.out.2.2
              have HOz := Lib.hid (own_chg HO9q.out HMd.out (fun k hk h => own_apart HO9q.out HDq.out.has (by decide) (by rw [hk, h])))
              have HNz : Hid (New w wz) := HNq.out.trans HMd.out (fun i hi h => by have := Hdw.out; omega)
              clear hDz e1 e2 c0 c1 c2 c3 c4 c5 v0 v1 v2 v3 v4
              go_wp2_with fail
              with_reducible refine (told_any g Bc pc wz HCz.out Hrc.out).mono ?_
              rintro e wt ⟨E2, ec2, rfl, hO2, hNt⟩
              obtain ⟨l2, hl2⟩ : ∃ l2, l2 = (rdV Bc).es := ⟨_, rfl⟩
              rw [← hl2] at hO2 ⊢
              have Hl2 := Lib.hid hl2; clear hl2
              obtain ⟨n2, hn2⟩ : ∃ n2, n2 = l2.length := ⟨_, rfl⟩
              rw [← hn2] at hO2 ⊢
              have Hn2 := Lib.hid hn2; clear hn2
              obtain ⟨b2, hb2⟩ : ∃ b2, b2 = bodsI Bc l2 := ⟨_, rfl⟩
              rw [← hb2]
              have Hb2 := Lib.hid hb2; clear hb2
              have HO2 := Lib.hid hO2
              have HOt := Lib.hid (own_new HOz.out hNt)
              have HDt := Lib.hid (HDz.out.new hNt)
              have HNt := Lib.hid (HNz.out.then_new hNt)
              clear hO2 hNt
              go_wp2_with fail
              with_reducible refine (told_any d Bd (-1) wt HDt.out Hrd.out).mono ?_
              rintro e wu ⟨E3, ec3, rfl, hO3, hNu⟩
              obtain ⟨l3, hl3⟩ : ∃ l3, l3 = (rdV Bd).es := ⟨_, rfl⟩
              rw [← hl3] at hO3 ⊢
              have Hl3 := Lib.hid hl3; clear hl3
              obtain ⟨n3, hn3⟩ : ∃ n3, n3 = l3.length := ⟨_, rfl⟩
              rw [← hn3] at hO3 ⊢
              have Hn3 := Lib.hid hn3; clear hn3
              obtain ⟨b3, hb3⟩ : ∃ b3, b3 = bodsI Bd l3 := ⟨_, rfl⟩
              rw [← hb3]
              have Hb3 := Lib.hid hb3; clear hb3
              have HO3 := Lib.hid hO3
              have HO2u := Lib.hid (own_new HO2.out hNu)
              have HOu := Lib.hid (own_new HOt.out hNu)
              have HNu := Lib.hid (HNt.out.then_new hNu)
              clear hO3 hNu
              have HE1 : Hid (∀ wx, New wu wx → Ents wx (· < wx.heap.size) E1 l1) := fun wx hx => fun j e he => by
                obtain ⟨b, hb, hbb, r⟩ := ((Ents.of_own HOu.out).new hx (own_below HOu.out)) j e he
                exact ⟨b, hb, Nat.lt_of_lt_of_le (own_below HOu.out _ hbb) hx.size, r⟩
              have HE2 : Hid (∀ wx, New wu wx → Ents wx (· < wx.heap.size) E2 l2) := fun wx hx => fun j e he => by
                obtain ⟨b, hb, hbb, r⟩ := ((Ents.of_own HO2u.out).new hx (own_below HO2u.out)) j e he
                exact ⟨b, hb, Nat.lt_of_lt_of_le (own_below HO2u.out _ hbb) hx.size, r⟩
              have HE3 : Hid (∀ wx, New wu wx → Ents wx (· < wx.heap.size) E3 l3) := fun wx hx => fun j e he => by
                obtain ⟨b, hb, hbb, r⟩ := ((Ents.of_own HO3.out).new hx (own_below HO3.out)) j e he
                exact ⟨b, hb, Nat.lt_of_lt_of_le (own_below HO3.out _ hbb) hx.size, r⟩
              have Hn25 : Hid (n2 ≤ 1000) := by
                have h := (rd_fine HCz.out.small Hrc.out).len
                rw [← Hl2.out, ← Hn2.out] at h
                exact Nat.le_trans h (by decide)
              have HEa : Hid (∀ wx, New wu wx → Calls Try.prog 33 #[.slice E2 n2 ec2, .slice E1 n1 ec1] wx fun e w' => e = .returned (.bool (decide (l2 = l1))) ∧ New wx w') := fun wx hx => entries_any E2 E1 n2 ec2 n1 ec1 _ l2 l1 wx (HE2.out wx hx) (HE1.out wx hx) (fun _ h => h) Hn2.out.symm Hn1.out.symm Hn25.out
              have HEb : Hid (∀ wx, New wu wx → Calls Try.prog 33 #[.slice E2 n2 ec2, .slice E3 n3 ec3] wx fun e w' => e = .returned (.bool (decide (l2 = l3))) ∧ New wx w') := fun wx hx => entries_any E2 E3 n2 ec2 n3 ec3 _ l2 l3 wx (HE2.out wx hx) (HE3.out wx hx) (fun _ h => h) Hn2.out.symm Hn3.out.symm Hn25.out
              have Hsm : Hid ((∀ x ∈ b1, x < 256) ∧ ∀ x ∈ b2, x < 256) := by
                refine ⟨?_, ?_⟩
                · rw [Hb1.out]; exact bods_small HB.out _
                · rw [Hb2.out]; exact bods_small HCz.out.small _
              have Hw : Hid ((l2 = l1 ∧ b2 = b1) ∨ (l2 = l3 ∧ b2 = b3)) := by
                rcases HTz.out with h | ⟨h1, h2⟩
                · right
                  rw [Hl2.out, Hl3.out, Hb2.out, Hb3.out, h, Hl2.out, Hl3.out, h]
                  exact ⟨rfl, rfl⟩
                · left
                  have h3 : l2 = l1 := by rw [Hl2.out, Hl1.out, h1]
                  refine ⟨h3, ?_⟩
                  rw [Hb2.out, Hb1.out, h3, Hl1.out]
                  exact h2
              by_cases hA1 : l2 = l1
              · by_cases hA2 : b2 = b1
                · have t1 := decide_eq_true hA1
                  subst hA2
                  go_wp2_with fail
                  with_reducible refine (HEa.out wu (Chg.refl _ _)).mono ?_
                  rintro e wv ⟨rfl, hNv⟩
                  rw [t1]
                  have HNv := Lib.hid (HNu.out.then_new hNv); clear hNv
                  go_wp2_with fail
                  go_ret
                  exact ⟨by simp, HNv.out⟩
                · have t1 := decide_eq_true hA1
                  have h3 : l2 = l3 ∧ b2 = b3 := by
                    rcases Hw.out with h | h
                    · exact absurd h.2 hA2
                    · exact h
                  have t2 := decide_eq_true h3.1
                  have hne := bstr_ne Hsm.out.2 Hsm.out.1 hA2
                  have H3 := Lib.hid h3.2
                  clear h3 hA1 hA2
                  rw [← H3.out]
                  go_wp2_with fail
                  with_reducible refine (HEa.out wu (Chg.refl _ _)).mono ?_
                  rintro e wv ⟨rfl, hNv⟩
                  rw [t1]
                  have HMv := Lib.hid hNv
                  have HNv := Lib.hid (HNu.out.then_new hNv); clear hNv
                  go_wp2_with fail
                  with_reducible refine (HEb.out wv HMv.out).mono ?_
                  rintro e wy ⟨rfl, hNy⟩
                  rw [t2]
                  have HNy := Lib.hid (HNv.out.then_new hNy); clear hNy
                  go_wp2_with fail
                  go_ret
                  exact ⟨by simp, HNy.out⟩
              · have t1 := decide_eq_false hA1
                have h3 : l2 = l3 ∧ b2 = b3 := by
                  rcases Hw.out with h | h
                  · exact absurd h.1 hA1
                  · exact h
                have t2 := decide_eq_true h3.1
                have H3 := Lib.hid h3.2
                clear h3 hA1
                rw [← H3.out]
                go_wp2_with fail
                with_reducible refine (HEa.out wu (Chg.refl _ _)).mono ?_
                rintro e wv ⟨rfl, hNv⟩
                rw [t1]
                have HMv := Lib.hid hNv
                have HNv := Lib.hid (HNu.out.then_new hNv); clear hNv
                go_wp2_with fail
                with_reducible refine (HEb.out wv HMv.out).mono ?_
                rintro e wy ⟨rfl, hNy⟩
                rw [t2]
                have HNy := Lib.hid (HNv.out.then_new hNy); clear hNy
                go_wp2_with fail
                go_ret
                exact ⟨by simp, HNy.out⟩
end Go.Proofs.Ytjkpijinpfimiaa
