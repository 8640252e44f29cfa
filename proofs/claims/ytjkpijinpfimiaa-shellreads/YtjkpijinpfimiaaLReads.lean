/-
  ShellReads, walked: whatever bytes a card has, Read, Body, At and Free tell what the document says.
-/
import Derived.Test.YtjkpijinpfimiaaAw7
namespace Go.Proofs.Ytjkpijinpfimiaa
open Go.RowKit
theorem cut_body (b s : Nat) (hs : s < 6) (wy : World) : (Instr.slice 22 (.slice (some ⟨b, 0, none⟩) 512 512) (some (.int .i64 (96 + 64 * (s : Int)))) (some (.int .i64 (160 + 64 * (s : Int)))) none).run Try.prog wy = .ok (.slice (some ⟨b, 96 + 64 * s, none⟩) 64 (512 - (96 + 64 * s))) wy := by
  have h := slice_cut ⟨b, 0, none⟩ 512 512 (96 + 64 * s) (160 + 64 * s) (by omega) (by omega) (by omega) wy
  rw [show ((96 + 64 * s : Nat) : Int) = 96 + 64 * (s : Int) by omega, show ((160 + 64 * s : Nat) : Int) = 160 + 64 * (s : Int) by omega, show 160 + 64 * s - (96 + 64 * s) = 64 by omega] at h
  have hadd : (⟨b, 0, none⟩ : Addr).add (96 + 64 * s) = ⟨b, 96 + 64 * s, none⟩ := by unfold Addr.add; rw [if_neg (by omega)]; simp
  rw [hadd] at h
  exact h
theorem body_cut (P : List Nat) (s : Nat) : (P.drop (96 + 64 * s)).take 64 = bodyI P s := by
  unfold bodyI sec
  rw [show 32 * (3 + 2 * s) = 96 + 64 * s by omega, show 32 * (4 + 2 * s) = 96 + 64 * s + 32 by omega, show (64 : Nat) = 32 + 32 from rfl, List.take_add, List.drop_drop]
theorem Row.body {w : World} {b : Nat} {P : List Nat} (h : Row w b P) (hl : P.length = 512) (hP : ∀ x ∈ P, x < 256) {s : Nat} (hs : s < 6) : (convert 22 9 (.slice (some ⟨b, 96 + 64 * s, none⟩) 64 (512 - (96 + 64 * s)))).run Try.prog w = .ok (.string (bstr (bodyI P s))) w := by
  have hA := Arr.cut (l := 96 + 64 * s) (m := 64) (h.arr hl) (by omega)
  have hadd : (⟨b, 0, none⟩ : Addr).add (96 + 64 * s) = ⟨b, 96 + 64 * s, none⟩ := by unfold Addr.add; rw [if_neg (by omega)]; simp
  rw [hadd, body_cut P s] at hA
  refine arr_string Try.underlying22 Try.underlying5 Try.underlying9 hA ?_ ?_ (fun h => by cases h)
  · unfold bodyI; rw [List.length_append, sec_len hl (by omega), sec_len hl (by omega)]
  · intro x hx
    rcases List.mem_append.1 hx with hx | hx
    · exact sec_small hP x hx
    · exact sec_small hP x hx
set_option maxRecDepth 100000 in
set_option maxHeartbeats 16000000 in
theorem reads_walk (A : Option Addr) (n c : Nat) (bs : List Nat) (o i sl : Int) (w : World) (hA : Arr w (· < w.heap.size) A n (fun i => bV (bs.getD i 0))) (hl : bs.length = n) (h256 : ∀ x ∈ bs, x < 256) (hnil : A = none → n = 0 ∧ c = 0) :
    Calls Try.prog 3 #[.agg #[.slice A n c, .int .i64 o, .int .i64 i, .int .i64 sl]] w fun e w' => e = .returned (.bool true) ∧ New w w' := by
  have HA := Lib.hid hA; clear hA
  have Hl := Lib.hid hl; clear hl
  have H256 := Lib.hid h256; clear h256
  have Hnil := Lib.hid hnil; clear hnil
  obtain ⟨P, hP⟩ : ∃ P, P = pad 512 bs := ⟨_, rfl⟩
  have HPl : Hid (P.length = 512) := by rw [hP]; exact pad_len 512 bs
  have HPs : Hid (∀ x ∈ P, x < 256) := by rw [hP]; exact pad_small 512 bs H256.out
  have HIg : Hid (∀ wx, New w wx → Calls Try.prog 12 #[.slice A n c] wx fun e w' => ∃ g, e = .returned (.slice (some ⟨g, 0, none⟩) 512 512) ∧ Row w' g P ∧ New wx w') := fun wx hx => by
    rw [hP]
    exact (image_any A n c _ bs wx (HA.out.new hx (fun _ h => h)) (fun k hk => Nat.lt_of_lt_of_le hk hx.size) Hl.out).mono (by rintro e w' ⟨g, rfl, _, hR, hN⟩; exact ⟨g, rfl, hR, hN⟩)
  have HLd : Hid (∀ wx, New w wx → Calls Try.prog 9 #[.slice A n c] wx fun e w' => ∃ g, e = .returned (.pointer (some ⟨g, 0, none⟩)) ∧ Cd w' g P (-1) ∧ New wx w') := fun wx hx => by
    rw [hP]
    exact (loaded_any A n c _ bs wx (HA.out.new hx (fun _ h => h)) (fun k hk => Nat.lt_of_lt_of_le hk hx.size) Hl.out H256.out).mono (by rintro e w' ⟨g, rfl, _, hR, hN⟩; exact ⟨g, rfl, hR, hN⟩)
  clear hP HA Hl H256 Hnil
  obtain ⟨lb, hlb⟩ : ∃ lb, lb = w.heap.size := ⟨_, rfl⟩
  go_enter Try.func3, Try.ntmps3
  go_upto_region 1 with (fail)
  obtain ⟨w1, hw1⟩ : ∃ w1, w1 = w.alloc (.cells #[.slice A n c, .int .i64 o, .int .i64 i, .int .i64 sl] 24) := ⟨_, rfl⟩
  have HB1 : Hid (Has w1 lb 24 #[.slice A n c, .int .i64 o, .int .i64 i, .int .i64 sl]) := by rw [hw1, hlb]; exact Has.new w 24 _
  have HN1 : Hid (New w w1) := by rw [hw1]; exact (Chg.refl _ _).alloc _
  rw [← hw1, ← hlb]
  clear hw1 hlb
  have l0 : w1.cell? ⟨lb, 0, none⟩ = some (.slice A n c) := (HB1.out.cell 0).trans rfl
  have l1 : w1.cell? ⟨lb, 1, none⟩ = some (.int .i64 o) := (HB1.out.cell 1).trans rfl
  have l2 : w1.cell? ⟨lb, 2, none⟩ = some (.int .i64 i) := (HB1.out.cell 2).trans rfl
  have l3 : w1.cell? ⟨lb, 3, none⟩ = some (.int .i64 sl) := (HB1.out.cell 3).trans rfl
  go_quiet (fail)
  obtain ⟨w2, hw2⟩ : ∃ w2, w2 = w1.drewN nq := ⟨_, rfl⟩
  have HN2 : Hid (New w w2) := by rw [hw2]; exact HN1.out.drewN _
  rw [← hw2]
  clear hw2 l0 l1 l2 l3 HB1
  go_wp2_with fail
  with_reducible refine (awake_any w2).mono ?_
  rintro e w3 ⟨rfl, hN3⟩
  have HN3 := Lib.hid (HN2.out.then_new hN3); clear hN3
  go_wp2_with fail
  with_reducible refine (HLd.out w3 HN3.out).mono ?_
  rintro e w4 ⟨g, rfl, hC4, hN4⟩
  have HC4 := Lib.hid hC4
  have HN4 := Lib.hid (HN3.out.then_new hN4)
  clear hC4 hN4
  go_wp2_with fail
  with_reducible refine (pRead_any g P (-1) w4 HC4.out).mono ?_
  rintro e w5 ⟨⟨E1, ec1, rfl, hO5⟩, hN5⟩
  obtain ⟨R, hR⟩ : ∃ R, R = rdE P := ⟨_, rfl⟩
  have HRe := Lib.hid hR
  rw [← hR]
  clear hR
  obtain ⟨V, hV⟩ : ∃ V, V = rdV P := ⟨_, rfl⟩
  have HVe := Lib.hid hV
  rw [← hV] at hO5 ⊢
  clear hV
  have Hn5 : Hid (V.es.length ≤ 5) := by
    rw [HVe.out]
    by_cases h : rdE P = 0
    · exact (rd_fine HPs.out h).len
    · have : rdV P = noV := by unfold rdV; rw [if_neg h]
      rw [this]; exact Nat.zero_le _
  cases V with
  | mk x0 x1 x2 x3 es =>
  simp only at hO5 Hn5 ⊢
  obtain ⟨en, hen⟩ : ∃ en, en = es.length := ⟨_, rfl⟩
  rw [← hen] at hO5 Hn5 ⊢
  have Hen := Lib.hid hen; clear hen
  have hn5 : en ≤ 5 := Hn5.out
  have HO5 := Lib.hid hO5
  have HC5 := Lib.hid (HC4.out.new hN5)
  have HN5 := Lib.hid (HN4.out.then_new hN5)
  clear hO5 hN5
  go_upto_region 8 with (fail)
  obtain ⟨vb, hvb⟩ : ∃ vb, vb = w5.heap.size := ⟨_, rfl⟩
  obtain ⟨w6, hw6⟩ : ∃ w6, w6 = w5.alloc (.cells #[.int .i64 x0, .int .i64 x1, .int .i64 x2, .int .i64 x3, .slice E1 en ec1] 30) := ⟨_, rfl⟩
  have hN6 : New w5 w6 := by rw [hw6]; exact (Chg.refl _ _).alloc _
  have HV6 : Hid (Has w6 vb 30 #[.int .i64 x0, .int .i64 x1, .int .i64 x2, .int .i64 x3, .slice E1 en ec1]) := by rw [hw6, hvb]; exact Has.new w5 30 _
  have HO6 := Lib.hid (own_new HO5.out hN6)
  have HC6 := Lib.hid (HC5.out.new hN6)
  have HN6 := Lib.hid (HN5.out.then_new hN6)
  rw [← hw6, ← hvb]
  clear hw6 hvb hN6
  go_wp2_with fail
  with_reducible refine (HIg.out w6 HN6.out).mono ?_
  rintro e w7 ⟨b7, rfl, hR7, hN7⟩
  have HR7 := Lib.hid hR7
  have HV7 := Lib.hid (HV6.out.keep hN7)
  have HO7 := Lib.hid (own_new HO6.out hN7)
  have HC7 := Lib.hid (HC6.out.new hN7)
  have HN7 := Lib.hid (HN6.out.then_new hN7)
  clear hR7 hN7
  go_wp2_with fail
  with_reducible refine (rRead_any b7 P w7 HR7.out HPl.out HPs.out).mono ?_
  rintro e w8 ⟨⟨E2, ec2, rfl, hO8⟩, hN8⟩
  rw [← HRe.out, ← HVe.out] at *
  simp only at hO8 ⊢
  rw [← Hen.out] at hO8 ⊢
  have HP8 := Lib.hid hO8
  have HV8 := Lib.hid (HV7.out.keep hN8)
  have HO8 := Lib.hid (own_new HO7.out hN8)
  have HC8 := Lib.hid (HC7.out.new hN8)
  have HN8 := Lib.hid (HN7.out.then_new hN8)
  clear hO8 hN8
  go_upto_region 9 with (fail)
  obtain ⟨ub, hub⟩ : ∃ ub, ub = w8.heap.size := ⟨_, rfl⟩
  obtain ⟨w9, hw9⟩ : ∃ w9, w9 = w8.alloc (.cells #[.int .i64 x0, .int .i64 x1, .int .i64 x2, .int .i64 x3, .slice E2 en ec2] 34) := ⟨_, rfl⟩
  have hN9 : New w8 w9 := by rw [hw9]; exact (Chg.refl _ _).alloc _
  have HU9 : Hid (Has w9 ub 34 #[.int .i64 x0, .int .i64 x1, .int .i64 x2, .int .i64 x3, .slice E2 en ec2]) := by rw [hw9, hub]; exact Has.new w8 34 _
  have HP9 := Lib.hid (own_new HP8.out hN9)
  have HV9 := Lib.hid (HV8.out.keep hN9)
  have HO9 := Lib.hid (own_new HO8.out hN9)
  have HC9 := Lib.hid (HC8.out.new hN9)
  have HN9 := Lib.hid (HN8.out.then_new hN9)
  rw [← hw9, ← hub]
  clear hw9 hub hN9 HV6 HV7 HV8 HO5 HO6 HO7 HO8 HP8 HC4 HC5 HC6 HC7 HC8 HR7 HN3 HN4 HN5 HN6 HN7 HN8
  have HBd : Hid (Calls Try.prog 13 #[.pointer (some ⟨g, 0, none⟩), .int .i64 sl] w9 fun e w' => ∃ (Ab : Option Addr) (nb cb : Nat) (gE : Int), e = .returned (.tuple #[.slice Ab nb cb, .int .i64 gE]) ∧ ((0 ≤ sl ∧ sl ≤ 5) ∧ nb = 64 ∧ gE = 0 ∧ w'.ownsRow w9.heap.size 5 1 (.slice Ab 64 cb) 64 ((bodyI P sl.toNat).map bV) ∨ ¬ (0 ≤ sl ∧ sl ≤ 5) ∧ nb = 0 ∧ gE = 2) ∧ New w9 w') := by
    by_cases hs : 0 ≤ sl ∧ sl ≤ 5
    · refine (Body_of g sl P (-1) w9 HC9.out hs).mono ?_
      rintro e w' ⟨Ab, cb, rfl, hO, hN⟩
      exact ⟨Ab, 64, cb, 0, rfl, Or.inl ⟨hs, rfl, rfl, hO⟩, hN⟩
    · refine (Body_out g sl w9 hs).mono ?_
      rintro e w' ⟨rfl, rfl⟩
      exact ⟨none, 0, 0, 2, rfl, Or.inr ⟨hs, rfl, rfl⟩, Chg.refl _ _⟩
  go_wp2_with fail
  with_reducible refine HBd.out.mono ?_
  rintro e wa ⟨Ab, nb, cb, gE, rfl, hBo, hNa⟩
  have HBo := Lib.hid hBo
  have HUa := Lib.hid (HU9.out.keep hNa)
  have HVa := Lib.hid (HV9.out.keep hNa)
  have HPa := Lib.hid (own_new HP9.out hNa)
  have HOa := Lib.hid (own_new HO9.out hNa)
  have HCa := Lib.hid (HC9.out.new hNa)
  have HNa := Lib.hid (HN9.out.then_new hNa)
  clear hBo hNa HBd HU9 HV9 HP9 HO9 HC9 HN9
  have HE1 : Hid (∀ wx, New wa wx → Ents wx (· < wa.heap.size) E1 es) := fun wx hx => fun j e he => by
    obtain ⟨a, ha, hb, r⟩ := ((Ents.of_own HOa.out).new hx (own_below HOa.out)) j e he
    exact ⟨a, ha, own_below HOa.out _ hb, r⟩
  have HE2 : Hid (∀ wx, New wa wx → Ents wx (· < wa.heap.size) E2 es) := fun wx hx => fun j e he => by
    obtain ⟨a, ha, hb, r⟩ := ((Ents.of_own HPa.out).new hx (own_below HPa.out)) j e he
    exact ⟨a, ha, own_below HPa.out _ hb, r⟩
  have HVw : Hid (∀ wx, New wa wx → Calls Try.prog 15 #[.agg #[.int .i64 x0, .int .i64 x1, .int .i64 x2, .int .i64 x3, .slice E1 en ec1]] wx fun e w' => ∃ A' c', e = .returned (.agg #[.int .i64 x0, .int .i64 x1, .int .i64 x2, .int .i64 x3, .slice A' en c']) ∧ w'.ownsRow wa.heap.size 60 4 (.slice A' en c') en (enRow es) ∧ New wx w') := fun wx hx =>
    (view_any x0 x1 x2 x3 E1 en ec1 _ es wx (HE1.out wx hx) (fun k hk => Nat.lt_of_lt_of_le hk hx.size) Hen.out.symm (own_nil HOa.out) (by omega)).mono (by
      rintro e w' ⟨A', c', rfl, hO, hN⟩
      exact ⟨A', c', rfl, own_base hO (fun k hk => Nat.le_trans hx.size (hO.lt k hk).1), hN⟩)
  have HSm : Hid (∀ (wx : World) (A' : Option Addr) (c' : Nat), New wa wx → wx.ownsRow wa.heap.size 60 4 (.slice A' en c') en (enRow es) → Calls Try.prog 14 #[.agg #[.int .i64 x0, .int .i64 x1, .int .i64 x2, .int .i64 x3, .slice A' en c'], .agg #[.int .i64 x0, .int .i64 x1, .int .i64 x2, .int .i64 x3, .slice E2 en ec2]] wx fun e w' => e = .returned (.bool true) ∧ New wx w') := fun wx A' c' hx hO =>
    rSame_yes ⟨x0, x1, x2, x3, es⟩ A' E2 en c' ec2 (· < wx.heap.size) wx (fun j e he => by
      obtain ⟨a, ha, hb, r⟩ := Ents.of_own hO j e he
      exact ⟨a, ha, own_below hO _ hb, r⟩) (fun j e he => by
      obtain ⟨a, ha, hb, r⟩ := HE2.out wx hx j e he
      exact ⟨a, ha, Nat.lt_of_lt_of_le hb hx.size, r⟩) (fun k hk => hk) Hen.out.symm (by omega)
  obtain ⟨at_, hat⟩ : ∃ x, x = atI o i es := ⟨_, rfl⟩
  obtain ⟨fr, hfr⟩ : ∃ x, x = freeI es := ⟨_, rfl⟩
  have HAt : Hid (∀ wx, New wa wx → Calls Try.prog 16 #[.agg #[.int .i64 x0, .int .i64 x1, .int .i64 x2, .int .i64 x3, .slice E1 en ec1], .int .i64 o, .int .i64 i] wx fun e w' => e = .returned (.int .i64 at_) ∧ New wx w') := fun wx hx => by
    rw [hat]; exact pAt_any x0 x1 x2 x3 o i E1 en ec1 _ es wx (HE1.out wx hx) (fun k hk => Nat.lt_of_lt_of_le hk hx.size) Hen.out.symm (by omega)
  have HrA : Hid (∀ wx, New wa wx → Calls Try.prog 17 #[.agg #[.int .i64 x0, .int .i64 x1, .int .i64 x2, .int .i64 x3, .slice E2 en ec2], .int .i64 o, .int .i64 i] wx fun e w' => e = .returned (.int .i64 at_) ∧ New wx w') := fun wx hx => by
    rw [hat]; exact rAt_any x0 x1 x2 x3 o i E2 en ec2 _ es wx (HE2.out wx hx) (fun k hk => Nat.lt_of_lt_of_le hk hx.size) Hen.out.symm (by omega)
  have HFr : Hid (∀ wx, New wa wx → Calls Try.prog 18 #[.agg #[.int .i64 x0, .int .i64 x1, .int .i64 x2, .int .i64 x3, .slice E1 en ec1]] wx fun e w' => e = .returned (.int .i64 fr) ∧ New wx w') := fun wx hx => by
    rw [hfr]; exact pFree_any x0 x1 x2 x3 E1 en ec1 _ es wx (HE1.out wx hx) (fun k hk => Nat.lt_of_lt_of_le hk hx.size) Hen.out.symm (by omega)
  have HrF : Hid (∀ wx, New wa wx → Calls Try.prog 19 #[.agg #[.int .i64 x0, .int .i64 x1, .int .i64 x2, .int .i64 x3, .slice E2 en ec2]] wx fun e w' => e = .returned (.int .i64 fr) ∧ New wx w') := fun wx hx => by
    rw [hfr]; exact rFree_any x0 x1 x2 x3 E2 en ec2 _ es wx (HE2.out wx hx) (fun k hk => Nat.lt_of_lt_of_le hk hx.size) Hen.out.symm (by omega)
  have HIm : Hid (∀ wx, New wa wx → Calls Try.prog 20 #[.pointer (some ⟨g, 0, none⟩)] wx fun e w' => ∃ A c, e = .returned (.slice A 512 c) ∧ w'.ownsRow wx.heap.size 5 1 (.slice A 512 c) 512 (P.map bV) ∧ New wx w') := fun wx hx => Image_any g P (-1) wx (HCa.out.new hx)
  clear hat hfr
  have HK : Hid (∀ wx, New wa wx → wx.cell? ⟨vb, 0, none⟩ = some (.int .i64 x0) ∧ wx.cell? ⟨vb, 1, none⟩ = some (.int .i64 x1) ∧ wx.cell? ⟨vb, 2, none⟩ = some (.int .i64 x2) ∧ wx.cell? ⟨vb, 3, none⟩ = some (.int .i64 x3) ∧ wx.cell? ⟨vb, 4, none⟩ = some (.slice E1 en ec1) ∧ wx.cell? ⟨ub, 0, none⟩ = some (.int .i64 x0) ∧ wx.cell? ⟨ub, 1, none⟩ = some (.int .i64 x1) ∧ wx.cell? ⟨ub, 2, none⟩ = some (.int .i64 x2) ∧ wx.cell? ⟨ub, 3, none⟩ = some (.int .i64 x3) ∧ wx.cell? ⟨ub, 4, none⟩ = some (.slice E2 en ec2)) := fun wx hx => by
    have h1 := HVa.out.keep hx
    have h2 := HUa.out.keep hx
    exact ⟨(h1.cell 0).trans rfl, (h1.cell 1).trans rfl, (h1.cell 2).trans rfl, (h1.cell 3).trans rfl, (h1.cell 4).trans rfl, (h2.cell 0).trans rfl, (h2.cell 1).trans rfl, (h2.cell 2).trans rfl, (h2.cell 3).trans rfl, (h2.cell 4).trans rfl⟩
  obtain ⟨v0, v1, v2, v3, v4, u0, u1, u2, u3, u4⟩ := HK.out wa (Chg.refl _ _)
  go_upto_region 10 with (fail)
  go_cut [83] (fun s83 wx => s83 = .bool false ∧ New wa wx)
  case first =>
    go_region_held_law (fun wx => wx.cell? ⟨vb, 0, none⟩ = some (.int .i64 x0) ∧ wx.cell? ⟨vb, 1, none⟩ = some (.int .i64 x1) ∧ wx.cell? ⟨vb, 2, none⟩ = some (.int .i64 x2) ∧ wx.cell? ⟨vb, 3, none⟩ = some (.int .i64 x3) ∧ wx.cell? ⟨vb, 4, none⟩ = some (.slice E1 en ec1) ∧ wx.cell? ⟨ub, 0, none⟩ = some (.int .i64 x0) ∧ wx.cell? ⟨ub, 1, none⟩ = some (.int .i64 x1) ∧ wx.cell? ⟨ub, 2, none⟩ = some (.int .i64 x2) ∧ wx.cell? ⟨ub, 3, none⟩ = some (.int .i64 x3) ∧ wx.cell? ⟨ub, 4, none⟩ = some (.slice E2 en ec2))
      (with_reducible refine HK.out _ ?_; exact (by ((with_reducible repeat (first | exact Chg.refl _ _ | refine Chg.drew ?_ | refine Chg.alloc ?_ _ | refine Chg.then_new ?_ HN_H.out | refine Chg.then_new ?_ HN_G.out | refine Chg.then_new ?_ HN_F.out | refine Chg.then_new ?_ HN_E.out | refine Chg.then_new ?_ HN_D.out | refine Chg.then_new ?_ HN_C.out | refine Chg.then_new ?_ HN_B.out | refine Chg.then_new ?_ HN_A.out)); fail_if_success (have := True.intro))))
      (first
        | (go_at_call 15; (with_reducible refine (HVw.out _ (by ((with_reducible repeat (first | exact Chg.refl _ _ | refine Chg.drew ?_ | refine Chg.alloc ?_ _ | refine Chg.then_new ?_ HN_H.out | refine Chg.then_new ?_ HN_G.out | refine Chg.then_new ?_ HN_F.out | refine Chg.then_new ?_ HN_E.out | refine Chg.then_new ?_ HN_D.out | refine Chg.then_new ?_ HN_C.out | refine Chg.then_new ?_ HN_B.out | refine Chg.then_new ?_ HN_A.out)); fail_if_success (have := True.intro)))).mono ?_); rintro e wA ⟨A', c', rfl, hO', hNA⟩
           have HO' := Lib.hid hO'
           have HN_A := Lib.hid hNA
           clear hO' hNA)
        | (go_at_call 14; (with_reducible refine (HSm.out _ A' c' (by ((with_reducible repeat (first | exact Chg.refl _ _ | refine Chg.drew ?_ | refine Chg.alloc ?_ _ | refine Chg.then_new ?_ HN_H.out | refine Chg.then_new ?_ HN_G.out | refine Chg.then_new ?_ HN_F.out | refine Chg.then_new ?_ HN_E.out | refine Chg.then_new ?_ HN_D.out | refine Chg.then_new ?_ HN_C.out | refine Chg.then_new ?_ HN_B.out | refine Chg.then_new ?_ HN_A.out)); fail_if_success (have := True.intro))) HO'.out).mono ?_); rintro e wB ⟨rfl, hNB⟩
           have HN_B := Lib.hid hNB
           clear hNB)
        | (go_at_call 16; (with_reducible refine (HAt.out _ (by ((with_reducible repeat (first | exact Chg.refl _ _ | refine Chg.drew ?_ | refine Chg.alloc ?_ _ | refine Chg.then_new ?_ HN_H.out | refine Chg.then_new ?_ HN_G.out | refine Chg.then_new ?_ HN_F.out | refine Chg.then_new ?_ HN_E.out | refine Chg.then_new ?_ HN_D.out | refine Chg.then_new ?_ HN_C.out | refine Chg.then_new ?_ HN_B.out | refine Chg.then_new ?_ HN_A.out)); fail_if_success (have := True.intro)))).mono ?_); rintro e wC ⟨rfl, hNC⟩
           have HN_C := Lib.hid hNC
           clear hNC)
        | (go_at_call 17; (with_reducible refine (HrA.out _ (by ((with_reducible repeat (first | exact Chg.refl _ _ | refine Chg.drew ?_ | refine Chg.alloc ?_ _ | refine Chg.then_new ?_ HN_H.out | refine Chg.then_new ?_ HN_G.out | refine Chg.then_new ?_ HN_F.out | refine Chg.then_new ?_ HN_E.out | refine Chg.then_new ?_ HN_D.out | refine Chg.then_new ?_ HN_C.out | refine Chg.then_new ?_ HN_B.out | refine Chg.then_new ?_ HN_A.out)); fail_if_success (have := True.intro)))).mono ?_); rintro e wD ⟨rfl, hND⟩
           have HN_D := Lib.hid hND
           clear hND)
        | (go_at_call 18; (with_reducible refine (HFr.out _ (by ((with_reducible repeat (first | exact Chg.refl _ _ | refine Chg.drew ?_ | refine Chg.alloc ?_ _ | refine Chg.then_new ?_ HN_H.out | refine Chg.then_new ?_ HN_G.out | refine Chg.then_new ?_ HN_F.out | refine Chg.then_new ?_ HN_E.out | refine Chg.then_new ?_ HN_D.out | refine Chg.then_new ?_ HN_C.out | refine Chg.then_new ?_ HN_B.out | refine Chg.then_new ?_ HN_A.out)); fail_if_success (have := True.intro)))).mono ?_); rintro e wE ⟨rfl, hNE⟩
           have HN_E := Lib.hid hNE
           clear hNE)
        | (go_at_call 19; (with_reducible refine (HrF.out _ (by ((with_reducible repeat (first | exact Chg.refl _ _ | refine Chg.drew ?_ | refine Chg.alloc ?_ _ | refine Chg.then_new ?_ HN_H.out | refine Chg.then_new ?_ HN_G.out | refine Chg.then_new ?_ HN_F.out | refine Chg.then_new ?_ HN_E.out | refine Chg.then_new ?_ HN_D.out | refine Chg.then_new ?_ HN_C.out | refine Chg.then_new ?_ HN_B.out | refine Chg.then_new ?_ HN_A.out)); fail_if_success (have := True.intro)))).mono ?_); rintro e wF ⟨rfl, hNF⟩
           have HN_F := Lib.hid hNF
           clear hNF)
        | (go_at_call 20; (with_reducible refine (HIm.out _ (by ((with_reducible repeat (first | exact Chg.refl _ _ | refine Chg.drew ?_ | refine Chg.alloc ?_ _ | refine Chg.then_new ?_ HN_H.out | refine Chg.then_new ?_ HN_G.out | refine Chg.then_new ?_ HN_F.out | refine Chg.then_new ?_ HN_E.out | refine Chg.then_new ?_ HN_D.out | refine Chg.then_new ?_ HN_C.out | refine Chg.then_new ?_ HN_B.out | refine Chg.then_new ?_ HN_A.out)); fail_if_success (have := True.intro)))).mono ?_); rintro e wG ⟨AG, cG, rfl, hOG, hNG⟩
           have hsG := own_str hOG
           have hsJ := (HRH.out.new hNG).string HPl.out HPs.out (c := 512)
           have HOG := Lib.hid hOG
           have HN_G := Lib.hid hNG
           clear hOG hNG)
        | (go_at_call 20; (with_reducible refine (HIm.out _ (by ((with_reducible repeat (first | exact Chg.refl _ _ | refine Chg.drew ?_ | refine Chg.alloc ?_ _ | refine Chg.then_new ?_ HN_H.out | refine Chg.then_new ?_ HN_G.out | refine Chg.then_new ?_ HN_F.out | refine Chg.then_new ?_ HN_E.out | refine Chg.then_new ?_ HN_D.out | refine Chg.then_new ?_ HN_C.out | refine Chg.then_new ?_ HN_B.out | refine Chg.then_new ?_ HN_A.out)); fail_if_success (have := True.intro)))).mono ?_); rintro e wG ⟨AG, cG, rfl, hOG, hNG⟩
           have hsG := own_str hOG
           have HOG := Lib.hid hOG
           have HN_G := Lib.hid hNG
           clear hOG hNG)
        | (go_at_call 12; (with_reducible refine (HIg.out _ (HNa.out.then_new (by ((with_reducible repeat (first | exact Chg.refl _ _ | refine Chg.drew ?_ | refine Chg.alloc ?_ _ | refine Chg.then_new ?_ HN_H.out | refine Chg.then_new ?_ HN_G.out | refine Chg.then_new ?_ HN_F.out | refine Chg.then_new ?_ HN_E.out | refine Chg.then_new ?_ HN_D.out | refine Chg.then_new ?_ HN_C.out | refine Chg.then_new ?_ HN_B.out | refine Chg.then_new ?_ HN_A.out)); fail_if_success (have := True.intro))))).mono ?_); rintro e wH ⟨bH, rfl, hRH, hNH⟩
           have hsH := hRH.string HPl.out HPs.out (c := 512)
           have hsK := own_str (own_new HOG.out hNH)
           have HRH := Lib.hid hRH
           have HN_H := Lib.hid hNH
           clear hRH hNH)
        | (go_at_call 12; (with_reducible refine (HIg.out _ (HNa.out.then_new (by ((with_reducible repeat (first | exact Chg.refl _ _ | refine Chg.drew ?_ | refine Chg.alloc ?_ _ | refine Chg.then_new ?_ HN_H.out | refine Chg.then_new ?_ HN_G.out | refine Chg.then_new ?_ HN_F.out | refine Chg.then_new ?_ HN_E.out | refine Chg.then_new ?_ HN_D.out | refine Chg.then_new ?_ HN_C.out | refine Chg.then_new ?_ HN_B.out | refine Chg.then_new ?_ HN_A.out)); fail_if_success (have := True.intro))))).mono ?_); rintro e wH ⟨bH, rfl, hRH, hNH⟩
           have hsH := hRH.string HPl.out HPs.out (c := 512)
           have HRH := Lib.hid hRH
           have HN_H := Lib.hid hNH
           clear hRH hNH))
    all_goals
      go_wp2_with fail
      go_meet
      case rel => exact ⟨rfl, by ((with_reducible repeat (first | exact Chg.refl _ _ | refine Chg.drew ?_ | refine Chg.alloc ?_ _ | refine Chg.then_new ?_ HN_H.out | refine Chg.then_new ?_ HN_G.out | refine Chg.then_new ?_ HN_F.out | refine Chg.then_new ?_ HN_E.out | refine Chg.then_new ?_ HN_D.out | refine Chg.then_new ?_ HN_C.out | refine Chg.then_new ?_ HN_B.out | refine Chg.then_new ?_ HN_A.out)); fail_if_success (have := True.intro))⟩
  case rest =>
  clear v0 v1 v2 v3 v4 u0 u1 u2 u3 u4
  obtain ⟨rfl, hNc⟩ := hcut
  have HMc := Lib.hid hNc
  have HNc := Lib.hid (HNa.out.then_new hNc)
  clear hNc HVw HSm HAt HrA HFr HrF HIm HK HE1 HE2 HUa HVa HPa HOa HCa
  rcases HBo.out with ⟨hs, rfl, rfl, hO⟩ | ⟨hs, rfl, rfl⟩
  case inr =>
    by_cases h0 : sl < 0
    · have t0 : decide (sl < 0) = true := decide_eq_true h0
      clear hs h0
      go_wp2_with fail
      go_ret
      exact ⟨rfl, HNc.out⟩
    · have t0 : decide (sl < 0) = false := decide_eq_false h0
      have t1 : decide (5 < sl) = true := decide_eq_true (by omega)
      clear hs h0
      go_wp2_with fail
      go_ret
      exact ⟨rfl, HNc.out⟩
  obtain ⟨s, hsl⟩ : ∃ s : Nat, sl = (s : Int) := ⟨sl.toNat, by omega⟩
  subst hsl
  have hs6 : s < 6 := by omega
  rw [Int.toNat_natCast] at hO
  have HOc := Lib.hid (own_new hO HMc.out)
  clear hO hs HBo
  have t0 : decide ((s : Int) < 0) = false := by simp only [decide_eq_false_iff_not]; omega
  have t1 : decide (5 < (s : Int)) = false := by simp only [decide_eq_false_iff_not]; omega
  go_wp2_with fail
  with_reducible refine (Read_nil wc).mono ?_
  rintro e wd ⟨rfl, hNd⟩
  have HOd := Lib.hid (own_new HOc.out hNd)
  have HNd := Lib.hid (HNc.out.then_new hNd)
  clear hNd t0 t1
  go_upto_region 15 with (fail)
  obtain ⟨we, hwe⟩ : ∃ we, we = wd.alloc (.cells #[.int .i64 0, .int .i64 0, .int .i64 0, .int .i64 0, .slice none 0 0] 30) := ⟨_, rfl⟩
  have hNe : New wd we := by rw [hwe]; exact (Chg.refl _ _).alloc _
  have HOe := Lib.hid (own_new HOd.out hNe)
  have HNe := Lib.hid (HNd.out.then_new hNe)
  rw [← hwe]
  clear hwe hNe
  have hc1 := own_str HOe.out
  have hc2 := own_str (own_new HOe.out (Chg.drew (Chg.refl (fun _ => False) we)))
  have f1 : IntKind.i64.wrap (64 * (s : Int)) = 64 * (s : Int) := IntWalk.i64_in _ (by omega)
  have f2 : IntKind.i64.wrap (96 + 64 * (s : Int)) = 96 + 64 * (s : Int) := IntWalk.i64_in _ (by omega)
  have f3 : IntKind.i64.wrap (160 + 64 * (s : Int)) = 160 + 64 * (s : Int) := IntWalk.i64_in _ (by omega)
  have HS6 := Lib.hid hs6
  go_region_held_law (fun _ => True)
   (trivial)
   (first
    | (go_at_call 12; (with_reducible refine (HIg.out _ (HNe.out.then_new (by ((with_reducible repeat (first | exact Chg.refl _ _ | refine Chg.drew ?_ | refine Chg.alloc ?_ _ | refine Chg.then_new ?_ HN_H.out | refine Chg.then_new ?_ HN_G.out | refine Chg.then_new ?_ HN_F.out | refine Chg.then_new ?_ HN_E.out | refine Chg.then_new ?_ HN_D.out | refine Chg.then_new ?_ HN_C.out | refine Chg.then_new ?_ HN_B.out | refine Chg.then_new ?_ HN_A.out)); fail_if_success (have := True.intro))))).mono ?_); rintro e wH ⟨bH, rfl, hRH, hNH⟩
       have hM : New we wH := Chg.then_new (S := fun _ => False) (by ((with_reducible repeat (first | exact Chg.refl _ _ | refine Chg.drew ?_ | refine Chg.alloc ?_ _ | refine Chg.then_new ?_ HN_H.out | refine Chg.then_new ?_ HN_G.out | refine Chg.then_new ?_ HN_F.out | refine Chg.then_new ?_ HN_E.out | refine Chg.then_new ?_ HN_D.out | refine Chg.then_new ?_ HN_C.out | refine Chg.then_new ?_ HN_B.out | refine Chg.then_new ?_ HN_A.out)); fail_if_success (have := True.intro))) hNH
       have hcH := own_str (own_new HOe.out hM)
       have hct := cut_body bH s HS6.out
       have hcb := hRH.body HPl.out HPs.out HS6.out
       have HMH := Lib.hid hM
       clear hRH hNH hM))
  all_goals
    go_wp2_with fail
    go_ret
    exact ⟨by simp, HNe.out.then_new HMH.out⟩
end Go.Proofs.Ytjkpijinpfimiaa
