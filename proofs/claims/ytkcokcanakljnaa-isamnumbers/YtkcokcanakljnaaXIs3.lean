/-
  Layer 11's laws: the document's examples.
-/
import Derived.Test.YtkcokcanakljnaaXIs2
import Derived.Test.YtkcokcanakljnaaIqA
import Derived.Test.YtkcokcanakljnaaSizes
import Derived.Shelf.RegionOpen
namespace Go.Proofs.Ytkcokcanakljnaa
open Go.ChangeShapes Go.WideShapes Go.ChangeAt Go.RowKit Go.Joins
def pur : Pd := ⟨1, 2, 9, 7, 1, 500, 0, 0, false, 0, 0, 0, 0, false⟩
theorem right_all11 {m : List Int} (hl : m.length = 14) (h : ∀ j : Fin 14, 0 ≤ m.getD j 0 ∧ m.getD j 0 ≤ mosts.getD j 0 ∧ (j.val < 5 → m.getD j 0 ≠ 0)) : RightN m := ⟨hl, fun j hj => h ⟨j, hj⟩⟩
theorem right_pur : RightN pur.ns := right_all11 rfl (by decide)
set_option maxRecDepth 100000 in
theorem purse11_any (w : World) : Calls Try.prog 55 #[] w fun e w' => e = .returned (.agg #[.int .i64 1, .int .i64 2, .int .i64 9, .int .i64 7, .int .i64 1, .int .i64 500, .int .i64 0, .int .i64 0, .bool false, .int .i64 0, .int .i64 0, .int .i64 0, .int .i64 0, .bool false]) ∧ New w w' := by
  go_enter Try.func55, Try.ntmps55
  go_wp2_with fail
  have hX := Has.new w 24 #[.int .i64 1, .int .i64 2, .int .i64 9, .int .i64 7, .int .i64 1, .int .i64 500, .int .i64 0, .int .i64 0, .bool false, .int .i64 0, .int .i64 0, .int .i64 0, .int .i64 0, .bool false]
  have hN : New w (w.alloc (.cells #[.int .i64 1, .int .i64 2, .int .i64 9, .int .i64 7, .int .i64 1, .int .i64 500, .int .i64 0, .int .i64 0, .bool false, .int .i64 0, .int .i64 0, .int .i64 0, .int .i64 0, .bool false] 24)) := (Chg.refl _ _).alloc _
  generalize w.alloc (.cells #[.int .i64 1, .int .i64 2, .int .i64 9, .int .i64 7, .int .i64 1, .int .i64 500, .int .i64 0, .int .i64 0, .bool false, .int .i64 0, .int .i64 0, .int .i64 0, .int .i64 0, .bool false] 24) = wX at hX hN ⊢
  have g0 := (hX.cell 0).trans rfl
  have g1 := (hX.cell 1).trans rfl
  have g2 := (hX.cell 2).trans rfl
  have g3 := (hX.cell 3).trans rfl
  have g4 := (hX.cell 4).trans rfl
  have g5 := (hX.cell 5).trans rfl
  have g6 := (hX.cell 6).trans rfl
  have g7 := (hX.cell 7).trans rfl
  have g8 := (hX.cell 8).trans rfl
  have g9 := (hX.cell 9).trans rfl
  have g10 := (hX.cell 10).trans rfl
  have g11 := (hX.cell 11).trans rfl
  have g12 := (hX.cell 12).trans rfl
  have g13 := (hX.cell 13).trans rfl
  refine bodyPost_ret (v := .agg #[.int .i64 1, .int .i64 2, .int .i64 9, .int .i64 7, .int .i64 1, .int .i64 500, .int .i64 0, .int .i64 0, .bool false, .int .i64 0, .int .i64 0, .int .i64 0, .int .i64 0, .bool false]) (by simp [results, Try.results55, go_sem, g0, g1, g2, g3, g4, g5, g6, g7, g8, g9, g10, g11, g12, g13]) rfl ?_
  exact ⟨rfl, hN⟩
theorem cv2a (w : World) : (convert 27 27 (.slice (some ⟨w.heap.size, 0, none⟩) 2 2)).run Try.prog (w.alloc (.cells #[.int .u8 97, .int .u8 98] 5)) = .ok (.slice (some ⟨w.heap.size, 0, none⟩) 2 2) (w.alloc (.cells #[.int .u8 97, .int .u8 98] 5 (2, 3))) :=
  Joins.run_convert_bytes_const_at (P := Try.prog) w 27 5 #[.int .u8 97, .int .u8 98] 2 2 w.heap.size rfl Try.underlying27 Try.underlying5
theorem body_small {m : List Int} (h : RightN m) {t : Nat} (ht : t ≤ 2147483647) : ∀ x ∈ bodyN m t, x < 256 := by
  intro x hx
  have hl := form_len h
  unfold bodyN tokB at hx
  rcases List.mem_cons.1 hx with h1 | hx
  · omega
  rcases List.mem_append.1 hx with h1 | hx
  · exact form_small h x h1
  rcases List.mem_append.1 hx with h1 | hx
  · simp only [List.mem_cons, List.not_mem_nil, or_false] at h1
    omega
  · rw [(List.mem_replicate.1 hx).2]; omega
theorem newOk_1 : newOk 1 [2] = true := by decide
theorem acc_2 : accB (accF 1 [2]) 2 = true := by decide
theorem two_held {w : World} {p q : Nat} {t u : TypeId} {y0 y1 y2 y3 y4 y5 y6 y7 y8 y9 y10 y11 y12 y13 z0 z1 z2 z3 z4 : Value} (h : Has w p t #[y0, y1, y2, y3, y4, y5, y6, y7, y8, y9, y10, y11, y12, y13]) (h' : Has w q u #[z0, z1, z2, z3, z4]) : w.cell? ⟨p, 0, none⟩ = some y0 ∧ w.cell? ⟨p, 1, none⟩ = some y1 ∧ w.cell? ⟨p, 2, none⟩ = some y2 ∧ w.cell? ⟨p, 3, none⟩ = some y3 ∧ w.cell? ⟨p, 4, none⟩ = some y4 ∧ w.cell? ⟨p, 5, none⟩ = some y5 ∧ w.cell? ⟨p, 6, none⟩ = some y6 ∧ w.cell? ⟨p, 7, none⟩ = some y7 ∧ w.cell? ⟨p, 8, none⟩ = some y8 ∧ w.cell? ⟨p, 9, none⟩ = some y9 ∧ w.cell? ⟨p, 10, none⟩ = some y10 ∧ w.cell? ⟨p, 11, none⟩ = some y11 ∧ w.cell? ⟨p, 12, none⟩ = some y12 ∧ w.cell? ⟨p, 13, none⟩ = some y13 ∧ w.cell? ⟨q, 0, none⟩ = some z0 ∧ w.cell? ⟨q, 1, none⟩ = some z1 ∧ w.cell? ⟨q, 2, none⟩ = some z2 ∧ w.cell? ⟨q, 3, none⟩ = some z3 ∧ w.cell? ⟨q, 4, none⟩ = some z4 :=
  ⟨(h.cell 0).trans rfl, (h.cell 1).trans rfl, (h.cell 2).trans rfl, (h.cell 3).trans rfl, (h.cell 4).trans rfl, (h.cell 5).trans rfl, (h.cell 6).trans rfl, (h.cell 7).trans rfl, (h.cell 8).trans rfl, (h.cell 9).trans rfl, (h.cell 10).trans rfl, (h.cell 11).trans rfl, (h.cell 12).trans rfl, (h.cell 13).trans rfl, (h'.cell 0).trans rfl, (h'.cell 1).trans rfl, (h'.cell 2).trans rfl, (h'.cell 3).trans rfl, (h'.cell 4).trans rfl⟩
theorem mintN_0 (x : Sl) : mintN [] x = 1 := by simp [mintN]
theorem mintL_0 (x : Sl) : mintL [] x = [x] := by simp [mintL]
theorem holds_own (x : Sl) : holdsB [x] x 1 = true := by simp [holdsB, atN]
theorem pur_ne (bs : List Nat) : msgS 1 1 0 bs ≠ prS pur := by
  intro h
  have := congrArg Sl.t h
  simp [msgS, prS, pur] at this
theorem mintN_2 (bs : List Nat) : mintN [prS pur] (msgS 1 1 0 bs) = 2 := by simp [mintN, pur_ne bs]
theorem mintL_2 (bs : List Nat) : mintL [prS pur] (msgS 1 1 0 bs) = [prS pur, msgS 1 1 0 bs] := by simp [mintL, pur_ne bs]
theorem holds_2 (bs : List Nat) : holdsB [prS pur, msgS 1 1 0 bs] (msgS 1 1 0 bs) 2 = true := by
  have h : prS pur ≠ msgS 1 1 0 bs := fun h => pur_ne bs h.symm
  have hb : (prS pur == msgS 1 1 0 bs) = false := beq_eq_false_iff_ne.2 h
  simp [holdsB, atN, List.idxOf_cons, hb]
theorem open_pur (acc : Nat → Bool) (ha : accB acc 2 = true) : opnI acc [prS pur] 7 1 2 9 (bodyN pur.ns 1) = (pur, 0) := by
  have ho := open_body right_pur (t := 1) (by omega) (by omega)
  obtain ⟨h1, h2, h3⟩ := opn_r ho
  rw [Pd.of_ns] at h1
  unfold opnI
  rw [h1, h2, h3, if_neg (by simp), if_neg (by decide), if_neg (by rw [show pur.x1 = 2 from rfl, ha]; simp), if_neg (by rw [show ((1 : Nat) : Int) = 1 from rfl, holds_own]; simp)]
set_option maxRecDepth 100000 in
set_option maxHeartbeats 4000000 in
theorem awake11_any (w : World) : Calls Try.prog 20 #[] w fun e w' => e = .returned (.bool true) ∧ New w w' := by
  have HPu := Lib.hid purse11_any
  have HNe : Hid (∀ (b s : Nat) (wx : World), Has wx s 3 #[.int .i64 2] → Calls Try.prog 27 #[.int .i64 1, .pointer (some ⟨b, 0, none⟩), .slice (some ⟨s, 0, none⟩) 1 1] wx fun e w' => (∃ g, e = .returned (.tuple #[.pointer (some ⟨g, 0, none⟩), .int .i64 0]) ∧ wx.heap.size ≤ g ∧ Has w' g 129 (mdC b 1 (accF 1 [2]) 0)) ∧ New wx w') := fun b s wx hs => by
    refine (New_any 1 b [2] _ 1 1 wx _ rfl (by omega) (row_arr1 (xs := [2]) hs) (fun k hk => by rw [hk]; exact hs.lt)).mono ?_
    rintro e w' ⟨h, hN⟩
    rcases h with ⟨h, _⟩ | ⟨_, h⟩
    · rw [newOk_1] at h; cases h
    · exact ⟨h, hN⟩
  have HSe : Hid (∀ (b g : Nat) (wx : World), Has wx g 129 (mdC b 1 (accF 1 [2]) 0) → Orc wx b b [] → Calls Try.prog 22 #[.pointer (some ⟨g, 0, none⟩), .agg #[.int .i64 1, .int .i64 2, .int .i64 9, .int .i64 7, .int .i64 1, .int .i64 500, .int .i64 0, .int .i64 0, .bool false, .int .i64 0, .int .i64 0, .int .i64 0, .int .i64 0, .bool false]] wx fun e w' => ∃ A c, e = .returned (.tuple #[.slice A 64 c, .int .i64 0]) ∧ w'.ownsRow wx.heap.size 5 1 (.slice A 64 c) 64 ((bodyN pur.ns 1).map bV) ∧ Orc w' b b [prS pur] ∧ Chg (OS b wx) wx w') := fun b g wx hG hM => by
    refine (Seal_any pur b b g 1 0 (accF 1 [2]) [] wx hG hM (by simp)).mono ?_
    intro e w' h
    unfold SealR SealP at h
    rw [rightN_yes right_pur, show accB (accF 1 [2]) pur.x1 = true from acc_2, mintN_0, mintL_0] at h
    rcases h with ⟨h, _⟩ | ⟨_, h, _⟩ | ⟨_, _, ⟨A, c, h1, h2⟩, h3, h4⟩
    · cases h
    · cases h
    · exact ⟨A, c, h1, h2, h3, h4⟩
  have HOp : Hid (∀ (b g c : Nat) (A : Option Addr) (w0 wx : World), Has wx g 129 (mdC b 1 (accF 1 [2]) 0) → Orc wx b b [prS pur] → wx.ownsRow w0.heap.size 5 1 (.slice A 64 c) 64 ((bodyN pur.ns 1).map bV) → Calls Try.prog 23 #[.pointer (some ⟨g, 0, none⟩), .int .i64 7, .agg #[.int .i64 1, .int .i64 2, .int .i64 9, .int .i64 0], .slice A 64 c] wx fun e w' => e = .returned (.tuple #[.agg #[.int .i64 1, .int .i64 2, .int .i64 9, .int .i64 7, .int .i64 1, .int .i64 500, .int .i64 0, .int .i64 0, .bool false, .int .i64 0, .int .i64 0, .int .i64 0, .int .i64 0, .bool false], .int .i64 0]) ∧ New wx w') := fun b g c A w0 wx hG hM hO => by
    have := Open_any 7 1 2 9 0 (bodyN pur.ns 1) 64 c A _ b b g 1 0 (accF 1 [2]) [prS pur] wx hG hM (Byts.own_any hO (Chg.refl _ _) (body_small right_pur (by omega)) (by omega)) (own_cap hO) (own_max hO) (fun k hk => hk)
    rw [open_pur _ acc_2] at this
    exact this
  have HPo : Hid (∀ (b g s : Nat) (wx : World) (F : Nat → Prop), Has wx g 129 (mdC b 1 (accF 1 [2]) 1) → Orc wx b b [prS pur] → Byts wx F (.slice (some ⟨s, 0, none⟩) 2 2) [97, 98] → (∀ k, F k → k < wx.heap.size) → Calls Try.prog 25 #[.pointer (some ⟨g, 0, none⟩), .int .i64 1, .int .i64 0, .slice (some ⟨s, 0, none⟩) 2 2] wx fun e w' => ∃ A' c', e = .returned (.tuple #[.agg #[.int .i64 1, .int .i64 1, .int .i64 0, .slice A' 2 c', .int .i64 2], .int .i64 0]) ∧ w'.ownsRow wx.heap.size 5 1 (.slice A' 2 c') 2 (([97, 98] : List Nat).map bV) ∧ Orc w' b b [prS pur, msgS 1 1 0 [97, 98]] ∧ Chg (OS b wx) wx w') := fun b g s wx F hG hM hB hF => by
    have := Post_yes 1 1 0 (some ⟨s, 0, none⟩) 2 2 [97, 98] F b b g 1 (accF 1 [2]) [prS pur] wx hG hM (by simp) hB hF (by omega) (by decide)
    rw [mintN_2, mintL_2] at this
    exact this
  have HCh : Hid (∀ (b g c : Nat) (A : Option Addr) (w0 wx : World), Has wx g 129 (mdC b 1 (accF 1 [2]) 1) → Orc wx b b [prS pur, msgS 1 1 0 [97, 98]] → wx.ownsRow w0.heap.size 5 1 (.slice A 2 c) 2 (([97, 98] : List Nat).map bV) → Calls Try.prog 26 #[.pointer (some ⟨g, 0, none⟩), .agg #[.int .i64 1, .int .i64 1, .int .i64 0, .slice A 2 c, .int .i64 2]] wx fun e w' => e = .returned (.int .i64 0) ∧ New wx w') := fun b g c A w0 wx hG hM hO => by
    have := Check_yes 1 1 0 2 A 2 c [97, 98] _ b b g 1 1 (accF 1 [2]) _ wx hG hM (Byts.own_any hO (Chg.refl _ _) (by decide) (by omega)) (fun k hk => hk) (by omega) (by decide)
    rw [holds_2] at this
    exact this
  have HLe : Hid (∀ (b : Nat) (wx : World), Orc wx b b [prS pur, msgS 1 1 0 [97, 98]] → Calls Try.prog 30 #[.pointer (some ⟨b, 0, none⟩)] wx fun e w' => e = .returned (.int .i64 2) ∧ w' = wx) := fun b wx h => Len_any b b _ wx h
  go_enter Try.func20, Try.ntmps20
  go_upto_region 2 with (fail)
  have hO := Orc.made w
  obtain ⟨w1, hw1⟩ : ∃ w1, w1 = w.alloc (.cells #[.map none, .slice none 0 0] 77) := ⟨_, rfl⟩
  obtain ⟨b, hb⟩ : ∃ b, b = w.heap.size := ⟨_, rfl⟩
  have hN1 : New w w1 := by rw [hw1]; exact (Chg.refl _ _).alloc _
  rw [← hw1, ← hb] at hO
  rw [← hw1, ← hb]
  have Hb := Lib.hid hb
  have HO1 := Lib.hid hO
  have HN1 := Lib.hid hN1
  clear hO hN1 hw1 hb
  go_wp2_with fail
  have hs := Has.new w1 3 #[.int .i64 2]
  have hn : New w1 (w1.alloc (.cells #[.int .i64 2] 3)) := (Chg.refl _ _).alloc _
  generalize w1.alloc (.cells #[.int .i64 2] 3) = w1b at hs hn ⊢
  with_reducible refine (HNe.out _ _ _ hs).mono ?_
  rintro e w2 ⟨⟨g, rfl, hge, hG⟩, hN⟩
  have Hgw : Hid (w.heap.size ≤ g) := Nat.le_trans (HN1.out.then_new hn).size hge
  clear hge
  have HG2 := Lib.hid hG
  have HO2 := Lib.hid (HO1.out.new (hn.then_new hN))
  have HN2 := Lib.hid (HN1.out.then_new (hn.then_new hN))
  clear hs hn hG hN HNe HO1 HN1
  go_wp2_with fail
  with_reducible refine (HPu.out _).mono ?_
  rintro e w3 ⟨rfl, hN⟩
  have HG3 := Lib.hid (HG2.out.keep hN)
  have HO3 := Lib.hid (HO2.out.new hN)
  have HN3 := Lib.hid (HN2.out.then_new hN)
  clear hN HG2 HO2 HN2
  go_wp2_with fail
  with_reducible refine (HSe.out _ _ _ HG3.out HO3.out).mono ?_
  rintro e w4 ⟨A4, c4, rfl, hB4, hO4, hC4⟩
  have HG4 := Lib.hid (HG3.out.chg hC4 (not_OS HG3.out (by decide) (by decide)))
  have HO4 := Lib.hid hO4
  have HB4 := Lib.hid hB4
  have HN4 : Hid (New w w4) := HN3.out.trans hC4 (fun i hi h => by have h1 := h.1; have h2 := Hb.out; omega)
  clear hB4 hO4 hC4 HG3 HO3 HN3 HSe
  go_wp2_with fail
  with_reducible refine (HOp.out _ _ _ _ _ _ HG4.out HO4.out HB4.out).mono ?_
  rintro e w5 ⟨rfl, hN⟩
  have HG5 := Lib.hid (HG4.out.keep hN)
  have HO5 := Lib.hid (HO4.out.new hN)
  have HN5 := Lib.hid (HN4.out.then_new hN)
  clear hN HG4 HO4 HN4 HOp HB4
  go_upto_region 7 with (fail)
  obtain ⟨w6, hw6⟩ : ∃ w6, w6 = w5.alloc (.cells #[.int .i64 1, .int .i64 2, .int .i64 9, .int .i64 7, .int .i64 1, .int .i64 500, .int .i64 0, .int .i64 0, .bool false, .int .i64 0, .int .i64 0, .int .i64 0, .int .i64 0, .bool false] 24) := ⟨_, rfl⟩
  obtain ⟨pb, hpb⟩ : ∃ pb, pb = w5.heap.size := ⟨_, rfl⟩
  have HP6 : Hid (Has w6 pb 24 #[.int .i64 1, .int .i64 2, .int .i64 9, .int .i64 7, .int .i64 1, .int .i64 500, .int .i64 0, .int .i64 0, .bool false, .int .i64 0, .int .i64 0, .int .i64 0, .int .i64 0, .bool false]) := by rw [hw6, hpb]; exact Has.new _ _ _
  have hm : New w5 w6 := by rw [hw6]; exact (Chg.refl _ _).alloc _
  have HG6 := Lib.hid (HG5.out.keep hm)
  have HO6 := Lib.hid (HO5.out.new hm)
  have HN6 := Lib.hid (HN5.out.then_new hm)
  have HNx := Lib.hid (Next_any g b 1 0 (accF 1 [2]) w6 HG6.out (by omega))
  rw [← hw6, ← hpb]
  clear hw6 hpb hm HG5 HO5 HN5
  go_wp2_with fail
  with_reducible refine HNx.out.mono ?_
  rintro e w7 ⟨rfl, hG7, hC7⟩
  have HG7 := Lib.hid hG7
  have HO7 := Lib.hid (HO6.out.setg HG6.out (by decide) (by decide) hC7)
  have HP7 := Lib.hid (HP6.out.chg hC7 (fun e => HP6.out.apart HG6.out (by decide) e))
  have HN7 : Hid (New w w7) := HN6.out.trans hC7 (fun i hi h => by have := Hgw.out; omega)
  clear hG7 hC7 HNx HG6 HO6 HP6 HN6
  have hcv := cv2a w7
  have hmk : Byts (w7.alloc (.cells #[.int .u8 97, .int .u8 98] 5 (2, 3))) (· = w7.heap.size) (.slice (some ⟨w7.heap.size, 0, none⟩) 2 2) [97, 98] := Byts.of_mark (bs := [97, 98]) (heap_alloc_new w7 (.cells (([97, 98] : List Nat).map bV).toArray 5 (2, 3))) (by decide) (by decide)
  have hm : New w7 (w7.alloc (.cells #[.int .u8 97, .int .u8 98] 5 (2, 3))) := (Chg.refl _ _).alloc _
  have HPc := Lib.hid (HPo.out b g w7.heap.size _ _ (HG7.out.keep hm) (HO7.out.new hm) hmk (fun k hk => by rw [hk]; simp))
  have HP8 := Lib.hid (HP7.out.keep hm)
  have HG8 := Lib.hid (HG7.out.keep hm)
  have HN8 := Lib.hid (HN7.out.then_new hm)
  clear hm hmk
  go_wp2_with fail
  with_reducible refine HPc.out.mono ?_
  rintro e w9 ⟨A7, cp7, rfl, hB9, hO9, hC9⟩
  have HG9 := Lib.hid (HG8.out.chg hC9 (not_OS HG8.out (by decide) (by decide)))
  have HP9 := Lib.hid (HP8.out.chg hC9 (not_OS HP8.out (by decide) (by decide)))
  have HO9 := Lib.hid hO9
  have HB9 := Lib.hid hB9
  have HN9 : Hid (New w w9) := HN8.out.trans hC9 (fun i hi h => by have h1 := h.1; have h2 := Hb.out; omega)
  clear hB9 hO9 hC9 HPc HG8 HP8 HN8 HPo HG7 HO7 HP7 HN7 hcv
  go_upto_region 9 with (fail)
  obtain ⟨wa, hwa⟩ : ∃ wa, wa = w9.alloc (.cells #[.int .i64 1, .int .i64 1, .int .i64 0, .slice A7 2 cp7, .int .i64 2] 59) := ⟨_, rfl⟩
  obtain ⟨qb, hqb⟩ : ∃ qb, qb = w9.heap.size := ⟨_, rfl⟩
  have HQa : Hid (Has wa qb 59 #[.int .i64 1, .int .i64 1, .int .i64 0, .slice A7 2 cp7, .int .i64 2]) := by rw [hwa, hqb]; exact Has.new _ _ _
  have hm : New w9 wa := by rw [hwa]; exact (Chg.refl _ _).alloc _
  have HGa := Lib.hid (HG9.out.keep hm)
  have HPa := Lib.hid (HP9.out.keep hm)
  have HOa := Lib.hid (HO9.out.new hm)
  have HBa := Lib.hid (own_new HB9.out hm)
  have HNa := Lib.hid (HN9.out.then_new hm)
  rw [← hwa, ← hqb]
  clear hwa hqb hm HG9 HP9 HO9 HB9 HN9
  have c0 : wa.cell? ⟨pb, 0, none⟩ = some (.int .i64 1) := (HPa.out.cell 0).trans rfl
  have c1 : wa.cell? ⟨pb, 1, none⟩ = some (.int .i64 2) := (HPa.out.cell 1).trans rfl
  have c2 : wa.cell? ⟨pb, 2, none⟩ = some (.int .i64 9) := (HPa.out.cell 2).trans rfl
  have c3 : wa.cell? ⟨pb, 3, none⟩ = some (.int .i64 7) := (HPa.out.cell 3).trans rfl
  have c4 : wa.cell? ⟨pb, 4, none⟩ = some (.int .i64 1) := (HPa.out.cell 4).trans rfl
  have c5 : wa.cell? ⟨pb, 5, none⟩ = some (.int .i64 500) := (HPa.out.cell 5).trans rfl
  have c6 : wa.cell? ⟨pb, 6, none⟩ = some (.int .i64 0) := (HPa.out.cell 6).trans rfl
  have c7 : wa.cell? ⟨pb, 7, none⟩ = some (.int .i64 0) := (HPa.out.cell 7).trans rfl
  have c8 : wa.cell? ⟨pb, 8, none⟩ = some (.bool false) := (HPa.out.cell 8).trans rfl
  have c9 : wa.cell? ⟨pb, 9, none⟩ = some (.int .i64 0) := (HPa.out.cell 9).trans rfl
  have c10 : wa.cell? ⟨pb, 10, none⟩ = some (.int .i64 0) := (HPa.out.cell 10).trans rfl
  have c11 : wa.cell? ⟨pb, 11, none⟩ = some (.int .i64 0) := (HPa.out.cell 11).trans rfl
  have c12 : wa.cell? ⟨pb, 12, none⟩ = some (.int .i64 0) := (HPa.out.cell 12).trans rfl
  have c13 : wa.cell? ⟨pb, 13, none⟩ = some (.bool false) := (HPa.out.cell 13).trans rfl
  have d0 : wa.cell? ⟨qb, 0, none⟩ = some (.int .i64 1) := (HQa.out.cell 0).trans rfl
  have d1 : wa.cell? ⟨qb, 1, none⟩ = some (.int .i64 1) := (HQa.out.cell 1).trans rfl
  have d2 : wa.cell? ⟨qb, 2, none⟩ = some (.int .i64 0) := (HQa.out.cell 2).trans rfl
  have d3 : wa.cell? ⟨qb, 3, none⟩ = some ((.slice A7 2 cp7)) := (HQa.out.cell 3).trans rfl
  have d4 : wa.cell? ⟨qb, 4, none⟩ = some (.int .i64 2) := (HQa.out.cell 4).trans rfl
  go_region_held_law (fun wx => wx.cell? ⟨pb, 0, none⟩ = some (.int .i64 1) ∧ wx.cell? ⟨pb, 1, none⟩ = some (.int .i64 2) ∧ wx.cell? ⟨pb, 2, none⟩ = some (.int .i64 9) ∧ wx.cell? ⟨pb, 3, none⟩ = some (.int .i64 7) ∧ wx.cell? ⟨pb, 4, none⟩ = some (.int .i64 1) ∧ wx.cell? ⟨pb, 5, none⟩ = some (.int .i64 500) ∧ wx.cell? ⟨pb, 6, none⟩ = some (.int .i64 0) ∧ wx.cell? ⟨pb, 7, none⟩ = some (.int .i64 0) ∧ wx.cell? ⟨pb, 8, none⟩ = some (.bool false) ∧ wx.cell? ⟨pb, 9, none⟩ = some (.int .i64 0) ∧ wx.cell? ⟨pb, 10, none⟩ = some (.int .i64 0) ∧ wx.cell? ⟨pb, 11, none⟩ = some (.int .i64 0) ∧ wx.cell? ⟨pb, 12, none⟩ = some (.int .i64 0) ∧ wx.cell? ⟨pb, 13, none⟩ = some (.bool false) ∧ wx.cell? ⟨qb, 0, none⟩ = some (.int .i64 1) ∧ wx.cell? ⟨qb, 1, none⟩ = some (.int .i64 1) ∧ wx.cell? ⟨qb, 2, none⟩ = some (.int .i64 0) ∧ wx.cell? ⟨qb, 3, none⟩ = some ((.slice A7 2 cp7)) ∧ wx.cell? ⟨qb, 4, none⟩ = some (.int .i64 2))
    (first | exact two_held HPa.out.drew HQa.out.drew | exact two_held HPa.out HQa.out | exact two_held HPD.out HQD.out | exact two_held HPC.out HQC.out | exact two_held HPB.out HQB.out)
    (first
    | (go_at_call 55;
       (with_reducible refine (HPu.out _).mono ?_)
       rintro e wB ⟨rfl, hN⟩
       have HMB : Hid (New wa wB) := Chg.new_then (by with_reducible repeat (first | exact Chg.refl _ _ | refine Chg.drew ?_ | refine Chg.drewN ?_ _ | refine Chg.alloc ?_ _)) hN
       have HPB := Lib.hid (HPa.out.keep HMB.out)
       have HQB := Lib.hid (HQa.out.keep HMB.out)
       clear hN)
    | (go_at_call 26;
       (with_reducible refine (HCh.out _ _ _ _ _ _ (HGa.out.keep (HMB.out.then_new (by with_reducible repeat (first | exact Chg.refl _ _ | refine Chg.drew ?_ | refine Chg.drewN ?_ _ | refine Chg.alloc ?_ _)))) (HOa.out.new (HMB.out.then_new (by with_reducible repeat (first | exact Chg.refl _ _ | refine Chg.drew ?_ | refine Chg.drewN ?_ _ | refine Chg.alloc ?_ _)))) (own_new HBa.out (HMB.out.then_new (by with_reducible repeat (first | exact Chg.refl _ _ | refine Chg.drew ?_ | refine Chg.drewN ?_ _ | refine Chg.alloc ?_ _))))).mono ?_)
       rintro e wC ⟨rfl, hN⟩
       have HMC : Hid (New wa wC) := HMB.out.then_new (Chg.new_then (by with_reducible repeat (first | exact Chg.refl _ _ | refine Chg.drew ?_ | refine Chg.drewN ?_ _ | refine Chg.alloc ?_ _)) hN)
       have HPC := Lib.hid (HPa.out.keep HMC.out)
       have HQC := Lib.hid (HQa.out.keep HMC.out)
       clear hN)
    | (go_at_call 30;
       (with_reducible refine (HLe.out b _ (HOa.out.new (HMC.out.then_new (by with_reducible repeat (first | exact Chg.refl _ _ | refine Chg.drew ?_ | refine Chg.drewN ?_ _ | refine Chg.alloc ?_ _))))).mono ?_)
       rintro e wD ⟨rfl, hN⟩
       have HMD : Hid (New wa wD) := by rw [hN]; exact HMC.out.then_new (by with_reducible repeat (first | exact Chg.refl _ _ | refine Chg.drew ?_ | refine Chg.drewN ?_ _ | refine Chg.alloc ?_ _))
       have HPD := Lib.hid (HPa.out.keep HMD.out)
       have HQD := Lib.hid (HQa.out.keep HMD.out)
       clear hN))
  all_goals
    go_wp2_with fail
    go_ret
    exact ⟨rfl, HNa.out.then_new HMD.out⟩
end Go.Proofs.Ytkcokcanakljnaa
/-
  A product, and bools, that came in.
-/
namespace Go.Proofs.Ytkcokcanakljnaa
open Go.ChangeShapes Go.WideShapes Go.ChangeAt Go.RowKit
theorem Try.cells4 : Try.prog.cellsOf 4 = 1 := by kernel_rfl
theorem Try.cellsK : Try.prog.cellsOf 22 = 1 := by kernel_rfl
theorem Try.cellsP : Try.prog.cellsOf 24 = 14 := by kernel_rfl
theorem Try.fieldsP : (Try.prog.underlying 24).map (fun u => match u with | .struct fs => fs.toList.map (fun f => (f.type, f.offset)) | _ => []) = some [(22, 0), (3, 1), (3, 2), (3, 3), (3, 4), (3, 5), (3, 6), (3, 7), (4, 8), (3, 9), (3, 10), (3, 11), (3, 12), (4, 13)] := by kernel_rfl
set_option maxRecDepth 100000 in
set_option maxHeartbeats 4000000 in
theorem open_product {H : Type} {enc : TypeId × Value → H} {W : World} {sp : Nat → Bool} {held : Bool} {r : Reach} {b0 : Nat} {v : Value} {d : DataW H} {p : List MemPlace}
    (hv : Value.okWide Try.prog W r b0 24 v) (h : DataW.Trod enc Try.prog W 0 sp held 24 v d p) : ∃ p : Pd, v = p.V := by
  obtain ⟨u, hu, hfs⟩ := Option.map_eq_some_iff.1 Try.fieldsP
  cases u with
  | struct fs =>
    obtain ⟨cs, rfl, hsz⟩ := okWide_struct hu hv
    obtain ⟨fuel, hf0⟩ := h
    obtain ⟨xs, k, hk, hxy, _, hxl, hf⟩ := DataW.trod_struct hu hf0
    obtain ⟨fs⟩ := fs
    obtain ⟨cs⟩ := cs
    have hcl : cs.length = 14 := by have := hsz.trans Try.cellsP; simpa using this
    match fs, hfs with
    | [f0, f1, f2, f3, f4, f5, f6, f7, f8, f9, f10, f11, f12, f13], hfs =>
      simp only [List.map_cons, List.map_nil, List.cons.injEq, Prod.mk.injEq, and_true] at hfs
      obtain ⟨⟨t0, o0⟩, ⟨t1, o1⟩, ⟨t2, o2⟩, ⟨t3, o3⟩, ⟨t4, o4⟩, ⟨t5, o5⟩, ⟨t6, o6⟩, ⟨t7, o7⟩, ⟨t8, o8⟩, ⟨t9, o9⟩, ⟨t10, o10⟩, ⟨t11, o11⟩, ⟨t12, o12⟩, t13, o13⟩ := hfs
      match xs, hxl, cs, hcl with
      | [y0, y1, y2, y3, y4, y5, y6, y7, y8, y9, y10, y11, y12, y13], _, [v0, v1, v2, v3, v4, v5, v6, v7, v8, v9, v10, v11, v12, v13], _ =>
        have g0 := hf 0 f0 rfl
        simp [Value.cells, o0, t0, Try.cellsK] at g0
        obtain ⟨x0, e0, _, _⟩ := DataW.trod_int Try.underlying22 g0
        simp only [List.cons.injEq, and_true] at e0
        subst e0
        have g1 := hf 1 f1 rfl
        simp [Value.cells, o1, t1, Try.cells3] at g1
        obtain ⟨x1, e1, _, _⟩ := DataW.trod_int Try.underlying3 g1
        simp only [List.cons.injEq, and_true] at e1
        subst e1
        have g2 := hf 2 f2 rfl
        simp [Value.cells, o2, t2, Try.cells3] at g2
        obtain ⟨x2, e2, _, _⟩ := DataW.trod_int Try.underlying3 g2
        simp only [List.cons.injEq, and_true] at e2
        subst e2
        have g3 := hf 3 f3 rfl
        simp [Value.cells, o3, t3, Try.cells3] at g3
        obtain ⟨x3, e3, _, _⟩ := DataW.trod_int Try.underlying3 g3
        simp only [List.cons.injEq, and_true] at e3
        subst e3
        have g4 := hf 4 f4 rfl
        simp [Value.cells, o4, t4, Try.cells3] at g4
        obtain ⟨x4, e4, _, _⟩ := DataW.trod_int Try.underlying3 g4
        simp only [List.cons.injEq, and_true] at e4
        subst e4
        have g5 := hf 5 f5 rfl
        simp [Value.cells, o5, t5, Try.cells3] at g5
        obtain ⟨x5, e5, _, _⟩ := DataW.trod_int Try.underlying3 g5
        simp only [List.cons.injEq, and_true] at e5
        subst e5
        have g6 := hf 6 f6 rfl
        simp [Value.cells, o6, t6, Try.cells3] at g6
        obtain ⟨x6, e6, _, _⟩ := DataW.trod_int Try.underlying3 g6
        simp only [List.cons.injEq, and_true] at e6
        subst e6
        have g7 := hf 7 f7 rfl
        simp [Value.cells, o7, t7, Try.cells3] at g7
        obtain ⟨x7, e7, _, _⟩ := DataW.trod_int Try.underlying3 g7
        simp only [List.cons.injEq, and_true] at e7
        subst e7
        have g8 := hf 8 f8 rfl
        simp [Value.cells, o8, t8, Try.cells4] at g8
        obtain ⟨x8, e8, _⟩ := DataW.trod_bool Try.underlying4 g8
        simp only [List.cons.injEq, and_true] at e8
        subst e8
        have g9 := hf 9 f9 rfl
        simp [Value.cells, o9, t9, Try.cells3] at g9
        obtain ⟨x9, e9, _, _⟩ := DataW.trod_int Try.underlying3 g9
        simp only [List.cons.injEq, and_true] at e9
        subst e9
        have g10 := hf 10 f10 rfl
        simp [Value.cells, o10, t10, Try.cells3] at g10
        obtain ⟨x10, e10, _, _⟩ := DataW.trod_int Try.underlying3 g10
        simp only [List.cons.injEq, and_true] at e10
        subst e10
        have g11 := hf 11 f11 rfl
        simp [Value.cells, o11, t11, Try.cells3] at g11
        obtain ⟨x11, e11, _, _⟩ := DataW.trod_int Try.underlying3 g11
        simp only [List.cons.injEq, and_true] at e11
        subst e11
        have g12 := hf 12 f12 rfl
        simp [Value.cells, o12, t12, Try.cells3] at g12
        obtain ⟨x12, e12, _, _⟩ := DataW.trod_int Try.underlying3 g12
        simp only [List.cons.injEq, and_true] at e12
        subst e12
        have g13 := hf 13 f13 rfl
        simp [Value.cells, o13, t13, Try.cells4] at g13
        obtain ⟨x13, e13, _⟩ := DataW.trod_bool Try.underlying4 g13
        simp only [List.cons.injEq, and_true] at e13
        subst e13
        exact ⟨⟨x0, x1, x2, x3, x4, x5, x6, x7, x8, x9, x10, x11, x12, x13⟩, rfl⟩
  | _ => simp at hfs
theorem Try.bytes4 : Try.prog.bytesOf 4 = 1 := by kernel_rfl
/-- bools that came in, their number within the reach -/
theorem open_boolsz {H : Type} {enc : TypeId × Value → H} {W : World} {sp : Nat → Bool} {held : Bool} {A : Option Addr} {n c : Nat} {d : DataW H} {p : List MemPlace}
    (h : DataW.Trod enc Try.prog W 0 sp held 72 (.slice A n c) d p) (hw : ∀ n ∈ d.weights Try.prog 72, n ≤ reachBytes) : (∃ bs : List Bool, bs.length = n ∧ Arr W (· < W.heap.size) A n (fun i => .bool (bs.getD i false))) ∧ n ≤ 140737488351232 := by
  obtain ⟨fuel, hf⟩ := h
  rcases Deep.open_slice1 Try.underlying72 Try.cells4 hf with ⟨hcs, _⟩ | ⟨a, len, cap, m, nn, V, D, Pl, hcs, _, hl, hm, hmm, hx, hV⟩
  · simp [Value.cells] at hcs
    obtain ⟨rfl, rfl, rfl⟩ := hcs
    exact ⟨⟨[], rfl, fun i hi => by omega⟩, by omega⟩
  · simp [Value.cells] at hcs
    obtain ⟨rfl, rfl, rfl⟩ := hcs
    have hnm : n ≤ m := by rw [hmm]; split <;> omega
    have hv : ∀ i, i < n → ∃ b, W.cell? (a.add i) = some (.bool b) := by
      intro i hi
      obtain ⟨h0, t0⟩ := hV i (by omega)
      obtain ⟨x, e0, _⟩ := DataW.trod_bool Try.underlying4 t0
      simp only [List.cons.injEq, and_true] at e0
      exact ⟨x, by rw [h0, e0]⟩
    obtain ⟨q, hq⟩ := Deep.choose_lt hv
    refine ⟨⟨(List.range n).map q, by simp, fun i hi => ⟨a, rfl, ?_, ?_⟩⟩, ?_⟩
    · have := World.block_lt_of_cell? _ _ (hq i hi); rwa [add_block] at this
    · rw [hq i hi]; simp [hi]
    · simp only [Prod.mk.injEq] at hx
      obtain ⟨rfl, _⟩ := hx
      have := hw ((((List.range n).map D).length + ((List.range (m - n)).map fun j => D (n + j)).length) * Try.prog.bytesOf 4) (by simp only [DataW.weights, Try.underlying72]; exact List.mem_cons_self ..)
      rw [Try.bytes4] at this
      simp only [List.length_map, List.length_range, reachBytes] at this
      omega
end Go.Proofs.Ytkcokcanakljnaa
/-
  The law IsamNumbers: a module's numbers rise by one, whatever else is done.
-/
namespace Go.Proofs.Ytkcokcanakljnaa
open Go.ChangeShapes Go.WideShapes Go.ChangeAt Go.RowKit Go.Joins
theorem newOk_a : newOk 1 [] = true := by decide
theorem newOk_b : newOk 2 [1] = true := by decide
theorem num_up {n : Nat} (h : n ≤ 500) : IntKind.i64.wrap ((n : Int) + 1) = ((n + 1 : Nat) : Int) ∧ wrap64 ((n : Int) + 1) = ((n + 1 : Nat) : Int) := by
  refine ⟨?_, ?_⟩
  · rw [IntWalk.i64_in _ (by omega)]; omega
  · rw [w64 _ (by omega) (by omega)]; omega
theorem mintL_le (M : List Sl) (x : Sl) : (mintL M x).length ≤ M.length + 1 := by
  unfold mintL
  split
  · omega
  · simp
/-- what the loop keeps: the two modules, the oracle, the product's box -/
def NumbR (W : World) (b ga gb pb n k : Nat) (C : Array Value) (w : World) : Prop :=
  Has w ga 129 (mdC b 1 (accF 1 []) (n : Int)) ∧ Has w gb 129 (mdC b 2 (accF 2 [1]) (k : Int)) ∧ (∃ M, Orc w b b M ∧ M.length ≤ k) ∧ Has w pb 24 C ∧ New W w
set_option maxRecDepth 100000 in
set_option maxHeartbeats 4000000 in
theorem nums11_walk {W : World} (A : Option Addr) (m c : Nat) (y : (∃ bs : List Bool, bs.length = m ∧ Arr W (· < W.heap.size) A m (fun i => .bool (bs.getD i false))) ∧ m ≤ 140737488351232) (p : Pd) :
    Calls Try.prog 6 #[.slice A m c, p.V] W fun e w' => e = .returned (.bool true) ∧ New W w' := by
  obtain ⟨⟨bs, hbl, hA⟩, hm⟩ := y
  have HA := Lib.hid hA
  have Hm := Lib.hid hm
  clear hA hm hbl
  have HNa : Hid (∀ (b : Nat) (wx : World), Calls Try.prog 27 #[.int .i64 1, .pointer (some ⟨b, 0, none⟩), .slice none 0 0] wx fun e w' => (∃ g, e = .returned (.tuple #[.pointer (some ⟨g, 0, none⟩), .int .i64 0]) ∧ wx.heap.size ≤ g ∧ Has w' g 129 (mdC b 1 (accF 1 []) 0)) ∧ New wx w') := fun b wx => by
    refine (New_any 1 b [] none 0 0 wx (fun _ => False) rfl (by omega) (fun i hi => by omega) (fun k hk => hk.elim)).mono ?_
    rintro e w' ⟨h, hN⟩
    rcases h with ⟨h, _⟩ | ⟨_, h⟩
    · rw [newOk_a] at h; cases h
    · exact ⟨h, hN⟩
  have HNb : Hid (∀ (b s : Nat) (wx : World), Has wx s 3 #[.int .i64 1] → Calls Try.prog 27 #[.int .i64 2, .pointer (some ⟨b, 0, none⟩), .slice (some ⟨s, 0, none⟩) 1 1] wx fun e w' => (∃ g, e = .returned (.tuple #[.pointer (some ⟨g, 0, none⟩), .int .i64 0]) ∧ wx.heap.size ≤ g ∧ Has w' g 129 (mdC b 2 (accF 2 [1]) 0)) ∧ New wx w') := fun b s wx hs => by
    refine (New_any 2 b [1] _ 1 1 wx _ rfl (by omega) (row_arr1 (xs := [1]) hs) (fun k hk => by rw [hk]; exact hs.lt)).mono ?_
    rintro e w' ⟨h, hN⟩
    rcases h with ⟨h, _⟩ | ⟨_, h⟩
    · rw [newOk_b] at h; cases h
    · exact ⟨h, hN⟩
  have HSe : Hid (∀ (b g : Nat) (M : List Sl) (n : Int) (wx : World), Has wx g 129 (mdC b 1 (accF 1 []) n) → Orc wx b b M → M.length ≤ 1000 → Calls Try.prog 22 #[.pointer (some ⟨g, 0, none⟩), p.V] wx fun e w' => (∃ v, e = .returned v) ∧ (∃ M', Orc w' b b M' ∧ M'.length ≤ M.length + 1) ∧ Chg (OS b wx) wx w') := fun b g M n wx hG hM hm => by
    refine (Seal_any p b b g 1 n (accF 1 []) M wx hG hM hm).mono ?_
    intro e w' h
    unfold SealR SealP at h
    rcases h with ⟨_, h, hN⟩ | ⟨_, _, h, hN⟩ | ⟨_, _, ⟨A, c, h1, _⟩, h3, h4⟩
    · exact ⟨⟨_, h⟩, ⟨M, hM.new hN, by omega⟩, Chg.of_new hN⟩
    · exact ⟨⟨_, h⟩, ⟨M, hM.new hN, by omega⟩, Chg.of_new hN⟩
    · exact ⟨⟨_, h1⟩, ⟨_, h3, mintL_le _ _⟩, h4⟩
  obtain ⟨x0, x1, x2, x3, x4, x5, x6, x7, x8, x9, x10, x11, x12, x13⟩ := p
  have HSe : Hid (∀ (b g : Nat) (M : List Sl) (n : Int) (wx : World), Has wx g 129 (mdC b 1 (accF 1 []) n) → Orc wx b b M → M.length ≤ 1000 → Calls Try.prog 22 #[.pointer (some ⟨g, 0, none⟩), .agg #[.int .i64 x0, .int .i64 x1, .int .i64 x2, .int .i64 x3, .int .i64 x4, .int .i64 x5, .int .i64 x6, .int .i64 x7, .bool x8, .int .i64 x9, .int .i64 x10, .int .i64 x11, .int .i64 x12, .bool x13]] wx fun e w' => (∃ v, e = .returned v) ∧ (∃ M', Orc w' b b M' ∧ M'.length ≤ M.length + 1) ∧ Chg (OS b wx) wx w') := HSe.out
  show Calls _ _ #[_, .agg #[.int .i64 x0, .int .i64 x1, .int .i64 x2, .int .i64 x3, .int .i64 x4, .int .i64 x5, .int .i64 x6, .int .i64 x7, .bool x8, .int .i64 x9, .int .i64 x10, .int .i64 x11, .int .i64 x12, .bool x13]] _ _
  go_enter Try.func6, Try.ntmps6
  go_upto_region 1 with (fail)
  obtain ⟨w0, hw0⟩ : ∃ w0, w0 = W.alloc (.cells #[.int .i64 x0, .int .i64 x1, .int .i64 x2, .int .i64 x3, .int .i64 x4, .int .i64 x5, .int .i64 x6, .int .i64 x7, .bool x8, .int .i64 x9, .int .i64 x10, .int .i64 x11, .int .i64 x12, .bool x13] 24) := ⟨_, rfl⟩
  obtain ⟨pb, hpb⟩ : ∃ pb, pb = W.heap.size := ⟨_, rfl⟩
  have HP0 : Hid (Has w0 pb 24 #[.int .i64 x0, .int .i64 x1, .int .i64 x2, .int .i64 x3, .int .i64 x4, .int .i64 x5, .int .i64 x6, .int .i64 x7, .bool x8, .int .i64 x9, .int .i64 x10, .int .i64 x11, .int .i64 x12, .bool x13]) := by rw [hw0, hpb]; exact Has.new _ _ _
  have HN0 : Hid (New W w0) := by rw [hw0]; exact (Chg.refl _ _).alloc _
  rw [← hw0, ← hpb]
  clear hw0 hpb
  go_wp2_with fail
  with_reducible refine (awake11_any w0).mono ?_
  rintro e w1 ⟨rfl, hN⟩
  have HP1 := Lib.hid (HP0.out.keep hN)
  have HN1 := Lib.hid (HN0.out.then_new hN)
  clear hN HP0 HN0
  go_upto_region 4 with (fail)
  have hO := Orc.made w1
  obtain ⟨w2, hw2⟩ : ∃ w2, w2 = w1.alloc (.cells #[.map none, .slice none 0 0] 77) := ⟨_, rfl⟩
  obtain ⟨b, hb⟩ : ∃ b, b = w1.heap.size := ⟨_, rfl⟩
  have hm2 : New w1 w2 := by rw [hw2]; exact (Chg.refl _ _).alloc _
  have Hb : Hid (W.heap.size ≤ b) := by rw [hb]; exact HN1.out.size
  rw [← hw2, ← hb] at hO
  rw [← hw2, ← hb]
  have HO2 := Lib.hid hO
  have HP2 := Lib.hid (HP1.out.keep hm2)
  have HN2 := Lib.hid (HN1.out.then_new hm2)
  clear hO hw2 hb hm2 HP1 HN1
  go_wp2_with fail
  with_reducible refine (HNa.out _ _).mono ?_
  rintro e w3 ⟨⟨ga, rfl, hge, hG⟩, hN⟩
  have Hga : Hid (W.heap.size ≤ ga) := Nat.le_trans HN2.out.size hge
  have HG3 := Lib.hid hG
  have HO3 := Lib.hid (HO2.out.new hN)
  have HP3 := Lib.hid (HP2.out.keep hN)
  have HN3 := Lib.hid (HN2.out.then_new hN)
  clear hge hG hN HO2 HP2 HN2 HNa
  go_wp2_with fail
  have hs := Has.new w3 3 #[.int .i64 1]
  have hn : New w3 (w3.alloc (.cells #[.int .i64 1] 3)) := (Chg.refl _ _).alloc _
  generalize w3.alloc (.cells #[.int .i64 1] 3) = w3b at hs hn ⊢
  with_reducible refine (HNb.out _ _ _ hs).mono ?_
  rintro e w4 ⟨⟨gb, rfl, hge, hG⟩, hN⟩
  have Hgb : Hid (W.heap.size ≤ gb) := Nat.le_trans (HN3.out.then_new hn).size hge
  have Hab : Hid (ga ≠ gb) := fun e => by have h1 := HG3.out.lt; have h2 := hn.size; omega
  have HR4 : Hid (NumbR W b ga gb pb 0 0 #[.int .i64 x0, .int .i64 x1, .int .i64 x2, .int .i64 x3, .int .i64 x4, .int .i64 x5, .int .i64 x6, .int .i64 x7, .bool x8, .int .i64 x9, .int .i64 x10, .int .i64 x11, .int .i64 x12, .bool x13] w4) := ⟨HG3.out.keep (hn.then_new hN), hG, ⟨[], HO3.out.new (hn.then_new hN), Nat.le_refl _⟩, HP3.out.keep (hn.then_new hN), HN3.out.then_new (hn.then_new hN)⟩
  clear hs hn hge hG hN HG3 HO3 HP3 HN3 HNb
  go_wp2_with fail
  go_loopg [10, 11, 12] 500 (fun gk s10 s11 s12 wr => ∃ i n k : Nat, i ≤ m ∧ i ≤ 500 ∧ gk = 500 - i ∧ n + k = i ∧ s10 = .int .i64 n ∧ s11 = .int .i64 k ∧ s12 = .int .i64 i ∧ NumbR W b ga gb pb n k #[.int .i64 x0, .int .i64 x1, .int .i64 x2, .int .i64 x3, .int .i64 x4, .int .i64 x5, .int .i64 x6, .int .i64 x7, .bool x8, .int .i64 x9, .int .i64 x10, .int .i64 x11, .int .i64 x12, .bool x13] wr)
  case atStart => exact ⟨0, 0, 0, by omega, by omega, by omega, by omega, rfl, rfl, rfl, HR4.out⟩
  case round =>
    obtain ⟨i, n, k, hi1, hi2, rfl, hnk, rfl, rfl, rfl, hr⟩ := hrel
    have HR := Lib.hid hr
    have Hnk := Lib.hid hnk
    clear hr HR4
    by_cases l1 : i < m
    case neg =>
      have t1 : decide ((i : Int) < (m : Int)) = false := decide_eq_false (by omega)
      have t1' : decide (i < m) = false := decide_eq_false l1
      have HLa := Lib.hid (Last_any ga b 1 (n : Int) (accF 1 []) _ HR.out.1)
      have HLb := Lib.hid (Last_any gb b 2 (k : Int) (accF 2 [1]) _ HR.out.2.1)
      clear hi1 hi2 hnk l1
      go_wp2_with fail
      with_reducible refine HLa.out.mono ?_
      rintro e wz ⟨rfl, rfl⟩
      go_wp2_with fail
      with_reducible refine HLb.out.mono ?_
      rintro e wy ⟨rfl, rfl⟩
      go_wp2_with fail
      go_ret
      exact ⟨rfl, HR.out.2.2.2.2⟩
    have t1 : decide ((i : Int) < (m : Int)) = true := decide_eq_true (by omega)
    have t1' : decide (i < m) = true := decide_eq_true l1
    by_cases l2 : i < 500
    case neg =>
      have t2 : decide ((i : Int) < 500) = false := decide_eq_false (by omega)
      have t2' : decide (i < 500) = false := decide_eq_false l2
      have HLa := Lib.hid (Last_any ga b 1 (n : Int) (accF 1 []) _ HR.out.1)
      have HLb := Lib.hid (Last_any gb b 2 (k : Int) (accF 2 [1]) _ HR.out.2.1)
      clear hi1 hi2 hnk l1 l2
      go_wp2_with fail
      with_reducible refine HLa.out.mono ?_
      rintro e wz ⟨rfl, rfl⟩
      go_wp2_with fail
      with_reducible refine HLb.out.mono ?_
      rintro e wy ⟨rfl, rfl⟩
      go_wp2_with fail
      go_ret
      exact ⟨rfl, HR.out.2.2.2.2⟩
    have t2 : decide ((i : Int) < 500) = true := decide_eq_true (by omega)
    have t2' : decide (i < 500) = true := decide_eq_true l2
    obtain ⟨a, rfl, _, hcell⟩ := (HA.out.new HR.out.2.2.2.2 (fun _ h => h)) i l1
    dsimp only at hcell
    obtain ⟨q, hq⟩ : ∃ q, q = bs.getD i false := ⟨_, rfl⟩
    rw [← hq] at hcell
    clear hq
    have Hms : Hid (500 - (i + 1) < 500 - i ∧ i + 1 ≤ m ∧ i + 1 ≤ 500 ∧ n + 1 + k = i + 1 ∧ n + (k + 1) = i + 1 ∧ k ≤ 500 ∧ n ≤ 500 ∧ i ≤ 500) := by rw [Hid]; omega
    cases q with
    | true =>
      have HNx : Hid (Calls Try.prog 28 #[.pointer (some ⟨ga, 0, none⟩)] wr fun e w' => e = .returned (.tuple #[.int .i64 ((n + 1 : Nat) : Int), .int .i64 0]) ∧ NumbR W b ga gb pb (n + 1) k #[.int .i64 x0, .int .i64 x1, .int .i64 x2, .int .i64 x3, .int .i64 x4, .int .i64 x5, .int .i64 x6, .int .i64 x7, .bool x8, .int .i64 x9, .int .i64 x10, .int .i64 x11, .int .i64 x12, .bool x13] w') := by
        refine (Next_any ga b 1 (n : Int) (accF 1 []) wr HR.out.1 (by omega)).mono ?_
        rintro e w' ⟨rfl, hG, hC⟩
        obtain ⟨h1, h2, ⟨M, h3, h4⟩, h5, h6⟩ := HR.out
        refine ⟨by push_cast; rfl, by push_cast; exact hG, h2.chg hC (fun e => Hab.out e.symm), ⟨M, h3.setg h1 (by decide) (by decide) hC, h4⟩, h5.chg hC (fun e => (h5.apart h1 (by decide)) e), h6.trans hC (fun j hj e => by have := Hga.out; omega)⟩
      obtain ⟨n1, n1'⟩ := num_up Hms.out.2.2.2.2.2.2.1
      obtain ⟨k1, k1'⟩ := num_up Hms.out.2.2.2.2.2.1
      obtain ⟨i1, i1'⟩ := num_up Hms.out.2.2.2.2.2.2.2
      have l1i : (i : Int) < (m : Int) := Int.ofNat_lt.2 l1
      clear hi1 hi2 hnk l2
      go_wp2_with fail
      with_reducible refine HNx.out.mono ?_
      rintro e w5 ⟨rfl, hR5⟩
      have HR5 := Lib.hid hR5
      have e1 : (((n + 1 : Nat) : Int) != ((n + 1 : Nat) : Int)) = false := by simp
      clear hR5 HNx HR
      go_wp2_with fail
      go_roundg (500 - (i + 1))
      case measure => exact Hms.out.1
      case rel => exact ⟨i + 1, n + 1, k, Hms.out.2.1, Hms.out.2.2.1, rfl, Hms.out.2.2.2.1, by first | with_reducible rfl | rw [n1] | rw [k1] | rw [i1] | (push_cast; with_reducible rfl), rfl, by first | with_reducible rfl | rw [n1] | rw [k1] | rw [i1] | (push_cast; with_reducible rfl), HR5.out⟩
    | false =>
      have HNx : Hid (Calls Try.prog 28 #[.pointer (some ⟨gb, 0, none⟩)] wr fun e w' => e = .returned (.tuple #[.int .i64 ((k + 1 : Nat) : Int), .int .i64 0]) ∧ Has w' ga 129 (mdC b 1 (accF 1 []) (n : Int)) ∧ Has w' gb 129 (mdC b 2 (accF 2 [1]) ((k + 1 : Nat) : Int)) ∧ (∃ M, Orc w' b b M ∧ M.length ≤ k) ∧ Has w' pb 24 #[.int .i64 x0, .int .i64 x1, .int .i64 x2, .int .i64 x3, .int .i64 x4, .int .i64 x5, .int .i64 x6, .int .i64 x7, .bool x8, .int .i64 x9, .int .i64 x10, .int .i64 x11, .int .i64 x12, .bool x13] ∧ New W w') := by
        refine (Next_any gb b 2 (k : Int) (accF 2 [1]) wr HR.out.2.1 (by omega)).mono ?_
        rintro e w' ⟨rfl, hG, hC⟩
        obtain ⟨h1, h2, ⟨M, h3, h4⟩, h5, h6⟩ := HR.out
        exact ⟨by push_cast; rfl, h1.chg hC (fun e => Hab.out e), by push_cast; exact hG, ⟨M, h3.setg h2 (by decide) (by decide) hC, h4⟩, h5.chg hC (fun e => (h5.apart h2 (by decide)) e), h6.trans hC (fun j hj e => by have := Hgb.out; omega)⟩
      obtain ⟨n1, n1'⟩ := num_up Hms.out.2.2.2.2.2.2.1
      obtain ⟨k1, k1'⟩ := num_up Hms.out.2.2.2.2.2.1
      obtain ⟨i1, i1'⟩ := num_up Hms.out.2.2.2.2.2.2.2
      have l1i : (i : Int) < (m : Int) := Int.ofNat_lt.2 l1
      clear hi1 hi2 hnk l2
      go_wp2_with fail
      with_reducible refine HNx.out.mono ?_
      rintro e w5 ⟨rfl, h1, h2, ⟨M, h3, h4⟩, h5, h6⟩
      have H1 := Lib.hid h1
      have H2 := Lib.hid h2
      have H4 := Lib.hid h4
      have H5 := Lib.hid h5
      have H6 := Lib.hid h6
      have HSc := Lib.hid (HSe.out b ga M (n : Int) w5 h1 h3 (by have := H4.out; have := Hms.out.2.2.2.2.2.1; omega))
      have e1 : (((k + 1 : Nat) : Int) != ((k + 1 : Nat) : Int)) = false := by simp
      clear h1 h2 h3 h4 h5 h6 HNx HR
      have c0 : w5.cell? ⟨pb, 0, none⟩ = some (.int .i64 x0) := (H5.out.cell 0).trans rfl
      have c1 : w5.cell? ⟨pb, 1, none⟩ = some (.int .i64 x1) := (H5.out.cell 1).trans rfl
      have c2 : w5.cell? ⟨pb, 2, none⟩ = some (.int .i64 x2) := (H5.out.cell 2).trans rfl
      have c3 : w5.cell? ⟨pb, 3, none⟩ = some (.int .i64 x3) := (H5.out.cell 3).trans rfl
      have c4 : w5.cell? ⟨pb, 4, none⟩ = some (.int .i64 x4) := (H5.out.cell 4).trans rfl
      have c5 : w5.cell? ⟨pb, 5, none⟩ = some (.int .i64 x5) := (H5.out.cell 5).trans rfl
      have c6 : w5.cell? ⟨pb, 6, none⟩ = some (.int .i64 x6) := (H5.out.cell 6).trans rfl
      have c7 : w5.cell? ⟨pb, 7, none⟩ = some (.int .i64 x7) := (H5.out.cell 7).trans rfl
      have c8 : w5.cell? ⟨pb, 8, none⟩ = some (.bool x8) := (H5.out.cell 8).trans rfl
      have c9 : w5.cell? ⟨pb, 9, none⟩ = some (.int .i64 x9) := (H5.out.cell 9).trans rfl
      have c10 : w5.cell? ⟨pb, 10, none⟩ = some (.int .i64 x10) := (H5.out.cell 10).trans rfl
      have c11 : w5.cell? ⟨pb, 11, none⟩ = some (.int .i64 x11) := (H5.out.cell 11).trans rfl
      have c12 : w5.cell? ⟨pb, 12, none⟩ = some (.int .i64 x12) := (H5.out.cell 12).trans rfl
      have c13 : w5.cell? ⟨pb, 13, none⟩ = some (.bool x13) := (H5.out.cell 13).trans rfl
      go_wp2_with fail
      with_reducible refine HSc.out.mono ?_
      rintro e w6 ⟨⟨v, rfl⟩, ⟨M', hM', hl'⟩, hC⟩
      have HR6 : Hid (NumbR W b ga gb pb n (k + 1) #[.int .i64 x0, .int .i64 x1, .int .i64 x2, .int .i64 x3, .int .i64 x4, .int .i64 x5, .int .i64 x6, .int .i64 x7, .bool x8, .int .i64 x9, .int .i64 x10, .int .i64 x11, .int .i64 x12, .bool x13] w6) := ⟨H1.out.chg hC (not_OS H1.out (by decide) (by decide)), H2.out.chg hC (not_OS H2.out (by decide) (by decide)), ⟨M', hM', Nat.le_trans hl' (Nat.succ_le_succ H4.out)⟩, H5.out.chg hC (not_OS H5.out (by decide) (by decide)), H6.out.trans hC (fun j hj h => absurd (Nat.le_trans Hb.out h.1) (Nat.not_le.2 hj))⟩
      clear hM' hl' hC HSc H1 H2 H4 H5 H6
      clear c0 c1 c2 c3 c4 c5 c6 c7 c8 c9 c10 c11 c12 c13
      go_wp2_with fail
      go_roundg (500 - (i + 1))
      case measure => exact Hms.out.1
      case rel => exact ⟨i + 1, n, k + 1, Hms.out.2.1, Hms.out.2.2.1, rfl, Hms.out.2.2.2.2.1, rfl, by first | with_reducible rfl | rw [n1] | rw [k1] | rw [i1] | (push_cast; with_reducible rfl), by first | with_reducible rfl | rw [n1] | rw [k1] | rw [i1] | (push_cast; with_reducible rfl), HR6.out⟩
end Go.Proofs.Ytkcokcanakljnaa
/-
  For every input the law IsamNumbers of layer 11 returns true, and its arguments read afterwards as before. No condition.
-/
namespace Go.Proofs.Ytkcokcanakljnaa
open Go.ChangeShapes Go.WideShapes Go.ChangeAt Go.RowKit
set_option linter.unusedVariables false

set_option maxRecDepth 100000 in
theorem isamNumbers_lifted (os : Os) (started : os.Started) (H : Type) (enc : TypeId × Value → H) :
    ReturnsInHanded {} Try.checked os 6 .any (Rows.isamNumbersSpec.pre6 enc Try.prog Try.f6 Rows.isamNumbersRow.domain false) (Rows.isamNumbersSpec.post enc Try.prog Try.f6 false true false false) := by
  refine returnsInHanded_of_change_sized (C := Try.checked) Try.own started (by kernel_rfl) Try.func6
    (ChangeSpec.witness6 (enc := enc) (C := Try.checked) false ⟨#[], #[.slice none 0 0, .agg #[.int .i64 0, .int .i64 0, .int .i64 0, .int .i64 0, .int .i64 0, .int .i64 0, .int .i64 0, .int .i64 0, .bool false, .int .i64 0, .int .i64 0, .int .i64 0, .int .i64 0, .bool false]], []⟩ 8 (by kernel_rfl) (by kernel_rfl) (by kernel_rfl) (by kernel_rfl)) ?_
  intro W base args ds gs before hval0 hW hcnd hsz0 _
  have hsz : (DataW.weightsEach Try.prog (Try.f6.params.toList ++ Rows.isamNumbersSpec.plain.varTypes Try.prog) (ds ++ gs)).all (· ≤ reachBytes) = true := hsz0
  clear hsz0
  have hval : ∀ (j : Nat) t v, Try.f6.params[j]? = some t → args[j]? = some v → Value.okWide Try.prog W .any base t v := hval0
  have hW' := hW
  obtain ⟨p, q, hA0, hV, rfl, hfz, hnd⟩ := hW
  have hA : DataW.TrodAll enc Try.prog W 0 (fun _ => true) true Try.f6.params.toList args.toList ds p := hA0
  rw [Try.params6] at hA hval hsz
  obtain ⟨v0, vs0, d0, ds0, p0, q0, hargs, rfl, rfl, h0, r0⟩ := trodAll_cons hA
  obtain ⟨v1, vs1, d1, ds1, p1, q1, rfl, rfl, rfl, h1, r1⟩ := trodAll_cons r0
  obtain ⟨rfl, rfl, rfl⟩ := trodAll_nil r1
  obtain rfl : args = #[v0, v1] := by cases args; simp_all
  obtain ⟨rfl, rfl⟩ := trodVars_none hV
  obtain ⟨a0, len0, cap0, rfl⟩ := okWide_slice Try.underlying72 (hval 0 72 v0 rfl rfl)
  have k0 := h0
  have lt0 : ∀ x ∈ p0, x.block < W.heap.size := by obtain ⟨m, hm⟩ := k0; exact DataW.trod_lt m _ _ _ hm
  have z0 := open_boolsz h0 (fun n hn => by have := List.all_eq_true.1 hsz n (DataW.weights_mem_each (j := 0) rfl rfl n hn); simpa using this)
  obtain ⟨y1, rfl⟩ := open_product (hval 1 24 v1 rfl rfl) h1
  have k1 := h1
  have lt1 : ∀ x ∈ p1, x.block < W.heap.size := by obtain ⟨m, hm⟩ := k1; exact DataW.trod_lt m _ _ _ hm
  clear hA0 hval0
  refine (nums11_walk a0 len0 cap0 z0 y1).mono fun e W' ⟨he, bel0⟩ => ?_
  have bel := New.below bel0
  subst he
  exact ⟨_, rfl, _, _, _, [], _, [], hW', trodAll_mk1 (shut_bool Try.underlying4 _), (trodAll_cons_mk (Below.trod Try.laidOut (by kernel_rfl) (of_decide_eq_true (by kernel_rfl)) k0 bel lt0) (trodAll_cons_mk (Below.trod Try.laidOut (by kernel_rfl) (of_decide_eq_true (by kernel_rfl)) k1 bel lt1) trodAll_mk0)), rfl, bel.frame _, fun h => by cases h⟩

theorem isamNumbers_holds : Rows.IsamNumbersSaid :=
  OpenClaim.holds_of_wide 6 Try.f6 rfl rfl rfl rfl rfl rfl rfl ⟨rfl, rfl, rfl, rfl, rfl⟩ rfl rfl rfl rfl rfl (by kernel_rfl) Try.func6 (by kernel_rfl)
    (of_decide_eq_true (by kernel_rfl)) (by unfold Func.isWrapper; first | (rw [if_pos (by decide +kernel)]; kernel_rfl) | (rw [if_neg (by decide +kernel)]; exact ⟨rfl, rfl⟩))
    (fun os started H enc _ => isamNumbers_lifted os started H enc)
end Go.Proofs.Ytkcokcanakljnaa
