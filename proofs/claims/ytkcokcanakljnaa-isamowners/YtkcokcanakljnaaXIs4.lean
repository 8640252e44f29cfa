/-
  Layer 11's laws: the document's examples.
-/
import Derived.Test.YtkcokcanakljnaaXIs2
import Derived.Test.YtkcokcanakljnaaIqA
import Derived.Test.YtkcokcanakljnaaSizes
import Derived.Shelf.RegionOpen
import Derived.Test.YtkcokcanakljnaaXIs1
namespace Go.Proofs.Ytkcokcanakljnaa
open Go.ChangeShapes Go.WideShapes Go.ChangeAt Go.RowKit Go.Joins
def pur : Pd := ⟨1, 2, 9, 7, 1, 500, 0, 0, false, 0, 0, 0, 0, false⟩
theorem right_all11 {m : List Int} (hl : m.length = 14) (h : ∀ j : Fin 14, 0 ≤ m.getD j 0 ∧ m.getD j 0 ≤ mosts.getD j 0 ∧ (j.val < 5 → m.getD j 0 ≠ 0)) : RightN m := ⟨hl, fun j hj => h ⟨j, hj⟩⟩
theorem right_pur : RightN pur.ns := right_all11 rfl (by decide)
set_option maxRecDepth 100000 in
theorem purse11_any (w : World) : Calls Try.prog 55 #[] w fun e w' => e = .returned (.agg #[.int .i64 1, .int .i64 2, .int .i64 9, .int .i64 7, .int .i64 1, .int .i64 500, .int .i64 0, .int .i64 0, .bool false, .int .i64 0, .int .i64 0, .int .i64 0, .int .i64 0, .bool false]) ∧ New w w' := by
  go_enter Try.func55, Try.ntmps55
  go_wp2_with fail
  have hX := Has.new w 24 #[.int .i64 1, .int .i64 2, .int .i64 9, .int .i64 7, .int .i64 1, .int .i64 500, .int .i64 0, .int .i64 0, .bool false, .int .i64 0, .int .i64 0, .int .i64 0, .int .i64 0, .bool false]
  have hN : New w (w.alloc (.cells #[.int .i64 1, .int .i64 2, .int .i64 9, .int .i64 7, .int .i64 1, .int .i64 500, .int .i64 0, .int .i64 0, .bool false, .int .i64 0, .int .i64 0, .int .i64 0, .int .i64 0, .bool false] 24)) := (Chg.refl _ _).alloc _
  generalize w.alloc (.cells #[.int .i64 1, .int .i64 2, .int .i64 9, .int .i64 7, .int .i64 1, .int .i64 500, .int .i64 0, .int .i64 0, .bool false, .int .i64 0, .int .i64 0, .int .i64 0, .int .i64 0, .bool false] 24) = wX at hX hN ⊢
  have g0 := (hX.cell 0).trans rfl
  have g1 := (hX.cell 1).trans rfl
  have g2 := (hX.cell 2).trans rfl
  have g3 := (hX.cell 3).trans rfl
  have g4 := (hX.cell 4).trans rfl
  have g5 := (hX.cell 5).trans rfl
  have g6 := (hX.cell 6).trans rfl
  have g7 := (hX.cell 7).trans rfl
  have g8 := (hX.cell 8).trans rfl
  have g9 := (hX.cell 9).trans rfl
  have g10 := (hX.cell 10).trans rfl
  have g11 := (hX.cell 11).trans rfl
  have g12 := (hX.cell 12).trans rfl
  have g13 := (hX.cell 13).trans rfl
  refine bodyPost_ret (v := .agg #[.int .i64 1, .int .i64 2, .int .i64 9, .int .i64 7, .int .i64 1, .int .i64 500, .int .i64 0, .int .i64 0, .bool false, .int .i64 0, .int .i64 0, .int .i64 0, .int .i64 0, .bool false]) (by simp [results, Try.results55, go_sem, g0, g1, g2, g3, g4, g5, g6, g7, g8, g9, g10, g11, g12, g13]) rfl ?_
  exact ⟨rfl, hN⟩
theorem cv2a (w : World) : (convert 27 27 (.slice (some ⟨w.heap.size, 0, none⟩) 2 2)).run Try.prog (w.alloc (.cells #[.int .u8 97, .int .u8 98] 5)) = .ok (.slice (some ⟨w.heap.size, 0, none⟩) 2 2) (w.alloc (.cells #[.int .u8 97, .int .u8 98] 5 (2, 3))) :=
  Joins.run_convert_bytes_const_at (P := Try.prog) w 27 5 #[.int .u8 97, .int .u8 98] 2 2 w.heap.size rfl Try.underlying27 Try.underlying5
theorem body_small {m : List Int} (h : RightN m) {t : Nat} (ht : t ≤ 2147483647) : ∀ x ∈ bodyN m t, x < 256 := by
  intro x hx
  have hl := form_len h
  unfold bodyN tokB at hx
  rcases List.mem_cons.1 hx with h1 | hx
  · omega
  rcases List.mem_append.1 hx with h1 | hx
  · exact form_small h x h1
  rcases List.mem_append.1 hx with h1 | hx
  · simp only [List.mem_cons, List.not_mem_nil, or_false] at h1
    omega
  · rw [(List.mem_replicate.1 hx).2]; omega
theorem newOk_1 : newOk 1 [2] = true := by decide
theorem acc_2 : accB (accF 1 [2]) 2 = true := by decide
theorem two_held {w : World} {p q : Nat} {t u : TypeId} {y0 y1 y2 y3 y4 y5 y6 y7 y8 y9 y10 y11 y12 y13 z0 z1 z2 z3 z4 : Value} (h : Has w p t #[y0, y1, y2, y3, y4, y5, y6, y7, y8, y9, y10, y11, y12, y13]) (h' : Has w q u #[z0, z1, z2, z3, z4]) : w.cell? ⟨p, 0, none⟩ = some y0 ∧ w.cell? ⟨p, 1, none⟩ = some y1 ∧ w.cell? ⟨p, 2, none⟩ = some y2 ∧ w.cell? ⟨p, 3, none⟩ = some y3 ∧ w.cell? ⟨p, 4, none⟩ = some y4 ∧ w.cell? ⟨p, 5, none⟩ = some y5 ∧ w.cell? ⟨p, 6, none⟩ = some y6 ∧ w.cell? ⟨p, 7, none⟩ = some y7 ∧ w.cell? ⟨p, 8, none⟩ = some y8 ∧ w.cell? ⟨p, 9, none⟩ = some y9 ∧ w.cell? ⟨p, 10, none⟩ = some y10 ∧ w.cell? ⟨p, 11, none⟩ = some y11 ∧ w.cell? ⟨p, 12, none⟩ = some y12 ∧ w.cell? ⟨p, 13, none⟩ = some y13 ∧ w.cell? ⟨q, 0, none⟩ = some z0 ∧ w.cell? ⟨q, 1, none⟩ = some z1 ∧ w.cell? ⟨q, 2, none⟩ = some z2 ∧ w.cell? ⟨q, 3, none⟩ = some z3 ∧ w.cell? ⟨q, 4, none⟩ = some z4 :=
  ⟨(h.cell 0).trans rfl, (h.cell 1).trans rfl, (h.cell 2).trans rfl, (h.cell 3).trans rfl, (h.cell 4).trans rfl, (h.cell 5).trans rfl, (h.cell 6).trans rfl, (h.cell 7).trans rfl, (h.cell 8).trans rfl, (h.cell 9).trans rfl, (h.cell 10).trans rfl, (h.cell 11).trans rfl, (h.cell 12).trans rfl, (h.cell 13).trans rfl, (h'.cell 0).trans rfl, (h'.cell 1).trans rfl, (h'.cell 2).trans rfl, (h'.cell 3).trans rfl, (h'.cell 4).trans rfl⟩
theorem mintN_0 (x : Sl) : mintN [] x = 1 := by simp [mintN]
theorem mintL_0 (x : Sl) : mintL [] x = [x] := by simp [mintL]
theorem holds_own (x : Sl) : holdsB [x] x 1 = true := by simp [holdsB, atN]
theorem pur_ne (bs : List Nat) : msgS 1 1 0 bs ≠ prS pur := by
  intro h
  have := congrArg Sl.t h
  simp [msgS, prS, pur] at this
theorem mintN_2 (bs : List Nat) : mintN [prS pur] (msgS 1 1 0 bs) = 2 := by simp [mintN, pur_ne bs]
theorem mintL_2 (bs : List Nat) : mintL [prS pur] (msgS 1 1 0 bs) = [prS pur, msgS 1 1 0 bs] := by simp [mintL, pur_ne bs]
theorem holds_2 (bs : List Nat) : holdsB [prS pur, msgS 1 1 0 bs] (msgS 1 1 0 bs) 2 = true := by
  have h : prS pur ≠ msgS 1 1 0 bs := fun h => pur_ne bs h.symm
  have hb : (prS pur == msgS 1 1 0 bs) = false := beq_eq_false_iff_ne.2 h
  simp [holdsB, atN, List.idxOf_cons, hb]
theorem open_pur (acc : Nat → Bool) (ha : accB acc 2 = true) : opnI acc [prS pur] 7 1 2 9 (bodyN pur.ns 1) = (pur, 0) := by
  have ho := open_body right_pur (t := 1) (by omega) (by omega)
  obtain ⟨h1, h2, h3⟩ := opn_r ho
  rw [Pd.of_ns] at h1
  unfold opnI
  rw [h1, h2, h3, if_neg (by simp), if_neg (by decide), if_neg (by rw [show pur.x1 = 2 from rfl, ha]; simp), if_neg (by rw [show ((1 : Nat) : Int) = 1 from rfl, holds_own]; simp)]
set_option maxRecDepth 100000 in
set_option maxHeartbeats 4000000 in
theorem awake11_any (w : World) : Calls Try.prog 20 #[] w fun e w' => e = .returned (.bool true) ∧ New w w' := by
  have HPu := Lib.hid purse11_any
  have HNe : Hid (∀ (b s : Nat) (wx : World), Has wx s 3 #[.int .i64 2] → Calls Try.prog 27 #[.int .i64 1, .pointer (some ⟨b, 0, none⟩), .slice (some ⟨s, 0, none⟩) 1 1] wx fun e w' => (∃ g, e = .returned (.tuple #[.pointer (some ⟨g, 0, none⟩), .int .i64 0]) ∧ wx.heap.size ≤ g ∧ Has w' g 129 (mdC b 1 (accF 1 [2]) 0)) ∧ New wx w') := fun b s wx hs => by
    refine (New_any 1 b [2] _ 1 1 wx _ rfl (by omega) (row_arr1 (xs := [2]) hs) (fun k hk => by rw [hk]; exact hs.lt)).mono ?_
    rintro e w' ⟨h, hN⟩
    rcases h with ⟨h, _⟩ | ⟨_, h⟩
    · rw [newOk_1] at h; cases h
    · exact ⟨h, hN⟩
  have HSe : Hid (∀ (b g : Nat) (wx : World), Has wx g 129 (mdC b 1 (accF 1 [2]) 0) → Orc wx b b [] → Calls Try.prog 22 #[.pointer (some ⟨g, 0, none⟩), .agg #[.int .i64 1, .int .i64 2, .int .i64 9, .int .i64 7, .int .i64 1, .int .i64 500, .int .i64 0, .int .i64 0, .bool false, .int .i64 0, .int .i64 0, .int .i64 0, .int .i64 0, .bool false]] wx fun e w' => ∃ A c, e = .returned (.tuple #[.slice A 64 c, .int .i64 0]) ∧ w'.ownsRow wx.heap.size 5 1 (.slice A 64 c) 64 ((bodyN pur.ns 1).map bV) ∧ Orc w' b b [prS pur] ∧ Chg (OS b wx) wx w') := fun b g wx hG hM => by
    refine (Seal_any pur b b g 1 0 (accF 1 [2]) [] wx hG hM (by simp)).mono ?_
    intro e w' h
    unfold SealR SealP at h
    rw [rightN_yes right_pur, show accB (accF 1 [2]) pur.x1 = true from acc_2, mintN_0, mintL_0] at h
    rcases h with ⟨h, _⟩ | ⟨_, h, _⟩ | ⟨_, _, ⟨A, c, h1, h2⟩, h3, h4⟩
    · cases h
    · cases h
    · exact ⟨A, c, h1, h2, h3, h4⟩
  have HOp : Hid (∀ (b g c : Nat) (A : Option Addr) (w0 wx : World), Has wx g 129 (mdC b 1 (accF 1 [2]) 0) → Orc wx b b [prS pur] → wx.ownsRow w0.heap.size 5 1 (.slice A 64 c) 64 ((bodyN pur.ns 1).map bV) → Calls Try.prog 23 #[.pointer (some ⟨g, 0, none⟩), .int .i64 7, .agg #[.int .i64 1, .int .i64 2, .int .i64 9, .int .i64 0], .slice A 64 c] wx fun e w' => e = .returned (.tuple #[.agg #[.int .i64 1, .int .i64 2, .int .i64 9, .int .i64 7, .int .i64 1, .int .i64 500, .int .i64 0, .int .i64 0, .bool false, .int .i64 0, .int .i64 0, .int .i64 0, .int .i64 0, .bool false], .int .i64 0]) ∧ New wx w') := fun b g c A w0 wx hG hM hO => by
    have := Open_any 7 1 2 9 0 (bodyN pur.ns 1) 64 c A _ b b g 1 0 (accF 1 [2]) [prS pur] wx hG hM (Byts.own_any hO (Chg.refl _ _) (body_small right_pur (by omega)) (by omega)) (own_cap hO) (own_max hO) (fun k hk => hk)
    rw [open_pur _ acc_2] at this
    exact this
  have HPo : Hid (∀ (b g s : Nat) (wx : World) (F : Nat → Prop), Has wx g 129 (mdC b 1 (accF 1 [2]) 1) → Orc wx b b [prS pur] → Byts wx F (.slice (some ⟨s, 0, none⟩) 2 2) [97, 98] → (∀ k, F k → k < wx.heap.size) → Calls Try.prog 25 #[.pointer (some ⟨g, 0, none⟩), .int .i64 1, .int .i64 0, .slice (some ⟨s, 0, none⟩) 2 2] wx fun e w' => ∃ A' c', e = .returned (.tuple #[.agg #[.int .i64 1, .int .i64 1, .int .i64 0, .slice A' 2 c', .int .i64 2], .int .i64 0]) ∧ w'.ownsRow wx.heap.size 5 1 (.slice A' 2 c') 2 (([97, 98] : List Nat).map bV) ∧ Orc w' b b [prS pur, msgS 1 1 0 [97, 98]] ∧ Chg (OS b wx) wx w') := fun b g s wx F hG hM hB hF => by
    have := Post_yes 1 1 0 (some ⟨s, 0, none⟩) 2 2 [97, 98] F b b g 1 (accF 1 [2]) [prS pur] wx hG hM (by simp) hB hF (by omega) (by decide)
    rw [mintN_2, mintL_2] at this
    exact this
  have HCh : Hid (∀ (b g c : Nat) (A : Option Addr) (w0 wx : World), Has wx g 129 (mdC b 1 (accF 1 [2]) 1) → Orc wx b b [prS pur, msgS 1 1 0 [97, 98]] → wx.ownsRow w0.heap.size 5 1 (.slice A 2 c) 2 (([97, 98] : List Nat).map bV) → Calls Try.prog 26 #[.pointer (some ⟨g, 0, none⟩), .agg #[.int .i64 1, .int .i64 1, .int .i64 0, .slice A 2 c, .int .i64 2]] wx fun e w' => e = .returned (.int .i64 0) ∧ New wx w') := fun b g c A w0 wx hG hM hO => by
    have := Check_yes 1 1 0 2 A 2 c [97, 98] _ b b g 1 1 (accF 1 [2]) _ wx hG hM (Byts.own_any hO (Chg.refl _ _) (by decide) (by omega)) (fun k hk => hk) (by omega) (by decide)
    rw [holds_2] at this
    exact this
  have HLe : Hid (∀ (b : Nat) (wx : World), Orc wx b b [prS pur, msgS 1 1 0 [97, 98]] → Calls Try.prog 30 #[.pointer (some ⟨b, 0, none⟩)] wx fun e w' => e = .returned (.int .i64 2) ∧ w' = wx) := fun b wx h => Len_any b b _ wx h
  go_enter Try.func20, Try.ntmps20
  go_upto_region 2 with (fail)
  have hO := Orc.made w
  obtain ⟨w1, hw1⟩ : ∃ w1, w1 = w.alloc (.cells #[.map none, .slice none 0 0] 77) := ⟨_, rfl⟩
  obtain ⟨b, hb⟩ : ∃ b, b = w.heap.size := ⟨_, rfl⟩
  have hN1 : New w w1 := by rw [hw1]; exact (Chg.refl _ _).alloc _
  rw [← hw1, ← hb] at hO
  rw [← hw1, ← hb]
  have Hb := Lib.hid hb
  have HO1 := Lib.hid hO
  have HN1 := Lib.hid hN1
  clear hO hN1 hw1 hb
  go_wp2_with fail
  have hs := Has.new w1 3 #[.int .i64 2]
  have hn : New w1 (w1.alloc (.cells #[.int .i64 2] 3)) := (Chg.refl _ _).alloc _
  generalize w1.alloc (.cells #[.int .i64 2] 3) = w1b at hs hn ⊢
  with_reducible refine (HNe.out _ _ _ hs).mono ?_
  rintro e w2 ⟨⟨g, rfl, hge, hG⟩, hN⟩
  have Hgw : Hid (w.heap.size ≤ g) := Nat.le_trans (HN1.out.then_new hn).size hge
  clear hge
  have HG2 := Lib.hid hG
  have HO2 := Lib.hid (HO1.out.new (hn.then_new hN))
  have HN2 := Lib.hid (HN1.out.then_new (hn.then_new hN))
  clear hs hn hG hN HNe HO1 HN1
  go_wp2_with fail
  with_reducible refine (HPu.out _).mono ?_
  rintro e w3 ⟨rfl, hN⟩
  have HG3 := Lib.hid (HG2.out.keep hN)
  have HO3 := Lib.hid (HO2.out.new hN)
  have HN3 := Lib.hid (HN2.out.then_new hN)
  clear hN HG2 HO2 HN2
  go_wp2_with fail
  with_reducible refine (HSe.out _ _ _ HG3.out HO3.out).mono ?_
  rintro e w4 ⟨A4, c4, rfl, hB4, hO4, hC4⟩
  have HG4 := Lib.hid (HG3.out.chg hC4 (not_OS HG3.out (by decide) (by decide)))
  have HO4 := Lib.hid hO4
  have HB4 := Lib.hid hB4
  have HN4 : Hid (New w w4) := HN3.out.trans hC4 (fun i hi h => by have h1 := h.1; have h2 := Hb.out; omega)
  clear hB4 hO4 hC4 HG3 HO3 HN3 HSe
  go_wp2_with fail
  with_reducible refine (HOp.out _ _ _ _ _ _ HG4.out HO4.out HB4.out).mono ?_
  rintro e w5 ⟨rfl, hN⟩
  have HG5 := Lib.hid (HG4.out.keep hN)
  have HO5 := Lib.hid (HO4.out.new hN)
  have HN5 := Lib.hid (HN4.out.then_new hN)
  clear hN HG4 HO4 HN4 HOp HB4
  go_upto_region 7 with (fail)
  obtain ⟨w6, hw6⟩ : ∃ w6, w6 = w5.alloc (.cells #[.int .i64 1, .int .i64 2, .int .i64 9, .int .i64 7, .int .i64 1, .int .i64 500, .int .i64 0, .int .i64 0, .bool false, .int .i64 0, .int .i64 0, .int .i64 0, .int .i64 0, .bool false] 24) := ⟨_, rfl⟩
  obtain ⟨pb, hpb⟩ : ∃ pb, pb = w5.heap.size := ⟨_, rfl⟩
  have HP6 : Hid (Has w6 pb 24 #[.int .i64 1, .int .i64 2, .int .i64 9, .int .i64 7, .int .i64 1, .int .i64 500, .int .i64 0, .int .i64 0, .bool false, .int .i64 0, .int .i64 0, .int .i64 0, .int .i64 0, .bool false]) := by rw [hw6, hpb]; exact Has.new _ _ _
  have hm : New w5 w6 := by rw [hw6]; exact (Chg.refl _ _).alloc _
  have HG6 := Lib.hid (HG5.out.keep hm)
  have HO6 := Lib.hid (HO5.out.new hm)
  have HN6 := Lib.hid (HN5.out.then_new hm)
  have HNx := Lib.hid (Next_any g b 1 0 (accF 1 [2]) w6 HG6.out (by omega))
  rw [← hw6, ← hpb]
  clear hw6 hpb hm HG5 HO5 HN5
  go_wp2_with fail
  with_reducible refine HNx.out.mono ?_
  rintro e w7 ⟨rfl, hG7, hC7⟩
  have HG7 := Lib.hid hG7
  have HO7 := Lib.hid (HO6.out.setg HG6.out (by decide) (by decide) hC7)
  have HP7 := Lib.hid (HP6.out.chg hC7 (fun e => HP6.out.apart HG6.out (by decide) e))
  have HN7 : Hid (New w w7) := HN6.out.trans hC7 (fun i hi h => by have := Hgw.out; omega)
  clear hG7 hC7 HNx HG6 HO6 HP6 HN6
  have hcv := cv2a w7
  have hmk : Byts (w7.alloc (.cells #[.int .u8 97, .int .u8 98] 5 (2, 3))) (· = w7.heap.size) (.slice (some ⟨w7.heap.size, 0, none⟩) 2 2) [97, 98] := Byts.of_mark (bs := [97, 98]) (heap_alloc_new w7 (.cells (([97, 98] : List Nat).map bV).toArray 5 (2, 3))) (by decide) (by decide)
  have hm : New w7 (w7.alloc (.cells #[.int .u8 97, .int .u8 98] 5 (2, 3))) := (Chg.refl _ _).alloc _
  have HPc := Lib.hid (HPo.out b g w7.heap.size _ _ (HG7.out.keep hm) (HO7.out.new hm) hmk (fun k hk => by rw [hk]; simp))
  have HP8 := Lib.hid (HP7.out.keep hm)
  have HG8 := Lib.hid (HG7.out.keep hm)
  have HN8 := Lib.hid (HN7.out.then_new hm)
  clear hm hmk
  go_wp2_with fail
  with_reducible refine HPc.out.mono ?_
  rintro e w9 ⟨A7, cp7, rfl, hB9, hO9, hC9⟩
  have HG9 := Lib.hid (HG8.out.chg hC9 (not_OS HG8.out (by decide) (by decide)))
  have HP9 := Lib.hid (HP8.out.chg hC9 (not_OS HP8.out (by decide) (by decide)))
  have HO9 := Lib.hid hO9
  have HB9 := Lib.hid hB9
  have HN9 : Hid (New w w9) := HN8.out.trans hC9 (fun i hi h => by have h1 := h.1; have h2 := Hb.out; omega)
  clear hB9 hO9 hC9 HPc HG8 HP8 HN8 HPo HG7 HO7 HP7 HN7 hcv
  go_upto_region 9 with (fail)
  obtain ⟨wa, hwa⟩ : ∃ wa, wa = w9.alloc (.cells #[.int .i64 1, .int .i64 1, .int .i64 0, .slice A7 2 cp7, .int .i64 2] 59) := ⟨_, rfl⟩
  obtain ⟨qb, hqb⟩ : ∃ qb, qb = w9.heap.size := ⟨_, rfl⟩
  have HQa : Hid (Has wa qb 59 #[.int .i64 1, .int .i64 1, .int .i64 0, .slice A7 2 cp7, .int .i64 2]) := by rw [hwa, hqb]; exact Has.new _ _ _
  have hm : New w9 wa := by rw [hwa]; exact (Chg.refl _ _).alloc _
  have HGa := Lib.hid (HG9.out.keep hm)
  have HPa := Lib.hid (HP9.out.keep hm)
  have HOa := Lib.hid (HO9.out.new hm)
  have HBa := Lib.hid (own_new HB9.out hm)
  have HNa := Lib.hid (HN9.out.then_new hm)
  rw [← hwa, ← hqb]
  clear hwa hqb hm HG9 HP9 HO9 HB9 HN9
  have c0 : wa.cell? ⟨pb, 0, none⟩ = some (.int .i64 1) := (HPa.out.cell 0).trans rfl
  have c1 : wa.cell? ⟨pb, 1, none⟩ = some (.int .i64 2) := (HPa.out.cell 1).trans rfl
  have c2 : wa.cell? ⟨pb, 2, none⟩ = some (.int .i64 9) := (HPa.out.cell 2).trans rfl
  have c3 : wa.cell? ⟨pb, 3, none⟩ = some (.int .i64 7) := (HPa.out.cell 3).trans rfl
  have c4 : wa.cell? ⟨pb, 4, none⟩ = some (.int .i64 1) := (HPa.out.cell 4).trans rfl
  have c5 : wa.cell? ⟨pb, 5, none⟩ = some (.int .i64 500) := (HPa.out.cell 5).trans rfl
  have c6 : wa.cell? ⟨pb, 6, none⟩ = some (.int .i64 0) := (HPa.out.cell 6).trans rfl
  have c7 : wa.cell? ⟨pb, 7, none⟩ = some (.int .i64 0) := (HPa.out.cell 7).trans rfl
  have c8 : wa.cell? ⟨pb, 8, none⟩ = some (.bool false) := (HPa.out.cell 8).trans rfl
  have c9 : wa.cell? ⟨pb, 9, none⟩ = some (.int .i64 0) := (HPa.out.cell 9).trans rfl
  have c10 : wa.cell? ⟨pb, 10, none⟩ = some (.int .i64 0) := (HPa.out.cell 10).trans rfl
  have c11 : wa.cell? ⟨pb, 11, none⟩ = some (.int .i64 0) := (HPa.out.cell 11).trans rfl
  have c12 : wa.cell? ⟨pb, 12, none⟩ = some (.int .i64 0) := (HPa.out.cell 12).trans rfl
  have c13 : wa.cell? ⟨pb, 13, none⟩ = some (.bool false) := (HPa.out.cell 13).trans rfl
  have d0 : wa.cell? ⟨qb, 0, none⟩ = some (.int .i64 1) := (HQa.out.cell 0).trans rfl
  have d1 : wa.cell? ⟨qb, 1, none⟩ = some (.int .i64 1) := (HQa.out.cell 1).trans rfl
  have d2 : wa.cell? ⟨qb, 2, none⟩ = some (.int .i64 0) := (HQa.out.cell 2).trans rfl
  have d3 : wa.cell? ⟨qb, 3, none⟩ = some ((.slice A7 2 cp7)) := (HQa.out.cell 3).trans rfl
  have d4 : wa.cell? ⟨qb, 4, none⟩ = some (.int .i64 2) := (HQa.out.cell 4).trans rfl
  go_region_held_law (fun wx => wx.cell? ⟨pb, 0, none⟩ = some (.int .i64 1) ∧ wx.cell? ⟨pb, 1, none⟩ = some (.int .i64 2) ∧ wx.cell? ⟨pb, 2, none⟩ = some (.int .i64 9) ∧ wx.cell? ⟨pb, 3, none⟩ = some (.int .i64 7) ∧ wx.cell? ⟨pb, 4, none⟩ = some (.int .i64 1) ∧ wx.cell? ⟨pb, 5, none⟩ = some (.int .i64 500) ∧ wx.cell? ⟨pb, 6, none⟩ = some (.int .i64 0) ∧ wx.cell? ⟨pb, 7, none⟩ = some (.int .i64 0) ∧ wx.cell? ⟨pb, 8, none⟩ = some (.bool false) ∧ wx.cell? ⟨pb, 9, none⟩ = some (.int .i64 0) ∧ wx.cell? ⟨pb, 10, none⟩ = some (.int .i64 0) ∧ wx.cell? ⟨pb, 11, none⟩ = some (.int .i64 0) ∧ wx.cell? ⟨pb, 12, none⟩ = some (.int .i64 0) ∧ wx.cell? ⟨pb, 13, none⟩ = some (.bool false) ∧ wx.cell? ⟨qb, 0, none⟩ = some (.int .i64 1) ∧ wx.cell? ⟨qb, 1, none⟩ = some (.int .i64 1) ∧ wx.cell? ⟨qb, 2, none⟩ = some (.int .i64 0) ∧ wx.cell? ⟨qb, 3, none⟩ = some ((.slice A7 2 cp7)) ∧ wx.cell? ⟨qb, 4, none⟩ = some (.int .i64 2))
    (first | exact two_held HPa.out.drew HQa.out.drew | exact two_held HPa.out HQa.out | exact two_held HPD.out HQD.out | exact two_held HPC.out HQC.out | exact two_held HPB.out HQB.out)
    (first
    | (go_at_call 55;
       (with_reducible refine (HPu.out _).mono ?_)
       rintro e wB ⟨rfl, hN⟩
       have HMB : Hid (New wa wB) := Chg.new_then (by with_reducible repeat (first | exact Chg.refl _ _ | refine Chg.drew ?_ | refine Chg.drewN ?_ _ | refine Chg.alloc ?_ _)) hN
       have HPB := Lib.hid (HPa.out.keep HMB.out)
       have HQB := Lib.hid (HQa.out.keep HMB.out)
       clear hN)
    | (go_at_call 26;
       (with_reducible refine (HCh.out _ _ _ _ _ _ (HGa.out.keep (HMB.out.then_new (by with_reducible repeat (first | exact Chg.refl _ _ | refine Chg.drew ?_ | refine Chg.drewN ?_ _ | refine Chg.alloc ?_ _)))) (HOa.out.new (HMB.out.then_new (by with_reducible repeat (first | exact Chg.refl _ _ | refine Chg.drew ?_ | refine Chg.drewN ?_ _ | refine Chg.alloc ?_ _)))) (own_new HBa.out (HMB.out.then_new (by with_reducible repeat (first | exact Chg.refl _ _ | refine Chg.drew ?_ | refine Chg.drewN ?_ _ | refine Chg.alloc ?_ _))))).mono ?_)
       rintro e wC ⟨rfl, hN⟩
       have HMC : Hid (New wa wC) := HMB.out.then_new (Chg.new_then (by with_reducible repeat (first | exact Chg.refl _ _ | refine Chg.drew ?_ | refine Chg.drewN ?_ _ | refine Chg.alloc ?_ _)) hN)
       have HPC := Lib.hid (HPa.out.keep HMC.out)
       have HQC := Lib.hid (HQa.out.keep HMC.out)
       clear hN)
    | (go_at_call 30;
       (with_reducible refine (HLe.out b _ (HOa.out.new (HMC.out.then_new (by with_reducible repeat (first | exact Chg.refl _ _ | refine Chg.drew ?_ | refine Chg.drewN ?_ _ | refine Chg.alloc ?_ _))))).mono ?_)
       rintro e wD ⟨rfl, hN⟩
       have HMD : Hid (New wa wD) := by rw [hN]; exact HMC.out.then_new (by with_reducible repeat (first | exact Chg.refl _ _ | refine Chg.drew ?_ | refine Chg.drewN ?_ _ | refine Chg.alloc ?_ _))
       have HPD := Lib.hid (HPa.out.keep HMD.out)
       have HQD := Lib.hid (HQa.out.keep HMD.out)
       clear hN))
  all_goals
    go_wp2_with fail
    go_ret
    exact ⟨rfl, HNa.out.then_new HMD.out⟩
end Go.Proofs.Ytkcokcanakljnaa
/-
  A product, and bools, that came in.
-/
namespace Go.Proofs.Ytkcokcanakljnaa
open Go.ChangeShapes Go.WideShapes Go.ChangeAt Go.RowKit
theorem Try.cells4 : Try.prog.cellsOf 4 = 1 := by kernel_rfl
theorem Try.cellsK : Try.prog.cellsOf 22 = 1 := by kernel_rfl
theorem Try.cellsP : Try.prog.cellsOf 24 = 14 := by kernel_rfl
theorem Try.fieldsP : (Try.prog.underlying 24).map (fun u => match u with | .struct fs => fs.toList.map (fun f => (f.type, f.offset)) | _ => []) = some [(22, 0), (3, 1), (3, 2), (3, 3), (3, 4), (3, 5), (3, 6), (3, 7), (4, 8), (3, 9), (3, 10), (3, 11), (3, 12), (4, 13)] := by kernel_rfl
set_option maxRecDepth 100000 in
set_option maxHeartbeats 4000000 in
theorem open_product {H : Type} {enc : TypeId × Value → H} {W : World} {sp : Nat → Bool} {held : Bool} {r : Reach} {b0 : Nat} {v : Value} {d : DataW H} {p : List MemPlace}
    (hv : Value.okWide Try.prog W r b0 24 v) (h : DataW.Trod enc Try.prog W 0 sp held 24 v d p) : ∃ p : Pd, v = p.V := by
  obtain ⟨u, hu, hfs⟩ := Option.map_eq_some_iff.1 Try.fieldsP
  cases u with
  | struct fs =>
    obtain ⟨cs, rfl, hsz⟩ := okWide_struct hu hv
    obtain ⟨fuel, hf0⟩ := h
    obtain ⟨xs, k, hk, hxy, _, hxl, hf⟩ := DataW.trod_struct hu hf0
    obtain ⟨fs⟩ := fs
    obtain ⟨cs⟩ := cs
    have hcl : cs.length = 14 := by have := hsz.trans Try.cellsP; simpa using this
    match fs, hfs with
    | [f0, f1, f2, f3, f4, f5, f6, f7, f8, f9, f10, f11, f12, f13], hfs =>
      simp only [List.map_cons, List.map_nil, List.cons.injEq, Prod.mk.injEq, and_true] at hfs
      obtain ⟨⟨t0, o0⟩, ⟨t1, o1⟩, ⟨t2, o2⟩, ⟨t3, o3⟩, ⟨t4, o4⟩, ⟨t5, o5⟩, ⟨t6, o6⟩, ⟨t7, o7⟩, ⟨t8, o8⟩, ⟨t9, o9⟩, ⟨t10, o10⟩, ⟨t11, o11⟩, ⟨t12, o12⟩, t13, o13⟩ := hfs
      match xs, hxl, cs, hcl with
      | [y0, y1, y2, y3, y4, y5, y6, y7, y8, y9, y10, y11, y12, y13], _, [v0, v1, v2, v3, v4, v5, v6, v7, v8, v9, v10, v11, v12, v13], _ =>
        have g0 := hf 0 f0 rfl
        simp [Value.cells, o0, t0, Try.cellsK] at g0
        obtain ⟨x0, e0, _, _⟩ := DataW.trod_int Try.underlying22 g0
        simp only [List.cons.injEq, and_true] at e0
        subst e0
        have g1 := hf 1 f1 rfl
        simp [Value.cells, o1, t1, Try.cells3] at g1
        obtain ⟨x1, e1, _, _⟩ := DataW.trod_int Try.underlying3 g1
        simp only [List.cons.injEq, and_true] at e1
        subst e1
        have g2 := hf 2 f2 rfl
        simp [Value.cells, o2, t2, Try.cells3] at g2
        obtain ⟨x2, e2, _, _⟩ := DataW.trod_int Try.underlying3 g2
        simp only [List.cons.injEq, and_true] at e2
        subst e2
        have g3 := hf 3 f3 rfl
        simp [Value.cells, o3, t3, Try.cells3] at g3
        obtain ⟨x3, e3, _, _⟩ := DataW.trod_int Try.underlying3 g3
        simp only [List.cons.injEq, and_true] at e3
        subst e3
        have g4 := hf 4 f4 rfl
        simp [Value.cells, o4, t4, Try.cells3] at g4
        obtain ⟨x4, e4, _, _⟩ := DataW.trod_int Try.underlying3 g4
        simp only [List.cons.injEq, and_true] at e4
        subst e4
        have g5 := hf 5 f5 rfl
        simp [Value.cells, o5, t5, Try.cells3] at g5
        obtain ⟨x5, e5, _, _⟩ := DataW.trod_int Try.underlying3 g5
        simp only [List.cons.injEq, and_true] at e5
        subst e5
        have g6 := hf 6 f6 rfl
        simp [Value.cells, o6, t6, Try.cells3] at g6
        obtain ⟨x6, e6, _, _⟩ := DataW.trod_int Try.underlying3 g6
        simp only [List.cons.injEq, and_true] at e6
        subst e6
        have g7 := hf 7 f7 rfl
        simp [Value.cells, o7, t7, Try.cells3] at g7
        obtain ⟨x7, e7, _, _⟩ := DataW.trod_int Try.underlying3 g7
        simp only [List.cons.injEq, and_true] at e7
        subst e7
        have g8 := hf 8 f8 rfl
        simp [Value.cells, o8, t8, Try.cells4] at g8
        obtain ⟨x8, e8, _⟩ := DataW.trod_bool Try.underlying4 g8
        simp only [List.cons.injEq, and_true] at e8
        subst e8
        have g9 := hf 9 f9 rfl
        simp [Value.cells, o9, t9, Try.cells3] at g9
        obtain ⟨x9, e9, _, _⟩ := DataW.trod_int Try.underlying3 g9
        simp only [List.cons.injEq, and_true] at e9
        subst e9
        have g10 := hf 10 f10 rfl
        simp [Value.cells, o10, t10, Try.cells3] at g10
        obtain ⟨x10, e10, _, _⟩ := DataW.trod_int Try.underlying3 g10
        simp only [List.cons.injEq, and_true] at e10
        subst e10
        have g11 := hf 11 f11 rfl
        simp [Value.cells, o11, t11, Try.cells3] at g11
        obtain ⟨x11, e11, _, _⟩ := DataW.trod_int Try.underlying3 g11
        simp only [List.cons.injEq, and_true] at e11
        subst e11
        have g12 := hf 12 f12 rfl
        simp [Value.cells, o12, t12, Try.cells3] at g12
        obtain ⟨x12, e12, _, _⟩ := DataW.trod_int Try.underlying3 g12
        simp only [List.cons.injEq, and_true] at e12
        subst e12
        have g13 := hf 13 f13 rfl
        simp [Value.cells, o13, t13, Try.cells4] at g13
        obtain ⟨x13, e13, _⟩ := DataW.trod_bool Try.underlying4 g13
        simp only [List.cons.injEq, and_true] at e13
        subst e13
        exact ⟨⟨x0, x1, x2, x3, x4, x5, x6, x7, x8, x9, x10, x11, x12, x13⟩, rfl⟩
  | _ => simp at hfs
theorem Try.bytes4 : Try.prog.bytesOf 4 = 1 := by kernel_rfl
/-- bools that came in, their number within the reach -/
theorem open_boolsz {H : Type} {enc : TypeId × Value → H} {W : World} {sp : Nat → Bool} {held : Bool} {A : Option Addr} {n c : Nat} {d : DataW H} {p : List MemPlace}
    (h : DataW.Trod enc Try.prog W 0 sp held 72 (.slice A n c) d p) (hw : ∀ n ∈ d.weights Try.prog 72, n ≤ reachBytes) : (∃ bs : List Bool, bs.length = n ∧ Arr W (· < W.heap.size) A n (fun i => .bool (bs.getD i false))) ∧ n ≤ 140737488351232 := by
  obtain ⟨fuel, hf⟩ := h
  rcases Deep.open_slice1 Try.underlying72 Try.cells4 hf with ⟨hcs, _⟩ | ⟨a, len, cap, m, nn, V, D, Pl, hcs, _, hl, hm, hmm, hx, hV⟩
  · simp [Value.cells] at hcs
    obtain ⟨rfl, rfl, rfl⟩ := hcs
    exact ⟨⟨[], rfl, fun i hi => by omega⟩, by omega⟩
  · simp [Value.cells] at hcs
    obtain ⟨rfl, rfl, rfl⟩ := hcs
    have hnm : n ≤ m := by rw [hmm]; split <;> omega
    have hv : ∀ i, i < n → ∃ b, W.cell? (a.add i) = some (.bool b) := by
      intro i hi
      obtain ⟨h0, t0⟩ := hV i (by omega)
      obtain ⟨x, e0, _⟩ := DataW.trod_bool Try.underlying4 t0
      simp only [List.cons.injEq, and_true] at e0
      exact ⟨x, by rw [h0, e0]⟩
    obtain ⟨q, hq⟩ := Deep.choose_lt hv
    refine ⟨⟨(List.range n).map q, by simp, fun i hi => ⟨a, rfl, ?_, ?_⟩⟩, ?_⟩
    · have := World.block_lt_of_cell? _ _ (hq i hi); rwa [add_block] at this
    · rw [hq i hi]; simp [hi]
    · simp only [Prod.mk.injEq] at hx
      obtain ⟨rfl, _⟩ := hx
      have := hw ((((List.range n).map D).length + ((List.range (m - n)).map fun j => D (n + j)).length) * Try.prog.bytesOf 4) (by simp only [DataW.weights, Try.underlying72]; exact List.mem_cons_self ..)
      rw [Try.bytes4] at this
      simp only [List.length_map, List.length_range, reachBytes] at this
      omega
end Go.Proofs.Ytkcokcanakljnaa
/-
  Makers that came in; a copy of numbers; the document's Accepts.
-/
namespace Go.Proofs.Ytkcokcanakljnaa
open Go.ChangeShapes Go.WideShapes Go.ChangeAt Go.RowKit Go.Joins
theorem iVI_one (xs : List Int) : ∀ u ∈ xs.map iV, u.oneCell' = true := by
  intro u hu
  simp only [List.mem_map] at hu
  obtain ⟨x, _, rfl⟩ := hu
  rfl
theorem own_arrI {w : World} {base n c : Nat} {A : Option Addr} {xs : List Int} (h : w.ownsRow base 3 1 (.slice A n c) n (xs.map iV)) : xs.length = n ∧ Arr w (fun k => Value.ownBlock (.slice A n c) = some k) A n (fun i => iV (xs.getD i 0)) := by
  have hl : xs.length = n := by have := h.1; rw [List.length_map, Nat.mul_one] at this; exact this
  refine ⟨hl, ?_⟩
  subst hl
  intro i hi
  obtain ⟨a, ha, hb, hc⟩ := Arr.of_own h i hi
  exact ⟨a, ha, hb, by rw [hc]; simp [hi]⟩
theorem map_newsI {w : World} {F : Nat → Prop} {A : Option Addr} {n : Nat} {xs : List Int} (hA : Arr w F A n (fun i => iV (xs.getD i 0))) (hl : xs.length = n) (j : Nat) (u : Value) (hu : (xs.map iV)[j]? = some u) : ∃ ad, A = some ad ∧ w.cell? (ad.add j) = some u := by
  have hj : j < n := by
    rcases Nat.lt_or_ge j n with h | h
    · exact h
    · rw [List.getElem?_eq_none (by simp; omega)] at hu; cases hu
  obtain ⟨a, ha, _, hc⟩ := hA j hj
  refine ⟨a, ha, ?_⟩
  rw [hc, ← hu, List.getElem?_map, List.getElem?_eq_getElem (by omega)]
  simp [List.getElem?_eq_getElem (show j < xs.length by omega)]
theorem Try.infoI3 : (Try.prog.info? 3).map (fun i => (i.zero, i.size, i.bytes)) = some (some (.int .i64 0), 1, 8) := by kernel_rfl
theorem step_copyI {w1 : World} {ops : Array Oper} {o : Oper} {a : Act} {K : Act → World → Prop} {Q : Exit → Act → World → Prop} {E : Prop} (hw : Region.wanted o (yielded ops a.tmps) = true) (s x : Operand)
    (ho : o.op = .call { callee := .builtin .append, args := #[s, x], argTypes := #[65, 65] }) (g : Nat) (hs : a.eval s = .slice (some ⟨g, 0, none⟩) 0 0) (hg : Has w1 g 3 #[])
    (A : Option Addr) (n c : Nat) (xs : List Int) (F : Nat → Prop) (hx : a.eval x = .slice A n c) (hA : Arr w1 F A n (fun i => iV (xs.getD i 0))) (hl : xs.length = n) (hnil : A = none → n = 0 ∧ c = 0) (hn : n ≤ 17592186044416)
    (h : ∀ A' c' w', w'.ownsRow g 3 1 (.slice A' n c') n (xs.map iV) → Chg (fun k => k = g) w1 w' → K (a.put o.dst (.slice A' n c')) w') :
    if Region.wanted o (yielded ops a.tmps) = true then Oper.wp Try.prog o a w1 K Q else E := by
  rw [if_pos hw]
  obtain ⟨i0, hi, hz0, hz1, hz2⟩ := info_parts Try.infoI3
  have hown : w1.ownsRow g 3 1 (.slice (some ⟨g, 0, none⟩) 0 0) 0 [] := ⟨rfl, Or.inr ⟨g, 0, #[], rfl, Nat.le_refl _, hg, by simp, by simp [maxLen], by simp, by simp⟩⟩
  refine wp_append_src s x 65 ho g 3 i0 (.int .i64 0) 1 8 Try.underlying65 hi hz0 hz1 hz2 rfl (by decide) _ 0 [] hs hown A n c (xs.map iV) hx hnil (by rw [List.length_map, Nat.mul_one, hl]) (map_newsI hA hl) (iVI_one xs) (by simp only [maxLen]; omega) (by omega) (Nat.le_of_lt hg.lt) ?_
  intro A' c' w' h1 h2 _
  rw [Nat.zero_add] at h1 ⊢
  rw [List.nil_append] at h1
  exact h A' c' w' h1 (h2.mono fun k _ hk => by simp only [Value.ownBlock, Option.some.injEq] at hk; exact hk.symm)
theorem Try.cellsI3 : Try.prog.cellsOf 3 = 1 := by kernel_rfl
theorem Try.bytesI3 : Try.prog.bytesOf 3 = 8 := by kernel_rfl
/-- numbers that came in -/
def Nums (W : World) (A : Option Addr) (n c : Nat) (xs : List Int) : Prop := xs.length = n ∧ Arr W (· < W.heap.size) A n (fun i => iV (xs.getD i 0)) ∧ (A = none → n = 0 ∧ c = 0) ∧ n ≤ 17592186043904
theorem open_numsI {H : Type} {enc : TypeId × Value → H} {W : World} {sp : Nat → Bool} {held : Bool} {fuel : Nat} {v : Value} {d : DataW H} {p : List MemPlace}
    (hf : DataW.trod enc Try.prog W 0 sp held fuel 65 [v] = some (d, p)) (hw : ∀ n ∈ d.weights Try.prog 65, n ≤ reachBytes) : ∃ A n c xs, v = .slice A n c ∧ Nums W A n c xs := by
  rcases Deep.open_slice1 Try.underlying65 Try.cellsI3 hf with ⟨hcs, _⟩ | ⟨a, n, c, m, nn, V, D, Pl, hcs, _, hl, hm, hmm, hd, hx⟩
  · simp only [List.cons.injEq, and_true] at hcs
    exact ⟨none, 0, 0, [], hcs, rfl, fun i hi => by omega, fun _ => ⟨rfl, rfl⟩, by omega⟩
  · simp only [List.cons.injEq, and_true] at hcs
    have hnm : n ≤ m := by rw [hmm]; split <;> omega
    have hv : ∀ i, i < n → ∃ x : Int, W.cell? (a.add i) = some (iV x) := by
      intro i hi
      obtain ⟨h0, t0⟩ := hx i (by omega)
      obtain ⟨x, e0, _, wx⟩ := DataW.trod_int Try.underlying3 t0
      simp only [List.cons.injEq, and_true] at e0
      exact ⟨x, by rw [h0, e0]; rfl⟩
    obtain ⟨q, hq⟩ := Deep.choose_lt hv
    refine ⟨some a, n, c, (List.range n).map q, hcs, by simp, fun i hi => ⟨a, rfl, ?_, ?_⟩, (fun h => by cases h), ?_⟩
    · have := World.block_lt_of_cell? _ _ (hq i hi); rwa [add_block] at this
    · rw [hq i hi]; simp [hi]
    · simp only [Prod.mk.injEq] at hd
      obtain ⟨rfl, _⟩ := hd
      have := hw ((((List.range n).map D).length + ((List.range (m - n)).map fun j => D (n + j)).length) * Try.prog.bytesOf 3) (by simp only [DataW.weights, Try.underlying65]; exact List.mem_cons_self ..)
      rw [Try.bytesI3] at this
      simp only [List.length_map, List.length_range, reachBytes] at this
      omega
theorem Try.cellsMk : Try.prog.cellsOf 67 = 2 := by kernel_rfl
set_option maxRecDepth 100000 in
theorem open_maker {H : Type} {enc : TypeId × Value → H} {W : World} {sp : Nat → Bool} {held : Bool} {r : Reach} {b0 : Nat} {v : Value} {d : DataW H} {p : List MemPlace}
    (hv : Value.okWide Try.prog W r b0 67 v) (h : DataW.Trod enc Try.prog W 0 sp held 67 v d p) (hw : ∀ n ∈ d.weights Try.prog 67, n ≤ reachBytes) :
    ∃ (op : Int) (A : Option Addr) (n c : Nat) (xs : List Int), v = .agg #[.int .i64 op, .slice A n c] ∧ Nums W A n c xs := by
  obtain ⟨v0, v1, y0, y1, n, rfl, rfl, rfl, t0, t1⟩ := open_agg2 Try.underlying67 (by kernel_rfl) Try.cellsMk hv h
  obtain ⟨x, e0, _, _⟩ := DataW.trod_int Try.underlying3 t0
  simp only [List.cons.injEq, and_true] at e0
  subst e0
  obtain ⟨A, m, c, xs, rfl, hN⟩ := open_numsI (v := v1) (d := y1.1) (p := y1.2) t1 (fun k hk => hw k (by simp only [DataW.weights, Try.underlying67]; simp [DataW.weightsEach, hk]))
  exact ⟨x, A, m, c, xs, rfl, hN⟩
/-- the document's answer: is the owner accepted? -/
def accK (op : Int) (xs : List Int) (x : Int) (i : Nat) : Bool := decide (x = op ∨ x ∈ xs.take i)
theorem accK_step {op : Int} {xs : List Int} {x y : Int} {i : Nat} (hi : i < xs.length) (hy : xs.getD i 0 = y) : accK op xs x (i + 1) = (accK op xs x i || (y == x)) := by
  have e : xs[i] = y := by rw [← hy]; simp [List.getD_eq_getElem?_getD, List.getElem?_eq_getElem hi]
  unfold accK
  rw [List.take_add_one, List.getElem?_eq_getElem hi, e, Bool.eq_iff_iff]
  simp only [Option.toList_some, List.mem_append, List.mem_singleton, decide_eq_true_eq, Bool.or_eq_true, beq_iff_eq]
  constructor
  · rintro (h | h | h)
    · exact Or.inl (Or.inl h)
    · exact Or.inl (Or.inr h)
    · exact Or.inr h.symm
  · rintro ((h | h) | h)
    · exact Or.inl h
    · exact Or.inr (Or.inl h)
    · exact Or.inr (Or.inr h.symm)
def refA (op : Int) (xs : List Int) (x : Int) : Bool := decide (1 ≤ x) && accK op xs x xs.length
theorem refA_acc {op : Int} {xs : List Int} {x : Int} (h0 : 1 ≤ x) (h4 : x ≤ 4) : refA op xs x = accB (accF op xs) x := by
  obtain ⟨v, rfl⟩ : ∃ v : Nat, x = (v : Int) := ⟨x.toNat, by omega⟩
  unfold refA accB accF accK withB
  simp only [List.take_length, List.all_cons, List.all_nil, Bool.and_true, Int.toNat_natCast]
  rw [decide_eq_true h0, decide_eq_true h4]
  simp
set_option maxRecDepth 100000 in
set_option maxHeartbeats 4000000 in
theorem rAcc_any (op x : Int) (xs : List Int) (A : Option Addr) (n c : Nat) (w : World) (F : Nat → Prop) (hl : xs.length = n) (hb : n ≤ 1000000000000000000) (hA : Arr w F A n (fun i => iV (xs.getD i 0))) :
    Calls Try.prog 24 #[.int .i64 op, .slice A n c, .int .i64 x] w fun e w' => e = .returned (.bool (refA op xs x)) ∧ w' = w := by
  have HA := Lib.hid hA
  have Hl := Lib.hid hl
  unfold refA
  by_cases h1 : x < 1
  · have t1 : decide (x < 1) = true := decide_eq_true h1
    have t2 : decide (1 ≤ x) = false := decide_eq_false (by omega)
    rw [t2]
    clear t2 h1 hA hl
    go_enter Try.func24, Try.ntmps24
    go_wp2_with fail
    go_ret
    exact ⟨rfl, rfl⟩
  · have t1 : decide (x < 1) = false := decide_eq_false h1
    have t2 : decide (1 ≤ x) = true := decide_eq_true (by omega)
    rw [t2, hl]
    have Hz : Hid ((x == op) = accK op xs x 0) := by rw [Hid]; unfold accK; by_cases h : x = op <;> simp [h]
    clear t2 h1 hA hl
    go_enter Try.func24, Try.ntmps24
    go_wp2_with fail
    go_loopg [7, 8] n (fun gk s7 s8 wr => ∃ i : Nat, i ≤ n ∧ gk = n - i ∧ s7 = .bool (accK op xs x i) ∧ s8 = .int .i64 i ∧ wr = w)
    case atStart => exact ⟨0, by omega, by omega, by rw [← Hz.out], rfl, rfl⟩
    case round =>
      obtain ⟨i, hi', rfl, rfl, rfl, hq⟩ := hrel
      rw [hq]
      clear hq
      by_cases hlt : i < n
      · obtain ⟨a, rfl, _, a0⟩ := HA.out i hlt
        simp only [iV] at a0
        obtain ⟨v, hv⟩ : ∃ v, xs.getD i 0 = v := ⟨_, rfl⟩
        rw [hv] at a0
        have Hst := Lib.hid (accK_step (op := op) (x := x) (i := i) (by rw [Hl.out]; exact hlt) hv)
        clear hv
        have t1 : decide ((i : Int) < (n : Int)) = true := decide_eq_true (by omega)
        have t1' : decide (i < n) = true := decide_eq_true hlt
        obtain ⟨q, hq⟩ : ∃ q, q = accK op xs x i := ⟨_, rfl⟩
        rw [← hq] at Hst ⊢
        clear hq
        cases q with
        | true =>
          go_wp2_with fail
          go_roundg (n - (i + 1))
          case measure => omega
          case rel => exact ⟨i + 1, by omega, rfl, by rw [Hst.out]; rfl, by go_num, rfl⟩
        | false =>
          obtain ⟨z, hz⟩ : ∃ z, z = (v == x) := ⟨_, rfl⟩
          have hz' := hz.symm
          have Hz2 := Lib.hid hz
          clear hz
          go_wp2_with fail
          go_roundg (n - (i + 1))
          case measure => omega
          case rel => exact ⟨i + 1, by omega, rfl, by rw [Hst.out, ← Hz2.out]; rfl, by go_num, rfl⟩
      · obtain rfl : i = n := by omega
        have t1 : decide ((i : Int) < (i : Int)) = false := decide_eq_false (by omega)
        go_wp2_with fail
        go_ret
        exact ⟨rfl, rfl⟩
end Go.Proofs.Ytkcokcanakljnaa
