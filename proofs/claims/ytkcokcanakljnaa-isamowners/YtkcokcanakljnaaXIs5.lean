/-
  The law IsamOwners: what one module sealed another one opens just if it accepts the owner.
-/
import Derived.Test.YtkcokcanakljnaaXIs4
import Derived.Deep.RegionHeldLaw
namespace Go.Proofs.Ytkcokcanakljnaa
open Go.ChangeShapes Go.WideShapes Go.ChangeAt Go.RowKit Go.Joins
theorem open_sealed {p : Pd} (hp : RightN p.ns) (acc : Nat → Bool) (M : List Sl) : opnI acc M p.x3 p.x0 p.x1 p.x2 (bodyN p.ns 1) = if accB acc p.x1 = false then (pz, 24) else if holdsB M (prS p) 1 = false then (pz, 23) else (p, 0) := by
  have ho := open_body hp (t := 1) (by omega) (by omega)
  obtain ⟨h1, h2, h3⟩ := opn_r ho
  rw [Pd.of_ns] at h1
  unfold opnI
  rw [h1, h2, h3, if_neg (by simp), if_neg (by simp [askB])]
  rfl
theorem ne_up1 (w : World) (o : Obj) (h : w.heap.size = (w.alloc o).heap.size) : False := by simp at h
theorem ne_up2 (n : Nat) (h : n + 1 = n) : False := by omega
theorem holds_nil (x : Sl) (t : Int) : holdsB [] x t = false := by simp [holdsB]
/-- what New came to -/
def NewV (w : World) (op : Int) (b : Nat) (xs : List Int) (o : Option Addr) (z : Int) (w' : World) : Prop :=
  (newOk op xs = false ∧ o = none ∧ z = 2) ∨ (newOk op xs = true ∧ ∃ g, o = some ⟨g, 0, none⟩ ∧ z = 0 ∧ w.heap.size ≤ g ∧ Has w' g 129 (mdC b op (accF op xs) 0))
theorem NewV.low {w w0 w' : World} {op : Int} {b : Nat} {xs : List Int} {o : Option Addr} {z : Int} (h : NewV w op b xs o z w') (hs : w0.heap.size ≤ w.heap.size) : NewV w0 op b xs o z w' := by
  rcases h with h | ⟨h1, g, h2, h3, h4, h5⟩
  · exact Or.inl h
  · exact Or.inr ⟨h1, g, h2, h3, Nat.le_trans hs h4, h5⟩
theorem mk_held {w : World} {g : Nat} {t : TypeId} {u v : Value} (h : Has w g t #[u, v]) : w.cell? ⟨g, 0, none⟩ = some u ∧ w.cell? ⟨g, 1, none⟩ = some v := ⟨(h.cell 0).trans rfl, (h.cell 1).trans rfl⟩
theorem Orc.fresh {w : World} {g : Nat} (h : Has w g 77 #[.map none, .slice none 0 0]) : Orc w g g [] := ⟨.map none, .slice none 0 0, h, rfl, World.ownsRow_nil _ _ _ _, Or.inl ⟨rfl, rfl⟩, by simp, by simp⟩
theorem New_own (op : Int) (b : Nat) (xs : List Int) (A : Option Addr) (n c base : Nat) (w : World) (hn : n ≤ 17592186043904) (hO : w.ownsRow base 3 1 (.slice A n c) n (xs.map iV)) :
    Calls Try.prog 27 #[.int .i64 op, .pointer (some ⟨b, 0, none⟩), .slice A n c] w fun e w' => ∃ o z, e = .returned (.tuple #[.pointer o, .int .i64 z]) ∧ NewV w op b xs o z w' ∧ New w w' := by
  obtain ⟨hl, hA⟩ := own_arrI hO
  refine (New_any op b xs A n c w _ hl (by omega) hA (fun k hk => (hO.lt k hk).2)).mono ?_
  rintro e w' ⟨h, hN⟩
  rcases h with ⟨h1, rfl⟩ | ⟨h1, g, rfl, h2, h3⟩
  · exact ⟨none, 2, rfl, Or.inl ⟨h1, rfl, rfl⟩, hN⟩
  · exact ⟨some ⟨g, 0, none⟩, 0, rfl, Or.inr ⟨h1, g, rfl, rfl, h2, h3⟩, hN⟩
set_option maxRecDepth 100000 in
set_option maxHeartbeats 4000000 in
theorem own11_walk {W : World} (opa : Int) (Aa : Option Addr) (na ca : Nat) (xa : List Int) (hxa : Nums W Aa na ca xa) (opb : Int) (Ab : Option Addr) (nb cb : Nat) (xb : List Int) (hxb : Nums W Ab nb cb xb) (p : Pd) :
    Calls Try.prog 7 #[.agg #[.int .i64 opa, .slice Aa na ca], .agg #[.int .i64 opb, .slice Ab nb cb], p.V] W fun e w' => e = .returned (.bool true) ∧ New W w' := by
  have HxA := Lib.hid hxa
  have HxB := Lib.hid hxb
  have HNwA : Hid (∀ (b : Nat) (A' : Option Addr) (c' base : Nat) (wx : World), wx.ownsRow base 3 1 (.slice A' na c') na (xa.map iV) → Calls Try.prog 27 #[.int .i64 opa, .pointer (some ⟨b, 0, none⟩), .slice A' na c'] wx fun e w' => ∃ o z, e = .returned (.tuple #[.pointer o, .int .i64 z]) ∧ NewV wx opa b xa o z w' ∧ New wx w') := fun b A' c' base wx h => New_own opa b xa A' na c' base wx hxa.2.2.2 h
  have HNwB : Hid (∀ (b : Nat) (A' : Option Addr) (c' base : Nat) (wx : World), wx.ownsRow base 3 1 (.slice A' nb c') nb (xb.map iV) → Calls Try.prog 27 #[.int .i64 opb, .pointer (some ⟨b, 0, none⟩), .slice A' nb c'] wx fun e w' => ∃ o z, e = .returned (.tuple #[.pointer o, .int .i64 z]) ∧ NewV wx opb b xb o z w' ∧ New wx w') := fun b A' c' base wx h => New_own opb b xb A' nb c' base wx hxb.2.2.2 h
  have HNwZ : Hid (∀ (b : Nat) (A' : Option Addr) (c' base : Nat) (wx : World), wx.ownsRow base 3 1 (.slice A' nb c') nb (xb.map iV) → Has wx b 77 #[.map none, .slice none 0 0] → Calls Try.prog 27 #[.int .i64 opb, .pointer (some ⟨b, 0, none⟩), .slice A' nb c'] wx fun e w' => ∃ o z, e = .returned (.tuple #[.pointer o, .int .i64 z]) ∧ NewV wx opb b xb o z w' ∧ New wx w' ∧ Has w' b 77 #[.map none, .slice none 0 0]) := fun b A' c' base wx h hz => (New_own opb b xb A' nb c' base wx hxb.2.2.2 h).mono (by rintro e w' ⟨o, z, h1, h2, h3⟩; exact ⟨o, z, h1, h2, h3, hz.keep h3⟩)
  clear hxa hxb
  obtain ⟨x0, x1, x2, x3, x4, x5, x6, x7, x8, x9, x10, x11, x12, x13⟩ := p
  show Calls _ _ #[_, _, .agg #[.int .i64 x0, .int .i64 x1, .int .i64 x2, .int .i64 x3, .int .i64 x4, .int .i64 x5, .int .i64 x6, .int .i64 x7, .bool x8, .int .i64 x9, .int .i64 x10, .int .i64 x11, .int .i64 x12, .bool x13]] _ _
  go_enter Try.func7, Try.ntmps7
  go_upto_region 1 with (fail)
  obtain ⟨v1, hv1⟩ : ∃ v1, v1 = W.alloc (.cells #[.int .i64 opa, .slice Aa na ca] 67) := ⟨_, rfl⟩
  obtain ⟨v2, hv2⟩ : ∃ v2, v2 = v1.alloc (.cells #[.int .i64 opb, .slice Ab nb cb] 67) := ⟨_, rfl⟩
  obtain ⟨w1, hw1⟩ : ∃ w1, w1 = v2.alloc (.cells #[.int .i64 x0, .int .i64 x1, .int .i64 x2, .int .i64 x3, .int .i64 x4, .int .i64 x5, .int .i64 x6, .int .i64 x7, .bool x8, .int .i64 x9, .int .i64 x10, .int .i64 x11, .int .i64 x12, .bool x13] 24) := ⟨_, rfl⟩
  obtain ⟨ab, hab⟩ : ∃ ab, ab = W.heap.size := ⟨_, rfl⟩
  obtain ⟨bb, hbb⟩ : ∃ bb, bb = ab + 1 := ⟨_, rfl⟩
  obtain ⟨pb, hpb⟩ : ∃ pb, pb = bb + 1 := ⟨_, rfl⟩
  have s1 : v1.heap.size = ab + 1 := by rw [hv1, hab]; simp
  have s2 : v2.heap.size = bb + 1 := by rw [hv2, hbb]; simp [s1]
  have HBA1 : Hid (Has w1 ab 67 #[.int .i64 opa, .slice Aa na ca]) := by rw [hw1, hv2, hv1, hab]; exact ((Has.new _ _ _).alloc _).alloc _
  have HBB1 : Hid (Has w1 bb 67 #[.int .i64 opb, .slice Ab nb cb]) := by rw [hw1, hv2, hbb, ← s1]; exact (Has.new _ _ _).alloc _
  have HP1 : Hid (Has w1 pb 24 #[.int .i64 x0, .int .i64 x1, .int .i64 x2, .int .i64 x3, .int .i64 x4, .int .i64 x5, .int .i64 x6, .int .i64 x7, .bool x8, .int .i64 x9, .int .i64 x10, .int .i64 x11, .int .i64 x12, .bool x13]) := by rw [hw1, hpb, ← s2]; exact Has.new _ _ _
  have HN1 : Hid (New W w1) := by rw [hw1, hv2, hv1]; exact (((Chg.refl _ _).alloc _).alloc _).alloc _
  rw [← hv1, ← hv2, ← hw1, ← hab, ← hbb, ← hpb]
  clear hv1 hv2 hw1 hab hbb hpb s1 s2
  go_wp2_with fail
  with_reducible refine (awake11_any w1).mono ?_
  rintro e w2 ⟨rfl, hN⟩
  have HBA2 := Lib.hid (HBA1.out.keep hN)
  have HBB2 := Lib.hid (HBB1.out.keep hN)
  have HP2 := Lib.hid (HP1.out.keep hN)
  have HN2 := Lib.hid (HN1.out.then_new hN)
  clear hN HBA1 HBB1 HP1 HN1
  go_upto_region 4 with (fail)
  have hO := Orc.made w2
  obtain ⟨w3, hw3⟩ : ∃ w3, w3 = w2.alloc (.cells #[.map none, .slice none 0 0] 77) := ⟨_, rfl⟩
  obtain ⟨b, hb⟩ : ∃ b, b = w2.heap.size := ⟨_, rfl⟩
  have hm : New w2 w3 := by rw [hw3]; exact (Chg.refl _ _).alloc _
  have Hb : Hid (W.heap.size ≤ b) := by rw [hb]; exact HN2.out.size
  rw [← hw3, ← hb] at hO
  rw [← hw3, ← hb]
  have HO3 := Lib.hid hO
  have HBA := Lib.hid (HBA2.out.keep hm)
  have HBB3 := Lib.hid (HBB2.out.keep hm)
  have HP3 := Lib.hid (HP2.out.keep hm)
  have HN5 := Lib.hid (HN2.out.then_new hm)
  clear hO hw3 hb hm HBA2 HBB2 HP2 HN2
  go_upto_region 4 with (fail)
  go_cut [8, 9] (fun s8 s9 wx => ∃ o z, s8 = .pointer o ∧ s9 = .int .i64 z ∧ NewV w3 opa b xa o z wx ∧ New w3 wx)
  case first =>
    go_region_held_law (fun wx => wx.cell? ⟨ab, 0, none⟩ = some (.int .i64 opa) ∧ wx.cell? ⟨ab, 1, none⟩ = some (.slice Aa na ca))
      (with_reducible first | exact mk_held HBN.out | exact mk_held HXA.out | exact mk_held HXA.out.drew | exact mk_held (HXA.out.alloc _) | exact mk_held (HXA.out.alloc _).drew | exact mk_held HBA.out.drew | exact mk_held (HBA.out.alloc _) | exact mk_held (HBA.out.alloc _).drew | exact mk_held (HBA.out.drew.alloc _) | exact mk_held ((HBA.out.alloc _).alloc _) | exact mk_held ((HBA.out.alloc _).alloc _).drew | exact mk_held ((HBA.out.alloc _).drew.alloc _) | exact mk_held HBA.out)
      (first
      | (refine step_copyI rfl _ _ rfl _ rfl (by with_reducible first | exact Has.new_at _ _ _ _ (by simp) | exact (Has.new_at _ _ _ _ (by simp)).drew | exact Has.new _ _ _ | exact (Has.new _ _ _).drew | exact (Has.new _ _ _).alloc _ | exact ((Has.new _ _ _).alloc _).drew | exact (Has.drew (Has.new _ _ _)).alloc _) Aa na ca xa _ rfl ((HxA.out.2.1).new (HN5.out.then_new (by with_reducible repeat (first | exact Chg.refl _ _ | refine Chg.drew ?_ | refine Chg.drewN ?_ _ | refine Chg.alloc ?_ _))) (fun _ h => h)) HxA.out.1 HxA.out.2.2.1 (Nat.le_trans HxA.out.2.2.2 (by omega)) ?_
         intro AA cA wA hOA hCA
         have HMA : Hid (New w3 wA) := Chg.trans (S := fun _ => False) (T := (· = _)) (by with_reducible repeat (first | exact Chg.refl _ _ | refine Chg.drew ?_ | refine Chg.drewN ?_ _ | refine Chg.alloc ?_ _)) hCA (fun i hi e => absurd hi (Nat.not_lt.2 (by rw [e]; with_reducible first | exact Nat.le_refl _ | exact Nat.le_succ _)))
         have HOA := Lib.hid hOA
         have HXA := Lib.hid (HBA.out.keep HMA.out)
         clear hOA hCA)
      | (go_at_call 27;
         (with_reducible refine (HNwA.out _ _ _ _ _ (own_new HOA.out (by with_reducible repeat (first | exact Chg.refl _ _ | refine Chg.drew ?_ | refine Chg.drewN ?_ _ | refine Chg.alloc ?_ _)))).mono ?_)
         rintro e wN ⟨oN, zN, rfl, hVN, hNN⟩
         have HMN : Hid (New w3 wN) := HMA.out.then_new (Chg.new_then (by with_reducible repeat (first | exact Chg.refl _ _ | refine Chg.drew ?_ | refine Chg.drewN ?_ _ | refine Chg.alloc ?_ _)) hNN)
         have HVN : Hid (NewV w3 opa _ xa oN zN wN) := hVN.low (Nat.le_trans HMA.out.size (Chg.size (S := fun _ => False) (by with_reducible repeat (first | exact Chg.refl _ _ | refine Chg.drew ?_ | refine Chg.drewN ?_ _ | refine Chg.alloc ?_ _))))
         have HBN := Lib.hid (HBA.out.keep HMN.out)
         clear hVN hNN))
    all_goals
      go_wp2_with fail
      go_meet
      case rel => exact ⟨oN, zN, rfl, rfl, HVN.out, HMN.out⟩
  case rest =>
  obtain ⟨o4, z4, rfl, rfl, hV4, hM4⟩ := hcut
  obtain ⟨w4, hw6⟩ : ∃ w4, w4 = wc := ⟨_, rfl⟩
  rw [← hw6] at hV4 hM4  ⊢
  clear hw6
  have HV4 := Lib.hid hV4
  have HM4 := Lib.hid hM4
  have HBB := Lib.hid (HBB3.out.keep hM4)
  have HP4 := Lib.hid (HP3.out.keep hM4)
  have HO4 := Lib.hid (HO3.out.new hM4)
  have HN6 := Lib.hid (HN5.out.then_new hM4)
  clear hV4 hM4 HBA HBB3 HP3 HO3 HN5 HNwA
  have HN5 := HN6
  clear HN6
  go_upto_region 5 with (fail)
  go_cut [10, 11] (fun s10 s11 wx => ∃ o z, s10 = .pointer o ∧ s11 = .int .i64 z ∧ NewV w4 opb b xb o z wx ∧ New w4 wx)
  case first =>
    go_region_held_law (fun wx => wx.cell? ⟨bb, 0, none⟩ = some (.int .i64 opb) ∧ wx.cell? ⟨bb, 1, none⟩ = some (.slice Ab nb cb))
      (with_reducible first | exact mk_held HBN.out | exact mk_held HXA.out | exact mk_held HXA.out.drew | exact mk_held (HXA.out.alloc _) | exact mk_held (HXA.out.alloc _).drew | exact mk_held HBB.out.drew | exact mk_held (HBB.out.alloc _) | exact mk_held (HBB.out.alloc _).drew | exact mk_held (HBB.out.drew.alloc _) | exact mk_held ((HBB.out.alloc _).alloc _) | exact mk_held ((HBB.out.alloc _).alloc _).drew | exact mk_held ((HBB.out.alloc _).drew.alloc _) | exact mk_held HBB.out)
      (first
      | (refine step_copyI rfl _ _ rfl _ rfl (by with_reducible first | exact Has.new_at _ _ _ _ (by simp) | exact (Has.new_at _ _ _ _ (by simp)).drew | exact Has.new _ _ _ | exact (Has.new _ _ _).drew | exact (Has.new _ _ _).alloc _ | exact ((Has.new _ _ _).alloc _).drew | exact (Has.drew (Has.new _ _ _)).alloc _) Ab nb cb xb _ rfl ((HxB.out.2.1).new (HN5.out.then_new (by with_reducible repeat (first | exact Chg.refl _ _ | refine Chg.drew ?_ | refine Chg.drewN ?_ _ | refine Chg.alloc ?_ _))) (fun _ h => h)) HxB.out.1 HxB.out.2.2.1 (Nat.le_trans HxB.out.2.2.2 (by omega)) ?_
         intro AA cA wA hOA hCA
         have HMA : Hid (New w4 wA) := Chg.trans (S := fun _ => False) (T := (· = _)) (by with_reducible repeat (first | exact Chg.refl _ _ | refine Chg.drew ?_ | refine Chg.drewN ?_ _ | refine Chg.alloc ?_ _)) hCA (fun i hi e => absurd hi (Nat.not_lt.2 (by rw [e]; with_reducible first | exact Nat.le_refl _ | exact Nat.le_succ _)))
         have HOA := Lib.hid hOA
         have HXA := Lib.hid (HBB.out.keep HMA.out)
         clear hOA hCA)
      | (go_at_call 27;
         (with_reducible refine (HNwB.out _ _ _ _ _ (own_new HOA.out (by with_reducible repeat (first | exact Chg.refl _ _ | refine Chg.drew ?_ | refine Chg.drewN ?_ _ | refine Chg.alloc ?_ _)))).mono ?_)
         rintro e wN ⟨oN, zN, rfl, hVN, hNN⟩
         have HMN : Hid (New w4 wN) := HMA.out.then_new (Chg.new_then (by with_reducible repeat (first | exact Chg.refl _ _ | refine Chg.drew ?_ | refine Chg.drewN ?_ _ | refine Chg.alloc ?_ _)) hNN)
         have HVN : Hid (NewV w4 opb _ xb oN zN wN) := hVN.low (Nat.le_trans HMA.out.size (Chg.size (S := fun _ => False) (by with_reducible repeat (first | exact Chg.refl _ _ | refine Chg.drew ?_ | refine Chg.drewN ?_ _ | refine Chg.alloc ?_ _))))
         have HBN := Lib.hid (HBB.out.keep HMN.out)
         clear hVN hNN))
    all_goals
      go_wp2_with fail
      go_meet
      case rel => exact ⟨oN, zN, rfl, rfl, HVN.out, HMN.out⟩
  case rest =>
  obtain ⟨o5, z5, rfl, rfl, hV5, hM5⟩ := hcut
  obtain ⟨w5, hw6⟩ : ∃ w5, w5 = wc := ⟨_, rfl⟩
  rw [← hw6] at hV5 hM5  ⊢
  clear hw6
  have HV5 := Lib.hid hV5
  have HM5 := Lib.hid hM5
  have HBB5 := Lib.hid (HBB.out.keep hM5)
  have HP5 := Lib.hid (HP4.out.keep hM5)
  have HO5 := Lib.hid (HO4.out.new hM5)
  have HN6 := Lib.hid (HN5.out.then_new hM5)
  clear hV5 hM5 HBB HP4 HO4 HN5 HNwB
  have HN5 := HN6
  have HBB := HBB5
  clear HN6 HBB5
  go_upto_region 6 with (fail)
  go_cut [12, 13] (fun s12 s13 wx => ∃ o z ob, s12 = .pointer o ∧ s13 = .int .i64 z ∧ NewV w5 opb ob xb o z wx ∧ New w5 wx ∧ Has wx ob 77 #[.map none, .slice none 0 0] ∧ w5.heap.size ≤ ob)
  case first =>
    refine wp_region_held_drew (S := fun wx => wx.cell? ⟨bb, 0, none⟩ = some (.int .i64 opb) ∧ wx.cell? ⟨bb, 1, none⟩ = some (.slice Ab nb cb)) (by kernel_rfl) (mk_held HBB.out.drew) (fun hHeld => ?_)
    refine takeH (i := 0) (d := 49) (v := .pointer (some ⟨bb, 0, none⟩)) rfl rfl (by kernel_rfl) (by kernel_rfl) (by kernel_rfl) (fun _ _ _ h => h) (Or.inl ⟨by rfl, ?_⟩) (by assumption) ?_
    · (intro w hSw; (try dsimp only at hSw); go_simp; try with_reducible rfl)
    simp only [List.setIfInBounds_toArray, List.set_cons_zero, List.set_cons_succ]
    refine takeH (i := 1) (d := 50) (v := .int .i64 opb) rfl rfl (by kernel_rfl) (by kernel_rfl) (by kernel_rfl) (fun _ _ _ h => h) (Or.inl ⟨by rfl, ?_⟩) (by assumption) ?_
    · (intro w hSw; (try dsimp only at hSw); go_simp; try with_reducible rfl)
    simp only [List.setIfInBounds_toArray, List.set_cons_zero, List.set_cons_succ]
    refine takeH (i := 2) (d := 51) (v := .agg #[.map none, .slice none 0 0]) rfl rfl (by kernel_rfl) (by kernel_rfl) (by kernel_rfl) (fun _ _ _ h => h) (Or.inl ⟨by rfl, ?_⟩) (by assumption) ?_
    · (intro w hSw; (try dsimp only at hSw); go_simp; try with_reducible rfl)
    simp only [List.setIfInBounds_toArray, List.set_cons_zero, List.set_cons_succ]
    refine takeH (i := 5) (d := 54) (v := .pointer (some ⟨bb, 1, none⟩)) rfl rfl (by kernel_rfl) (by kernel_rfl) (by kernel_rfl) (fun _ _ _ h => h) (Or.inl ⟨by rfl, ?_⟩) (by assumption) ?_
    · (intro w hSw; (try dsimp only at hSw); go_simp; try with_reducible rfl)
    simp only [List.setIfInBounds_toArray, List.set_cons_zero, List.set_cons_succ]
    refine takeH (i := 6) (d := 55) (v := .slice Ab nb cb) rfl rfl (by kernel_rfl) (by kernel_rfl) (by kernel_rfl) (fun _ _ _ h => h) (Or.inl ⟨by rfl, ?_⟩) (by assumption) ?_
    · (intro w hSw; (try dsimp only at hSw); go_simp; try with_reducible rfl)
    simp only [List.setIfInBounds_toArray, List.set_cons_zero, List.set_cons_succ]
    refine wpAnyH_ready (rs := [3, 4]) (by kernel_rfl) (by simp) ?_
    refine (AllReadyH.cons rfl (fun K hK => ?_) (AllReadyH.cons rfl (fun K hK => ?_) AllReadyH.nil))
    · go_simp
      refine hK.out _ _ ?_ (fun hHeld => ?_)
      · (with_reducible first | exact mk_held HBN.out | exact mk_held HXA.out | exact mk_held (HXA.out.alloc _) | exact mk_held (HBB.out.alloc _).drew | exact mk_held ((HBB.out.alloc _).alloc _).drew | exact mk_held (HBB.out.alloc _) | exact mk_held ((HBB.out.alloc _).alloc _))
      clear hK K
      try simp only [Act.put, List.setIfInBounds_toArray, List.set_cons_zero, List.set_cons_succ]
      refine wpAnyH_ready (rs := [4]) (by kernel_rfl) (by simp) ?_
      refine (AllReadyH.cons rfl (fun K hK => ?_) AllReadyH.nil)
      go_simp
      refine hK.out _ _ ?_ (fun hHeld => ?_)
      · (with_reducible first | exact mk_held HBN.out | exact mk_held HXA.out | exact mk_held (HXA.out.alloc _) | exact mk_held (HBB.out.alloc _).drew | exact mk_held ((HBB.out.alloc _).alloc _).drew | exact mk_held (HBB.out.alloc _) | exact mk_held ((HBB.out.alloc _).alloc _))
      clear hK K
      try simp only [Act.put, List.setIfInBounds_toArray, List.set_cons_zero, List.set_cons_succ]
      refine wpAnyH_ready (rs := [7]) (by kernel_rfl) (by simp) ?_
      refine (AllReadyH.cons rfl (fun K hK => ?_) AllReadyH.nil)
      refine step_copyI rfl _ _ rfl _ rfl (by with_reducible first | exact (Has.new _ _ _).drew | exact (Has.new_at _ _ _ _ (by simp)).drew | exact ((Has.new _ _ _).alloc _).drew | exact Has.new _ _ _) Ab nb cb xb _ rfl ((HxB.out.2.1).new (HN5.out.then_new (by with_reducible repeat (first | exact Chg.refl _ _ | refine Chg.drew ?_ | refine Chg.drewN ?_ _ | refine Chg.alloc ?_ _))) (fun _ h => h)) HxB.out.1 HxB.out.2.2.1 (Nat.le_trans HxB.out.2.2.2 (by omega)) ?_
      intro AA cA wA hOA hCA
      have HMA : Hid (New w5 wA) := Chg.trans (S := fun _ => False) (T := (· = _)) (by with_reducible repeat (first | exact Chg.refl _ _ | refine Chg.drew ?_ | refine Chg.drewN ?_ _ | refine Chg.alloc ?_ _)) hCA (fun i hi e => absurd hi (Nat.not_lt.2 (by rw [e]; first | exact Nat.le_refl _ | exact Nat.le_succ _ | simp)))
      have HOA := Lib.hid hOA
      have HXA := Lib.hid (HBB.out.keep HMA.out)
      have hb0 : Has ((w5.alloc (.cells #[.map none, .slice none 0 0] 77)).alloc (.cells #[] 3)).drew w5.heap.size 77 #[.map none, .slice none 0 0] := ((Has.new _ _ _).alloc _).drew
      have hz1 : Hid (Has wA w5.heap.size 77 #[.map none, .slice none 0 0]) := hb0.chg hCA (by intro e; first | exact ne_up1 _ _ e | exact absurd e (Nat.ne_of_lt (Nat.lt_succ_self _)) | exact ne_up2 _ e)
      clear hb0
      clear hOA hCA
      refine hK.out _ _ ?_ (fun hHeld => ?_)
      · (with_reducible first | exact mk_held HBN.out | exact mk_held HXA.out | exact mk_held (HXA.out.alloc _) | exact mk_held (HBB.out.alloc _).drew | exact mk_held ((HBB.out.alloc _).alloc _).drew | exact mk_held (HBB.out.alloc _) | exact mk_held ((HBB.out.alloc _).alloc _))
      clear hK K
      try simp only [Act.put, List.setIfInBounds_toArray]
      refine wpAnyH_ready (rs := [8]) (by kernel_rfl) (by simp) ?_
      refine (AllReadyH.cons rfl (fun K hK => ?_) AllReadyH.nil)
      go_simp
      go_at_call 27;
      (with_reducible refine (HNwZ.out _ _ _ _ _ (own_new HOA.out (by with_reducible repeat (first | exact Chg.refl _ _ | refine Chg.drew ?_ | refine Chg.drewN ?_ _ | refine Chg.alloc ?_ _))) hz1.out).mono ?_)
      rintro e wN ⟨oN, zN, rfl, hVN, hNN, hON⟩
      have HMN : Hid (New w5 wN) := HMA.out.then_new (Chg.new_then (by with_reducible repeat (first | exact Chg.refl _ _ | refine Chg.drew ?_ | refine Chg.drewN ?_ _ | refine Chg.alloc ?_ _)) hNN)
      have HVN : Hid (NewV w5 opb _ xb oN zN wN) := hVN.low (Nat.le_trans HMA.out.size (Chg.size (S := fun _ => False) (by with_reducible repeat (first | exact Chg.refl _ _ | refine Chg.drew ?_ | refine Chg.drewN ?_ _ | refine Chg.alloc ?_ _))))
      have HBN := Lib.hid (HBB.out.keep HMN.out)
      have HON := Lib.hid hON
      clear hVN hNN hON
      refine hK.out _ _ ?_ (fun hHeld => ?_)
      · (with_reducible first | exact mk_held HBN.out | exact mk_held HXA.out | exact mk_held (HXA.out.alloc _) | exact mk_held (HBB.out.alloc _).drew | exact mk_held ((HBB.out.alloc _).alloc _).drew | exact mk_held (HBB.out.alloc _) | exact mk_held ((HBB.out.alloc _).alloc _))
      clear hK K
      try simp only [Act.put, List.setIfInBounds_toArray, List.set_cons_zero, List.set_cons_succ]
      refine takeH (i := 9) (d := 48) (v := .tuple #[.pointer oN, .int .i64 zN]) rfl rfl (by kernel_rfl) (by kernel_rfl) (by kernel_rfl) (fun _ _ _ h => h) (Or.inl ⟨by rfl, ?_⟩) (by assumption) ?_
      · (intro w hSw; (try dsimp only at hSw); go_simp; try with_reducible rfl)
      simp only [List.setIfInBounds_toArray, List.set_cons_zero, List.set_cons_succ]
      refine takeH (i := 10) (d := 58) (v := .pointer oN) rfl rfl (by kernel_rfl) (by kernel_rfl) (by kernel_rfl) (fun _ _ _ h => h) (Or.inl ⟨by rfl, ?_⟩) (by assumption) ?_
      · (intro w hSw; (try dsimp only at hSw); go_simp; try with_reducible rfl)
      simp only [List.setIfInBounds_toArray, List.set_cons_zero, List.set_cons_succ]
      refine takeH (i := 11) (d := 59) (v := .int .i64 zN) rfl rfl (by kernel_rfl) (by kernel_rfl) (by kernel_rfl) (fun _ _ _ h => h) (Or.inl ⟨by rfl, ?_⟩) (by assumption) ?_
      · (intro w hSw; (try dsimp only at hSw); go_simp; try with_reducible rfl)
      simp only [List.setIfInBounds_toArray, List.set_cons_zero, List.set_cons_succ]
      refine takeH (i := 12) (d := 12) (v := .pointer oN) rfl rfl (by kernel_rfl) (by kernel_rfl) (by kernel_rfl) (fun _ _ _ h => h) (Or.inl ⟨by rfl, ?_⟩) (by assumption) ?_
      · (intro w hSw; (try dsimp only at hSw); go_simp; try with_reducible rfl)
      simp only [List.setIfInBounds_toArray, List.set_cons_zero, List.set_cons_succ]
      refine takeH (i := 13) (d := 13) (v := .int .i64 zN) rfl rfl (by kernel_rfl) (by kernel_rfl) (by kernel_rfl) (fun _ _ _ h => h) (Or.inl ⟨by rfl, ?_⟩) (by assumption) ?_
      · (intro w hSw; (try dsimp only at hSw); go_simp; try with_reducible rfl)
      simp only [List.setIfInBounds_toArray, List.set_cons_zero, List.set_cons_succ]
      refine wpAnyH_done (by kernel_rfl) ?_ _
      go_wp2_with fail
      go_meet
      case rel => exact ⟨oN, zN, _, rfl, rfl, HVN.out, HMN.out, HON.out, Nat.le_refl _⟩
    · go_simp
      refine hK.out _ _ ?_ (fun hHeld => ?_)
      · (with_reducible first | exact mk_held HBN.out | exact mk_held HXA.out | exact mk_held (HXA.out.alloc _) | exact mk_held (HBB.out.alloc _).drew | exact mk_held ((HBB.out.alloc _).alloc _).drew | exact mk_held (HBB.out.alloc _) | exact mk_held ((HBB.out.alloc _).alloc _))
      clear hK K
      try simp only [Act.put, List.setIfInBounds_toArray, List.set_cons_zero, List.set_cons_succ]
      refine wpAnyH_ready (rs := [3, 7]) (by kernel_rfl) (by simp) ?_
      refine (AllReadyH.cons rfl (fun K hK => ?_) (AllReadyH.cons rfl (fun K hK => ?_) AllReadyH.nil))
      · go_simp
        refine hK.out _ _ ?_ (fun hHeld => ?_)
        · (with_reducible first | exact mk_held HBN.out | exact mk_held HXA.out | exact mk_held (HXA.out.alloc _) | exact mk_held (HBB.out.alloc _).drew | exact mk_held ((HBB.out.alloc _).alloc _).drew | exact mk_held (HBB.out.alloc _) | exact mk_held ((HBB.out.alloc _).alloc _))
        clear hK K
        try simp only [Act.put, List.setIfInBounds_toArray, List.set_cons_zero, List.set_cons_succ]
        refine wpAnyH_ready (rs := [7]) (by kernel_rfl) (by simp) ?_
        refine (AllReadyH.cons rfl (fun K hK => ?_) AllReadyH.nil)
        refine step_copyI rfl _ _ rfl _ rfl (by with_reducible first | exact (Has.new _ _ _).drew | exact (Has.new_at _ _ _ _ (by simp)).drew | exact ((Has.new _ _ _).alloc _).drew | exact Has.new _ _ _) Ab nb cb xb _ rfl ((HxB.out.2.1).new (HN5.out.then_new (by with_reducible repeat (first | exact Chg.refl _ _ | refine Chg.drew ?_ | refine Chg.drewN ?_ _ | refine Chg.alloc ?_ _))) (fun _ h => h)) HxB.out.1 HxB.out.2.2.1 (Nat.le_trans HxB.out.2.2.2 (by omega)) ?_
        intro AA cA wA hOA hCA
        have HMA : Hid (New w5 wA) := Chg.trans (S := fun _ => False) (T := (· = _)) (by with_reducible repeat (first | exact Chg.refl _ _ | refine Chg.drew ?_ | refine Chg.drewN ?_ _ | refine Chg.alloc ?_ _)) hCA (fun i hi e => absurd hi (Nat.not_lt.2 (by rw [e]; first | exact Nat.le_refl _ | exact Nat.le_succ _ | simp)))
        have HOA := Lib.hid hOA
        have HXA := Lib.hid (HBB.out.keep HMA.out)
        have hb0 : Has ((w5.alloc (.cells #[] 3)).alloc (.cells #[.map none, .slice none 0 0] 77)).drew (w5.heap.size + 1) 77 #[.map none, .slice none 0 0] := (Has.new_at _ _ _ _ (by simp)).drew
        have hz1 : Hid (Has wA (w5.heap.size + 1) 77 #[.map none, .slice none 0 0]) := hb0.chg hCA (by intro e; first | exact ne_up1 _ _ e | exact absurd e (Nat.ne_of_lt (Nat.lt_succ_self _)) | exact ne_up2 _ e)
        clear hb0
        clear hOA hCA
        refine hK.out _ _ ?_ (fun hHeld => ?_)
        · (with_reducible first | exact mk_held HBN.out | exact mk_held HXA.out | exact mk_held (HXA.out.alloc _) | exact mk_held (HBB.out.alloc _).drew | exact mk_held ((HBB.out.alloc _).alloc _).drew | exact mk_held (HBB.out.alloc _) | exact mk_held ((HBB.out.alloc _).alloc _))
        clear hK K
        try simp only [Act.put, List.setIfInBounds_toArray]
        refine wpAnyH_ready (rs := [8]) (by kernel_rfl) (by simp) ?_
        refine (AllReadyH.cons rfl (fun K hK => ?_) AllReadyH.nil)
        go_simp
        go_at_call 27;
        (with_reducible refine (HNwZ.out _ _ _ _ _ (own_new HOA.out (by with_reducible repeat (first | exact Chg.refl _ _ | refine Chg.drew ?_ | refine Chg.drewN ?_ _ | refine Chg.alloc ?_ _))) hz1.out).mono ?_)
        rintro e wN ⟨oN, zN, rfl, hVN, hNN, hON⟩
        have HMN : Hid (New w5 wN) := HMA.out.then_new (Chg.new_then (by with_reducible repeat (first | exact Chg.refl _ _ | refine Chg.drew ?_ | refine Chg.drewN ?_ _ | refine Chg.alloc ?_ _)) hNN)
        have HVN : Hid (NewV w5 opb _ xb oN zN wN) := hVN.low (Nat.le_trans HMA.out.size (Chg.size (S := fun _ => False) (by with_reducible repeat (first | exact Chg.refl _ _ | refine Chg.drew ?_ | refine Chg.drewN ?_ _ | refine Chg.alloc ?_ _))))
        have HBN := Lib.hid (HBB.out.keep HMN.out)
        have HON := Lib.hid hON
        clear hVN hNN hON
        refine hK.out _ _ ?_ (fun hHeld => ?_)
        · (with_reducible first | exact mk_held HBN.out | exact mk_held HXA.out | exact mk_held (HXA.out.alloc _) | exact mk_held (HBB.out.alloc _).drew | exact mk_held ((HBB.out.alloc _).alloc _).drew | exact mk_held (HBB.out.alloc _) | exact mk_held ((HBB.out.alloc _).alloc _))
        clear hK K
        try simp only [Act.put, List.setIfInBounds_toArray, List.set_cons_zero, List.set_cons_succ]
        refine takeH (i := 9) (d := 48) (v := .tuple #[.pointer oN, .int .i64 zN]) rfl rfl (by kernel_rfl) (by kernel_rfl) (by kernel_rfl) (fun _ _ _ h => h) (Or.inl ⟨by rfl, ?_⟩) (by assumption) ?_
        · (intro w hSw; (try dsimp only at hSw); go_simp; try with_reducible rfl)
        simp only [List.setIfInBounds_toArray, List.set_cons_zero, List.set_cons_succ]
        refine takeH (i := 10) (d := 58) (v := .pointer oN) rfl rfl (by kernel_rfl) (by kernel_rfl) (by kernel_rfl) (fun _ _ _ h => h) (Or.inl ⟨by rfl, ?_⟩) (by assumption) ?_
        · (intro w hSw; (try dsimp only at hSw); go_simp; try with_reducible rfl)
        simp only [List.setIfInBounds_toArray, List.set_cons_zero, List.set_cons_succ]
        refine takeH (i := 11) (d := 59) (v := .int .i64 zN) rfl rfl (by kernel_rfl) (by kernel_rfl) (by kernel_rfl) (fun _ _ _ h => h) (Or.inl ⟨by rfl, ?_⟩) (by assumption) ?_
        · (intro w hSw; (try dsimp only at hSw); go_simp; try with_reducible rfl)
        simp only [List.setIfInBounds_toArray, List.set_cons_zero, List.set_cons_succ]
        refine takeH (i := 12) (d := 12) (v := .pointer oN) rfl rfl (by kernel_rfl) (by kernel_rfl) (by kernel_rfl) (fun _ _ _ h => h) (Or.inl ⟨by rfl, ?_⟩) (by assumption) ?_
        · (intro w hSw; (try dsimp only at hSw); go_simp; try with_reducible rfl)
        simp only [List.setIfInBounds_toArray, List.set_cons_zero, List.set_cons_succ]
        refine takeH (i := 13) (d := 13) (v := .int .i64 zN) rfl rfl (by kernel_rfl) (by kernel_rfl) (by kernel_rfl) (fun _ _ _ h => h) (Or.inl ⟨by rfl, ?_⟩) (by assumption) ?_
        · (intro w hSw; (try dsimp only at hSw); go_simp; try with_reducible rfl)
        simp only [List.setIfInBounds_toArray, List.set_cons_zero, List.set_cons_succ]
        refine wpAnyH_done (by kernel_rfl) ?_ _
        go_wp2_with fail
        go_meet
        case rel => exact ⟨oN, zN, _, rfl, rfl, HVN.out, HMN.out, HON.out, Nat.le_succ _⟩
      · refine step_copyI rfl _ _ rfl _ rfl (by with_reducible first | exact (Has.new _ _ _).drew | exact (Has.new_at _ _ _ _ (by simp)).drew | exact ((Has.new _ _ _).alloc _).drew | exact Has.new _ _ _) Ab nb cb xb _ rfl ((HxB.out.2.1).new (HN5.out.then_new (by with_reducible repeat (first | exact Chg.refl _ _ | refine Chg.drew ?_ | refine Chg.drewN ?_ _ | refine Chg.alloc ?_ _))) (fun _ h => h)) HxB.out.1 HxB.out.2.2.1 (Nat.le_trans HxB.out.2.2.2 (by omega)) ?_
        intro AA cA wA hOA hCA
        have HMA : Hid (New w5 wA) := Chg.trans (S := fun _ => False) (T := (· = _)) (by with_reducible repeat (first | exact Chg.refl _ _ | refine Chg.drew ?_ | refine Chg.drewN ?_ _ | refine Chg.alloc ?_ _)) hCA (fun i hi e => absurd hi (Nat.not_lt.2 (by rw [e]; first | exact Nat.le_refl _ | exact Nat.le_succ _ | simp)))
        have HOA := Lib.hid hOA
        have HXA := Lib.hid (HBB.out.keep HMA.out)
        clear hOA hCA
        refine hK.out _ _ ?_ (fun hHeld => ?_)
        · (with_reducible first | exact mk_held HBN.out | exact mk_held HXA.out | exact mk_held (HXA.out.alloc _) | exact mk_held (HBB.out.alloc _).drew | exact mk_held ((HBB.out.alloc _).alloc _).drew | exact mk_held (HBB.out.alloc _) | exact mk_held ((HBB.out.alloc _).alloc _))
        clear hK K
        try simp only [Act.put, List.setIfInBounds_toArray]
        refine wpAnyH_ready (rs := [3]) (by kernel_rfl) (by simp) ?_
        refine (AllReadyH.cons rfl (fun K hK => ?_) AllReadyH.nil)
        go_simp
        refine hK.out _ _ ?_ (fun hHeld => ?_)
        · (with_reducible first | exact mk_held HBN.out | exact mk_held HXA.out | exact mk_held (HXA.out.alloc _) | exact mk_held (HBB.out.alloc _).drew | exact mk_held ((HBB.out.alloc _).alloc _).drew | exact mk_held (HBB.out.alloc _) | exact mk_held ((HBB.out.alloc _).alloc _))
        clear hK K
        try simp only [Act.put, List.setIfInBounds_toArray, List.set_cons_zero, List.set_cons_succ]
        refine wpAnyH_ready (rs := [8]) (by kernel_rfl) (by simp) ?_
        refine (AllReadyH.cons rfl (fun K hK => ?_) AllReadyH.nil)
        go_simp
        go_at_call 27;
        (with_reducible refine (HNwZ.out _ _ _ _ _ (own_new HOA.out (by with_reducible repeat (first | exact Chg.refl _ _ | refine Chg.drew ?_ | refine Chg.drewN ?_ _ | refine Chg.alloc ?_ _))) (by with_reducible first | exact Has.new _ _ _ | exact (Has.new _ _ _).drew)).mono ?_)
        rintro e wN ⟨oN, zN, rfl, hVN, hNN, hON⟩
        have HMN : Hid (New w5 wN) := HMA.out.then_new (Chg.new_then (by with_reducible repeat (first | exact Chg.refl _ _ | refine Chg.drew ?_ | refine Chg.drewN ?_ _ | refine Chg.alloc ?_ _)) hNN)
        have HVN : Hid (NewV w5 opb _ xb oN zN wN) := hVN.low (Nat.le_trans HMA.out.size (Chg.size (S := fun _ => False) (by with_reducible repeat (first | exact Chg.refl _ _ | refine Chg.drew ?_ | refine Chg.drewN ?_ _ | refine Chg.alloc ?_ _))))
        have HBN := Lib.hid (HBB.out.keep HMN.out)
        have HON := Lib.hid hON
        clear hVN hNN hON
        refine hK.out _ _ ?_ (fun hHeld => ?_)
        · (with_reducible first | exact mk_held HBN.out | exact mk_held HXA.out | exact mk_held (HXA.out.alloc _) | exact mk_held (HBB.out.alloc _).drew | exact mk_held ((HBB.out.alloc _).alloc _).drew | exact mk_held (HBB.out.alloc _) | exact mk_held ((HBB.out.alloc _).alloc _))
        clear hK K
        try simp only [Act.put, List.setIfInBounds_toArray, List.set_cons_zero, List.set_cons_succ]
        refine takeH (i := 9) (d := 48) (v := .tuple #[.pointer oN, .int .i64 zN]) rfl rfl (by kernel_rfl) (by kernel_rfl) (by kernel_rfl) (fun _ _ _ h => h) (Or.inl ⟨by rfl, ?_⟩) (by assumption) ?_
        · (intro w hSw; (try dsimp only at hSw); go_simp; try with_reducible rfl)
        simp only [List.setIfInBounds_toArray, List.set_cons_zero, List.set_cons_succ]
        refine takeH (i := 10) (d := 58) (v := .pointer oN) rfl rfl (by kernel_rfl) (by kernel_rfl) (by kernel_rfl) (fun _ _ _ h => h) (Or.inl ⟨by rfl, ?_⟩) (by assumption) ?_
        · (intro w hSw; (try dsimp only at hSw); go_simp; try with_reducible rfl)
        simp only [List.setIfInBounds_toArray, List.set_cons_zero, List.set_cons_succ]
        refine takeH (i := 11) (d := 59) (v := .int .i64 zN) rfl rfl (by kernel_rfl) (by kernel_rfl) (by kernel_rfl) (fun _ _ _ h => h) (Or.inl ⟨by rfl, ?_⟩) (by assumption) ?_
        · (intro w hSw; (try dsimp only at hSw); go_simp; try with_reducible rfl)
        simp only [List.setIfInBounds_toArray, List.set_cons_zero, List.set_cons_succ]
        refine takeH (i := 12) (d := 12) (v := .pointer oN) rfl rfl (by kernel_rfl) (by kernel_rfl) (by kernel_rfl) (fun _ _ _ h => h) (Or.inl ⟨by rfl, ?_⟩) (by assumption) ?_
        · (intro w hSw; (try dsimp only at hSw); go_simp; try with_reducible rfl)
        simp only [List.setIfInBounds_toArray, List.set_cons_zero, List.set_cons_succ]
        refine takeH (i := 13) (d := 13) (v := .int .i64 zN) rfl rfl (by kernel_rfl) (by kernel_rfl) (by kernel_rfl) (fun _ _ _ h => h) (Or.inl ⟨by rfl, ?_⟩) (by assumption) ?_
        · (intro w hSw; (try dsimp only at hSw); go_simp; try with_reducible rfl)
        simp only [List.setIfInBounds_toArray, List.set_cons_zero, List.set_cons_succ]
        refine wpAnyH_done (by kernel_rfl) ?_ _
        go_wp2_with fail
        go_meet
        case rel => exact ⟨oN, zN, _, rfl, rfl, HVN.out, HMN.out, HON.out, HMA.out.size⟩
  case rest =>
  obtain ⟨o6, z6, ob, rfl, rfl, hV6, hM6, hO6, hb6⟩ := hcut
  obtain ⟨w6, hw6⟩ : ∃ w6, w6 = wc := ⟨_, rfl⟩
  rw [← hw6] at hV6 hM6 hO6 ⊢
  clear hw6
  have HV6 := Lib.hid hV6
  have HM6 := Lib.hid hM6
  have HZ6 := Lib.hid hO6
  have Hne : Hid (ob ≠ b) := fun e => by have h1 := HO5.out.lt; have h2 := hb6; omega
  have HBB6 := Lib.hid (HBB.out.keep hM6)
  have HP6 := Lib.hid (HP5.out.keep hM6)
  have HO6 := Lib.hid (HO5.out.new hM6)
  have HN6 := Lib.hid (HN5.out.then_new hM6)
  clear hV6 hM6 hO6 hb6 HBB HP5 HO5 HN5 HNwZ
  rcases HV4.out with ⟨_, rfl, rfl⟩ | ⟨_, ga, rfl, rfl, _, hga⟩
  · go_wp2_with fail
    go_ret
    exact ⟨rfl, HN6.out⟩
  have HGa := Lib.hid (hga.keep (HM5.out.then_new HM6.out))
  clear hga HV4 HM4
  rcases HV5.out with ⟨h5, rfl, rfl⟩ | ⟨h5, gb, rfl, rfl, _, hgb⟩
  · go_wp2_with fail
    go_ret
    exact ⟨rfl, HN6.out⟩
  have HGb := Lib.hid (hgb.keep HM6.out)
  rcases HV6.out with ⟨h6, _⟩ | ⟨_, gz, rfl, rfl, _, hgz⟩
  · rw [h5] at h6; cases h6
  have HGz := Lib.hid hgz
  clear hgz hgb HV5 HV6 HM5 HM6 h5
  have HSc : Hid (Calls Try.prog 22 #[.pointer (some ⟨ga, 0, none⟩), .agg #[.int .i64 x0, .int .i64 x1, .int .i64 x2, .int .i64 x3, .int .i64 x4, .int .i64 x5, .int .i64 x6, .int .i64 x7, .bool x8, .int .i64 x9, .int .i64 x10, .int .i64 x11, .int .i64 x12, .bool x13]] w6 fun e w' => SealP b b (rightN (⟨x0, x1, x2, x3, x4, x5, x6, x7, x8, x9, x10, x11, x12, x13⟩ : Pd).ns) (accB (accF opa xa) x1) [prS ⟨x0, x1, x2, x3, x4, x5, x6, x7, x8, x9, x10, x11, x12, x13⟩] (bodyN (⟨x0, x1, x2, x3, x4, x5, x6, x7, x8, x9, x10, x11, x12, x13⟩ : Pd).ns 1) w6 e w') := by
    have := Seal_any ⟨x0, x1, x2, x3, x4, x5, x6, x7, x8, x9, x10, x11, x12, x13⟩ b b ga opa 0 (accF opa xa) [] w6 HGa.out HO6.out (by simp)
    unfold SealR at this
    rw [mintL_0, mintN_0] at this
    exact this
  have c0 : w6.cell? ⟨pb, 0, none⟩ = some (.int .i64 x0) := (HP6.out.cell 0).trans rfl
  have c1 : w6.cell? ⟨pb, 1, none⟩ = some (.int .i64 x1) := (HP6.out.cell 1).trans rfl
  have c2 : w6.cell? ⟨pb, 2, none⟩ = some (.int .i64 x2) := (HP6.out.cell 2).trans rfl
  have c3 : w6.cell? ⟨pb, 3, none⟩ = some (.int .i64 x3) := (HP6.out.cell 3).trans rfl
  have c4 : w6.cell? ⟨pb, 4, none⟩ = some (.int .i64 x4) := (HP6.out.cell 4).trans rfl
  have c5 : w6.cell? ⟨pb, 5, none⟩ = some (.int .i64 x5) := (HP6.out.cell 5).trans rfl
  have c6 : w6.cell? ⟨pb, 6, none⟩ = some (.int .i64 x6) := (HP6.out.cell 6).trans rfl
  have c7 : w6.cell? ⟨pb, 7, none⟩ = some (.int .i64 x7) := (HP6.out.cell 7).trans rfl
  have c8 : w6.cell? ⟨pb, 8, none⟩ = some (.bool x8) := (HP6.out.cell 8).trans rfl
  have c9 : w6.cell? ⟨pb, 9, none⟩ = some (.int .i64 x9) := (HP6.out.cell 9).trans rfl
  have c10 : w6.cell? ⟨pb, 10, none⟩ = some (.int .i64 x10) := (HP6.out.cell 10).trans rfl
  have c11 : w6.cell? ⟨pb, 11, none⟩ = some (.int .i64 x11) := (HP6.out.cell 11).trans rfl
  have c12 : w6.cell? ⟨pb, 12, none⟩ = some (.int .i64 x12) := (HP6.out.cell 12).trans rfl
  have c13 : w6.cell? ⟨pb, 13, none⟩ = some (.bool x13) := (HP6.out.cell 13).trans rfl
  go_wp2_with fail
  with_reducible refine HSc.out.mono ?_
  intro e w7 hS
  unfold SealP at hS
  clear HSc
  rcases hS with ⟨_, rfl, hN⟩ | ⟨_, _, rfl, hN⟩ | ⟨hr, _, ⟨A7, cp7, rfl, hB7⟩, hO7, hC7⟩
  iterate 2
    · have HLc := Lib.hid (Len_any b b [] w7 (HO6.out.new hN))
      have HN7 := Lib.hid (HN6.out.then_new hN)
      clear hN
      clear c0 c1 c2 c3 c4 c5 c6 c7 c8 c9 c10 c11 c12 c13
      go_wp2_with fail
      with_reducible refine HLc.out.mono ?_
      rintro e wz ⟨rfl, rfl⟩
      go_wp2_with fail
      go_ret
      exact ⟨rfl, HN7.out⟩
  have hp : RightN (⟨x0, x1, x2, x3, x4, x5, x6, x7, x8, x9, x10, x11, x12, x13⟩ : Pd).ns := rightN_of hr
  have Hx1 : Hid (1 ≤ x1 ∧ x1 ≤ 4) := ((right_pd ⟨x0, x1, x2, x3, x4, x5, x6, x7, x8, x9, x10, x11, x12, x13⟩).1 hp).2.1
  have HGb7 := Lib.hid (HGb.out.chg hC7 (not_OS HGb.out (by decide) (by decide)))
  have HGz7 := Lib.hid (HGz.out.chg hC7 (not_OS HGz.out (by decide) (by decide)))
  have HP7 := Lib.hid (HP6.out.chg hC7 (not_OS HP6.out (by decide) (by decide)))
  have HBB7 := Lib.hid (HBB6.out.chg hC7 (not_OS HBB6.out (by decide) (by decide)))
  have HZ7 := Lib.hid (HZ6.out.chg hC7 (not_OSz HZ6.out Hne.out))
  have HO7 := Lib.hid hO7
  have HB7 := Lib.hid hB7
  have HN7 : Hid (New W w7) := HN6.out.trans hC7 (fun i hi h => by have h1 := h.1; have h2 := Hb.out; omega)
  have HLe : Hid (∀ wx, Orc wx b b [prS ⟨x0, x1, x2, x3, x4, x5, x6, x7, x8, x9, x10, x11, x12, x13⟩] → Calls Try.prog 30 #[.pointer (some ⟨b, 0, none⟩)] wx fun e w' => e = .returned (.int .i64 1) ∧ w' = wx) := fun wx h => Len_any b b _ wx h
  have HRa : Hid (∀ wx, New W wx → Calls Try.prog 24 #[.int .i64 opb, .slice Ab nb cb, .int .i64 x1] wx fun e w' => e = .returned (.bool (accB (accF opb xb) x1)) ∧ w' = wx) := fun wx hw => by
    rw [← refA_acc Hx1.out.1 Hx1.out.2]
    exact rAcc_any opb x1 xb Ab nb cb wx _ HxB.out.1 (by have := HxB.out.2.2.2; omega) ((HxB.out.2.1).new hw (fun _ h => h))
  have HOg : Hid (∀ (g o : Nat) (M : List Sl) (wx : World) (P : Pd) (z : Int), Has wx g 129 (mdC o opb (accF opb xb) 0) → Orc wx o o M → wx.ownsRow w6.heap.size 5 1 (.slice A7 64 cp7) 64 ((bodyN (⟨x0, x1, x2, x3, x4, x5, x6, x7, x8, x9, x10, x11, x12, x13⟩ : Pd).ns 1).map bV) → (if accB (accF opb xb) x1 = false then (pz, 24) else if holdsB M (prS ⟨x0, x1, x2, x3, x4, x5, x6, x7, x8, x9, x10, x11, x12, x13⟩) 1 = false then (pz, 23) else ((⟨x0, x1, x2, x3, x4, x5, x6, x7, x8, x9, x10, x11, x12, x13⟩ : Pd), (0 : Int))) = (P, z) → Calls Try.prog 23 #[.pointer (some ⟨g, 0, none⟩), .int .i64 x3, .agg #[.int .i64 x0, .int .i64 x1, .int .i64 x2, .int .i64 0], .slice A7 64 cp7] wx fun e w' => e = .returned (.tuple #[P.V, .int .i64 z]) ∧ New wx w') := fun g o M wx P z hg ho hO hz => by
    have := Open_any x3 x0 x1 x2 0 (bodyN (⟨x0, x1, x2, x3, x4, x5, x6, x7, x8, x9, x10, x11, x12, x13⟩ : Pd).ns 1) 64 cp7 A7 _ o o g opb 0 (accF opb xb) M wx hg ho (Byts.own_any hO (Chg.refl _ _) (body_small hp (by omega)) (by omega)) (own_cap hO) (own_max hO) (fun k hk => hk)
    rw [show opnI (accF opb xb) M x3 x0 x1 x2 (bodyN (⟨x0, x1, x2, x3, x4, x5, x6, x7, x8, x9, x10, x11, x12, x13⟩ : Pd).ns 1) = _ from open_sealed hp (accF opb xb) M] at this
    rw [show (if accB (accF opb xb) (⟨x0, x1, x2, x3, x4, x5, x6, x7, x8, x9, x10, x11, x12, x13⟩ : Pd).x1 = false then (pz, (24 : Int)) else if holdsB M (prS ⟨x0, x1, x2, x3, x4, x5, x6, x7, x8, x9, x10, x11, x12, x13⟩) 1 = false then (pz, 23) else ((⟨x0, x1, x2, x3, x4, x5, x6, x7, x8, x9, x10, x11, x12, x13⟩ : Pd), (0 : Int))) = (P, z) from hz] at this
    exact this
  clear hp hr hB7 hO7 hC7 HGa HGb HGz HP6 HBB6 HZ6 HO6 HN6 Hx1
  clear c0 c1 c2 c3 c4 c5 c6 c7 c8 c9 c10 c11 c12 c13
  have c0 : w7.cell? ⟨pb, 0, none⟩ = some (.int .i64 x0) := (HP7.out.cell 0).trans rfl
  have c1 : w7.cell? ⟨pb, 1, none⟩ = some (.int .i64 x1) := (HP7.out.cell 1).trans rfl
  have c2 : w7.cell? ⟨pb, 2, none⟩ = some (.int .i64 x2) := (HP7.out.cell 2).trans rfl
  have c3 : w7.cell? ⟨pb, 3, none⟩ = some (.int .i64 x3) := (HP7.out.cell 3).trans rfl
  have c4 : w7.cell? ⟨pb, 4, none⟩ = some (.int .i64 x4) := (HP7.out.cell 4).trans rfl
  have c5 : w7.cell? ⟨pb, 5, none⟩ = some (.int .i64 x5) := (HP7.out.cell 5).trans rfl
  have c6 : w7.cell? ⟨pb, 6, none⟩ = some (.int .i64 x6) := (HP7.out.cell 6).trans rfl
  have c7 : w7.cell? ⟨pb, 7, none⟩ = some (.int .i64 x7) := (HP7.out.cell 7).trans rfl
  have c8 : w7.cell? ⟨pb, 8, none⟩ = some (.bool x8) := (HP7.out.cell 8).trans rfl
  have c9 : w7.cell? ⟨pb, 9, none⟩ = some (.int .i64 x9) := (HP7.out.cell 9).trans rfl
  have c10 : w7.cell? ⟨pb, 10, none⟩ = some (.int .i64 x10) := (HP7.out.cell 10).trans rfl
  have c11 : w7.cell? ⟨pb, 11, none⟩ = some (.int .i64 x11) := (HP7.out.cell 11).trans rfl
  have c12 : w7.cell? ⟨pb, 12, none⟩ = some (.int .i64 x12) := (HP7.out.cell 12).trans rfl
  have c13 : w7.cell? ⟨pb, 13, none⟩ = some (.bool x13) := (HP7.out.cell 13).trans rfl
  go_upto_region 13 with (fail)
  obtain ⟨w8, hw8⟩ : ∃ w8, w8 = w7.alloc (.cells #[.int .i64 x0, .int .i64 x1, .int .i64 x2, .int .i64 0] 56) := ⟨_, rfl⟩
  obtain ⟨eb, heb⟩ : ∃ eb, eb = w7.heap.size := ⟨_, rfl⟩
  have HE8 : Hid (Has w8 eb 56 #[.int .i64 x0, .int .i64 x1, .int .i64 x2, .int .i64 0]) := by rw [hw8, heb]; exact Has.new _ _ _
  have hm : New w7 w8 := by rw [hw8]; exact (Chg.refl _ _).alloc _
  have HGb8 := Lib.hid (HGb7.out.keep hm)
  have HGz8 := Lib.hid (HGz7.out.keep hm)
  have HP8 := Lib.hid (HP7.out.keep hm)
  have HBB8 := Lib.hid (HBB7.out.keep hm)
  have HZ8 := Lib.hid (HZ7.out.keep hm)
  have HO8 := Lib.hid (HO7.out.new hm)
  have HB8 := Lib.hid (own_new HB7.out hm)
  have HN8 := Lib.hid (HN7.out.then_new hm)
  rw [← hw8, ← heb]
  clear hw8 heb hm HGb7 HGz7 HP7 HBB7 HZ7 HO7 HB7 HN7
  clear c0 c1 c2 c3 c4 c5 c6 c7 c8 c9 c10 c11 c12 c13
  have c0 : w8.cell? ⟨pb, 0, none⟩ = some (.int .i64 x0) := (HP8.out.cell 0).trans rfl
  have c1 : w8.cell? ⟨pb, 1, none⟩ = some (.int .i64 x1) := (HP8.out.cell 1).trans rfl
  have c2 : w8.cell? ⟨pb, 2, none⟩ = some (.int .i64 x2) := (HP8.out.cell 2).trans rfl
  have c3 : w8.cell? ⟨pb, 3, none⟩ = some (.int .i64 x3) := (HP8.out.cell 3).trans rfl
  have c4 : w8.cell? ⟨pb, 4, none⟩ = some (.int .i64 x4) := (HP8.out.cell 4).trans rfl
  have c5 : w8.cell? ⟨pb, 5, none⟩ = some (.int .i64 x5) := (HP8.out.cell 5).trans rfl
  have c6 : w8.cell? ⟨pb, 6, none⟩ = some (.int .i64 x6) := (HP8.out.cell 6).trans rfl
  have c7 : w8.cell? ⟨pb, 7, none⟩ = some (.int .i64 x7) := (HP8.out.cell 7).trans rfl
  have c8 : w8.cell? ⟨pb, 8, none⟩ = some (.bool x8) := (HP8.out.cell 8).trans rfl
  have c9 : w8.cell? ⟨pb, 9, none⟩ = some (.int .i64 x9) := (HP8.out.cell 9).trans rfl
  have c10 : w8.cell? ⟨pb, 10, none⟩ = some (.int .i64 x10) := (HP8.out.cell 10).trans rfl
  have c11 : w8.cell? ⟨pb, 11, none⟩ = some (.int .i64 x11) := (HP8.out.cell 11).trans rfl
  have c12 : w8.cell? ⟨pb, 12, none⟩ = some (.int .i64 x12) := (HP8.out.cell 12).trans rfl
  have c13 : w8.cell? ⟨pb, 13, none⟩ = some (.bool x13) := (HP8.out.cell 13).trans rfl
  have d0 : w8.cell? ⟨eb, 0, none⟩ = some (.int .i64 x0) := (HE8.out.cell 0).trans rfl
  have d1 : w8.cell? ⟨eb, 1, none⟩ = some (.int .i64 x1) := (HE8.out.cell 1).trans rfl
  have d2 : w8.cell? ⟨eb, 2, none⟩ = some (.int .i64 x2) := (HE8.out.cell 2).trans rfl
  have d3 : w8.cell? ⟨eb, 3, none⟩ = some (.int .i64 0) := (HE8.out.cell 3).trans rfl
  cases hok : accB (accF opb xb) x1 with
  | true =>
    rw [hok] at HRa HOg
    clear hok
    have HY : Hid (∀ wx, Has wx gb 129 (mdC b opb (accF opb xb) 0) → Orc wx b b [prS ⟨x0, x1, x2, x3, x4, x5, x6, x7, x8, x9, x10, x11, x12, x13⟩] → wx.ownsRow w6.heap.size 5 1 (.slice A7 64 cp7) 64 ((bodyN (⟨x0, x1, x2, x3, x4, x5, x6, x7, x8, x9, x10, x11, x12, x13⟩ : Pd).ns 1).map bV) → Calls Try.prog 23 #[.pointer (some ⟨gb, 0, none⟩), .int .i64 x3, .agg #[.int .i64 x0, .int .i64 x1, .int .i64 x2, .int .i64 0], .slice A7 64 cp7] wx fun e w' => e = .returned (.tuple #[.agg #[.int .i64 x0, .int .i64 x1, .int .i64 x2, .int .i64 x3, .int .i64 x4, .int .i64 x5, .int .i64 x6, .int .i64 x7, .bool x8, .int .i64 x9, .int .i64 x10, .int .i64 x11, .int .i64 x12, .bool x13], .int .i64 0]) ∧ New wx w') := fun wx h1 h2 h3 => HOg.out gb b _ wx ⟨x0, x1, x2, x3, x4, x5, x6, x7, x8, x9, x10, x11, x12, x13⟩ 0 h1 h2 h3 (by simp [holds_own])
    have HZc : Hid (∀ wx, Has wx gz 129 (mdC ob opb (accF opb xb) 0) → Has wx ob 77 #[.map none, .slice none 0 0] → wx.ownsRow w6.heap.size 5 1 (.slice A7 64 cp7) 64 ((bodyN (⟨x0, x1, x2, x3, x4, x5, x6, x7, x8, x9, x10, x11, x12, x13⟩ : Pd).ns 1).map bV) → Calls Try.prog 23 #[.pointer (some ⟨gz, 0, none⟩), .int .i64 x3, .agg #[.int .i64 x0, .int .i64 x1, .int .i64 x2, .int .i64 0], .slice A7 64 cp7] wx fun e w' => e = .returned (.tuple #[.agg #[.int .i64 0, .int .i64 0, .int .i64 0, .int .i64 0, .int .i64 0, .int .i64 0, .int .i64 0, .int .i64 0, .bool false, .int .i64 0, .int .i64 0, .int .i64 0, .int .i64 0, .bool false], .int .i64 23]) ∧ New wx w') := fun wx h1 h2 h3 => HOg.out gz ob [] wx pz 23 h1 (Orc.fresh h2) h3 (by simp [holds_nil])
    go_wp2_with fail
    with_reducible refine (HY.out _ HGb8.out HO8.out HB8.out).mono ?_
    rintro e w9 ⟨rfl, hN⟩
    have HE9 := Lib.hid (HE8.out.keep hN)
    have HGz9 := Lib.hid (HGz8.out.keep hN)
    have HP9 := Lib.hid (HP8.out.keep hN)
    have HBB9 := Lib.hid (HBB8.out.keep hN)
    have HZ9 := Lib.hid (HZ8.out.keep hN)
    have HO9 := Lib.hid (HO8.out.new hN)
    have HB9 := Lib.hid (own_new HB8.out hN)
    have HN9 := Lib.hid (HN8.out.then_new hN)
    clear hN HE8 HGb8 HGz8 HP8 HBB8 HZ8 HO8 HB8 HN8 HY HOg d0 d1 d2 d3
    clear c0 c1 c2 c3 c4 c5 c6 c7 c8 c9 c10 c11 c12 c13
    go_upto_region 14 with (fail)
    obtain ⟨wa, hwa⟩ : ∃ wa, wa = w9.alloc (.cells #[.int .i64 x0, .int .i64 x1, .int .i64 x2, .int .i64 x3, .int .i64 x4, .int .i64 x5, .int .i64 x6, .int .i64 x7, .bool x8, .int .i64 x9, .int .i64 x10, .int .i64 x11, .int .i64 x12, .bool x13] 24) := ⟨_, rfl⟩
    obtain ⟨qb, hqb⟩ : ∃ qb, qb = w9.heap.size := ⟨_, rfl⟩
    have HQa : Hid (Has wa qb 24 #[.int .i64 x0, .int .i64 x1, .int .i64 x2, .int .i64 x3, .int .i64 x4, .int .i64 x5, .int .i64 x6, .int .i64 x7, .bool x8, .int .i64 x9, .int .i64 x10, .int .i64 x11, .int .i64 x12, .bool x13]) := by rw [hwa, hqb]; exact Has.new _ _ _
    have hm : New w9 wa := by rw [hwa]; exact (Chg.refl _ _).alloc _
    have HEa := Lib.hid (HE9.out.keep hm)
    have HGza := Lib.hid (HGz9.out.keep hm)
    have HPa := Lib.hid (HP9.out.keep hm)
    have HBBa := Lib.hid (HBB9.out.keep hm)
    have HZa := Lib.hid (HZ9.out.keep hm)
    have HOa := Lib.hid (HO9.out.new hm)
    have HBa := Lib.hid (own_new HB9.out hm)
    have HNa := Lib.hid (HN9.out.then_new hm)
    rw [← hwa, ← hqb]
    clear hwa hqb hm HE9 HGz9 HP9 HBB9 HZ9 HO9 HB9 HN9
    have c0 : wa.cell? ⟨pb, 0, none⟩ = some (.int .i64 x0) := (HPa.out.cell 0).trans rfl
    have c1 : wa.cell? ⟨pb, 1, none⟩ = some (.int .i64 x1) := (HPa.out.cell 1).trans rfl
    have c2 : wa.cell? ⟨pb, 2, none⟩ = some (.int .i64 x2) := (HPa.out.cell 2).trans rfl
    have c3 : wa.cell? ⟨pb, 3, none⟩ = some (.int .i64 x3) := (HPa.out.cell 3).trans rfl
    have c4 : wa.cell? ⟨pb, 4, none⟩ = some (.int .i64 x4) := (HPa.out.cell 4).trans rfl
    have c5 : wa.cell? ⟨pb, 5, none⟩ = some (.int .i64 x5) := (HPa.out.cell 5).trans rfl
    have c6 : wa.cell? ⟨pb, 6, none⟩ = some (.int .i64 x6) := (HPa.out.cell 6).trans rfl
    have c7 : wa.cell? ⟨pb, 7, none⟩ = some (.int .i64 x7) := (HPa.out.cell 7).trans rfl
    have c8 : wa.cell? ⟨pb, 8, none⟩ = some (.bool x8) := (HPa.out.cell 8).trans rfl
    have c9 : wa.cell? ⟨pb, 9, none⟩ = some (.int .i64 x9) := (HPa.out.cell 9).trans rfl
    have c10 : wa.cell? ⟨pb, 10, none⟩ = some (.int .i64 x10) := (HPa.out.cell 10).trans rfl
    have c11 : wa.cell? ⟨pb, 11, none⟩ = some (.int .i64 x11) := (HPa.out.cell 11).trans rfl
    have c12 : wa.cell? ⟨pb, 12, none⟩ = some (.int .i64 x12) := (HPa.out.cell 12).trans rfl
    have c13 : wa.cell? ⟨pb, 13, none⟩ = some (.bool x13) := (HPa.out.cell 13).trans rfl
    have d0 : wa.cell? ⟨eb, 0, none⟩ = some (.int .i64 x0) := (HEa.out.cell 0).trans rfl
    have d1 : wa.cell? ⟨eb, 1, none⟩ = some (.int .i64 x1) := (HEa.out.cell 1).trans rfl
    have d2 : wa.cell? ⟨eb, 2, none⟩ = some (.int .i64 x2) := (HEa.out.cell 2).trans rfl
    have d3 : wa.cell? ⟨eb, 3, none⟩ = some (.int .i64 0) := (HEa.out.cell 3).trans rfl
    go_wp2_with fail
    with_reducible refine (HZc.out _ HGza.out HZa.out HBa.out).mono ?_
    rintro e wb ⟨rfl, hN⟩
    have HQb := Lib.hid (HQa.out.keep hN)
    have HPb := Lib.hid (HPa.out.keep hN)
    have HBBb := Lib.hid (HBBa.out.keep hN)
    have HOb := Lib.hid (HOa.out.new hN)
    have HNb := Lib.hid (HNa.out.then_new hN)
    clear hN HQa HEa HGza HPa HBBa HZa HOa HBa HNa HZc d0 d1 d2 d3
    clear c0 c1 c2 c3 c4 c5 c6 c7 c8 c9 c10 c11 c12 c13
    go_upto_region 15 with (fail)
    obtain ⟨wd, hwd⟩ : ∃ wd, wd = wb.alloc (.cells #[.int .i64 0, .int .i64 0, .int .i64 0, .int .i64 0, .int .i64 0, .int .i64 0, .int .i64 0, .int .i64 0, .bool false, .int .i64 0, .int .i64 0, .int .i64 0, .int .i64 0, .bool false] 24) := ⟨_, rfl⟩
    have hm : New wb wd := by rw [hwd]; exact (Chg.refl _ _).alloc _
    have HQd := Lib.hid (HQb.out.keep hm)
    have HPd := Lib.hid (HPb.out.keep hm)
    have HBBd := Lib.hid (HBBb.out.keep hm)
    have HOd := Lib.hid (HOb.out.new hm)
    have HNd := Lib.hid (HNb.out.then_new hm)
    rw [← hwd]
    clear hwd hm HQb HPb HBBb HOb HNb
    have c0 : wd.cell? ⟨pb, 0, none⟩ = some (.int .i64 x0) := (HPd.out.cell 0).trans rfl
    have c1 : wd.cell? ⟨pb, 1, none⟩ = some (.int .i64 x1) := (HPd.out.cell 1).trans rfl
    have c2 : wd.cell? ⟨pb, 2, none⟩ = some (.int .i64 x2) := (HPd.out.cell 2).trans rfl
    have c3 : wd.cell? ⟨pb, 3, none⟩ = some (.int .i64 x3) := (HPd.out.cell 3).trans rfl
    have c4 : wd.cell? ⟨pb, 4, none⟩ = some (.int .i64 x4) := (HPd.out.cell 4).trans rfl
    have c5 : wd.cell? ⟨pb, 5, none⟩ = some (.int .i64 x5) := (HPd.out.cell 5).trans rfl
    have c6 : wd.cell? ⟨pb, 6, none⟩ = some (.int .i64 x6) := (HPd.out.cell 6).trans rfl
    have c7 : wd.cell? ⟨pb, 7, none⟩ = some (.int .i64 x7) := (HPd.out.cell 7).trans rfl
    have c8 : wd.cell? ⟨pb, 8, none⟩ = some (.bool x8) := (HPd.out.cell 8).trans rfl
    have c9 : wd.cell? ⟨pb, 9, none⟩ = some (.int .i64 x9) := (HPd.out.cell 9).trans rfl
    have c10 : wd.cell? ⟨pb, 10, none⟩ = some (.int .i64 x10) := (HPd.out.cell 10).trans rfl
    have c11 : wd.cell? ⟨pb, 11, none⟩ = some (.int .i64 x11) := (HPd.out.cell 11).trans rfl
    have c12 : wd.cell? ⟨pb, 12, none⟩ = some (.int .i64 x12) := (HPd.out.cell 12).trans rfl
    have c13 : wd.cell? ⟨pb, 13, none⟩ = some (.bool x13) := (HPd.out.cell 13).trans rfl
    have m0 : wd.cell? ⟨bb, 0, none⟩ = some (.int .i64 opb) := (HBBd.out.cell 0).trans rfl
    have m1 : wd.cell? ⟨bb, 1, none⟩ = some (.slice Ab nb cb) := (HBBd.out.cell 1).trans rfl
    go_wp2_with fail
    with_reducible refine (HRa.out _ HNd.out).mono ?_
    rintro e we ⟨rfl, hwe⟩
    rw [hwe]
    clear hwe
    have q0 : wd.cell? ⟨qb, 0, none⟩ = some (.int .i64 x0) := (HQd.out.cell 0).trans rfl
    have q1 : wd.cell? ⟨qb, 1, none⟩ = some (.int .i64 x1) := (HQd.out.cell 1).trans rfl
    have q2 : wd.cell? ⟨qb, 2, none⟩ = some (.int .i64 x2) := (HQd.out.cell 2).trans rfl
    have q3 : wd.cell? ⟨qb, 3, none⟩ = some (.int .i64 x3) := (HQd.out.cell 3).trans rfl
    have q4 : wd.cell? ⟨qb, 4, none⟩ = some (.int .i64 x4) := (HQd.out.cell 4).trans rfl
    have q5 : wd.cell? ⟨qb, 5, none⟩ = some (.int .i64 x5) := (HQd.out.cell 5).trans rfl
    have q6 : wd.cell? ⟨qb, 6, none⟩ = some (.int .i64 x6) := (HQd.out.cell 6).trans rfl
    have q7 : wd.cell? ⟨qb, 7, none⟩ = some (.int .i64 x7) := (HQd.out.cell 7).trans rfl
    have q8 : wd.cell? ⟨qb, 8, none⟩ = some (.bool x8) := (HQd.out.cell 8).trans rfl
    have q9 : wd.cell? ⟨qb, 9, none⟩ = some (.int .i64 x9) := (HQd.out.cell 9).trans rfl
    have q10 : wd.cell? ⟨qb, 10, none⟩ = some (.int .i64 x10) := (HQd.out.cell 10).trans rfl
    have q11 : wd.cell? ⟨qb, 11, none⟩ = some (.int .i64 x11) := (HQd.out.cell 11).trans rfl
    have q12 : wd.cell? ⟨qb, 12, none⟩ = some (.int .i64 x12) := (HQd.out.cell 12).trans rfl
    have q13 : wd.cell? ⟨qb, 13, none⟩ = some (.bool x13) := (HQd.out.cell 13).trans rfl
    go_wp2_with fail
    with_reducible refine (HLe.out _ HOd.out).mono ?_
    rintro e wf ⟨rfl, hwf⟩
    rw [hwf]
    clear hwf
    go_wp2_with fail
    go_ret
    exact ⟨rfl, HNd.out⟩
  | false =>
    rw [hok] at HRa HOg
    clear hok
    have HY : Hid (∀ wx, Has wx gb 129 (mdC b opb (accF opb xb) 0) → Orc wx b b [prS ⟨x0, x1, x2, x3, x4, x5, x6, x7, x8, x9, x10, x11, x12, x13⟩] → wx.ownsRow w6.heap.size 5 1 (.slice A7 64 cp7) 64 ((bodyN (⟨x0, x1, x2, x3, x4, x5, x6, x7, x8, x9, x10, x11, x12, x13⟩ : Pd).ns 1).map bV) → Calls Try.prog 23 #[.pointer (some ⟨gb, 0, none⟩), .int .i64 x3, .agg #[.int .i64 x0, .int .i64 x1, .int .i64 x2, .int .i64 0], .slice A7 64 cp7] wx fun e w' => e = .returned (.tuple #[.agg #[.int .i64 0, .int .i64 0, .int .i64 0, .int .i64 0, .int .i64 0, .int .i64 0, .int .i64 0, .int .i64 0, .bool false, .int .i64 0, .int .i64 0, .int .i64 0, .int .i64 0, .bool false], .int .i64 24]) ∧ New wx w') := fun wx h1 h2 h3 => HOg.out gb b _ wx pz 24 h1 h2 h3 (by simp)
    have HZc : Hid (∀ wx, Has wx gz 129 (mdC ob opb (accF opb xb) 0) → Has wx ob 77 #[.map none, .slice none 0 0] → wx.ownsRow w6.heap.size 5 1 (.slice A7 64 cp7) 64 ((bodyN (⟨x0, x1, x2, x3, x4, x5, x6, x7, x8, x9, x10, x11, x12, x13⟩ : Pd).ns 1).map bV) → Calls Try.prog 23 #[.pointer (some ⟨gz, 0, none⟩), .int .i64 x3, .agg #[.int .i64 x0, .int .i64 x1, .int .i64 x2, .int .i64 0], .slice A7 64 cp7] wx fun e w' => e = .returned (.tuple #[.agg #[.int .i64 0, .int .i64 0, .int .i64 0, .int .i64 0, .int .i64 0, .int .i64 0, .int .i64 0, .int .i64 0, .bool false, .int .i64 0, .int .i64 0, .int .i64 0, .int .i64 0, .bool false], .int .i64 24]) ∧ New wx w') := fun wx h1 h2 h3 => HOg.out gz ob [] wx pz 24 h1 (Orc.fresh h2) h3 (by simp)
    go_wp2_with fail
    with_reducible refine (HY.out _ HGb8.out HO8.out HB8.out).mono ?_
    rintro e w9 ⟨rfl, hN⟩
    have HE9 := Lib.hid (HE8.out.keep hN)
    have HGz9 := Lib.hid (HGz8.out.keep hN)
    have HP9 := Lib.hid (HP8.out.keep hN)
    have HBB9 := Lib.hid (HBB8.out.keep hN)
    have HZ9 := Lib.hid (HZ8.out.keep hN)
    have HO9 := Lib.hid (HO8.out.new hN)
    have HB9 := Lib.hid (own_new HB8.out hN)
    have HN9 := Lib.hid (HN8.out.then_new hN)
    clear hN HE8 HGb8 HGz8 HP8 HBB8 HZ8 HO8 HB8 HN8 HY HOg d0 d1 d2 d3
    clear c0 c1 c2 c3 c4 c5 c6 c7 c8 c9 c10 c11 c12 c13
    go_upto_region 14 with (fail)
    obtain ⟨wa, hwa⟩ : ∃ wa, wa = w9.alloc (.cells #[.int .i64 0, .int .i64 0, .int .i64 0, .int .i64 0, .int .i64 0, .int .i64 0, .int .i64 0, .int .i64 0, .bool false, .int .i64 0, .int .i64 0, .int .i64 0, .int .i64 0, .bool false] 24) := ⟨_, rfl⟩
    obtain ⟨qb, hqb⟩ : ∃ qb, qb = w9.heap.size := ⟨_, rfl⟩
    have HQa : Hid (Has wa qb 24 #[.int .i64 0, .int .i64 0, .int .i64 0, .int .i64 0, .int .i64 0, .int .i64 0, .int .i64 0, .int .i64 0, .bool false, .int .i64 0, .int .i64 0, .int .i64 0, .int .i64 0, .bool false]) := by rw [hwa, hqb]; exact Has.new _ _ _
    have hm : New w9 wa := by rw [hwa]; exact (Chg.refl _ _).alloc _
    have HEa := Lib.hid (HE9.out.keep hm)
    have HGza := Lib.hid (HGz9.out.keep hm)
    have HPa := Lib.hid (HP9.out.keep hm)
    have HBBa := Lib.hid (HBB9.out.keep hm)
    have HZa := Lib.hid (HZ9.out.keep hm)
    have HOa := Lib.hid (HO9.out.new hm)
    have HBa := Lib.hid (own_new HB9.out hm)
    have HNa := Lib.hid (HN9.out.then_new hm)
    rw [← hwa, ← hqb]
    clear hwa hqb hm HE9 HGz9 HP9 HBB9 HZ9 HO9 HB9 HN9
    have c0 : wa.cell? ⟨pb, 0, none⟩ = some (.int .i64 x0) := (HPa.out.cell 0).trans rfl
    have c1 : wa.cell? ⟨pb, 1, none⟩ = some (.int .i64 x1) := (HPa.out.cell 1).trans rfl
    have c2 : wa.cell? ⟨pb, 2, none⟩ = some (.int .i64 x2) := (HPa.out.cell 2).trans rfl
    have c3 : wa.cell? ⟨pb, 3, none⟩ = some (.int .i64 x3) := (HPa.out.cell 3).trans rfl
    have c4 : wa.cell? ⟨pb, 4, none⟩ = some (.int .i64 x4) := (HPa.out.cell 4).trans rfl
    have c5 : wa.cell? ⟨pb, 5, none⟩ = some (.int .i64 x5) := (HPa.out.cell 5).trans rfl
    have c6 : wa.cell? ⟨pb, 6, none⟩ = some (.int .i64 x6) := (HPa.out.cell 6).trans rfl
    have c7 : wa.cell? ⟨pb, 7, none⟩ = some (.int .i64 x7) := (HPa.out.cell 7).trans rfl
    have c8 : wa.cell? ⟨pb, 8, none⟩ = some (.bool x8) := (HPa.out.cell 8).trans rfl
    have c9 : wa.cell? ⟨pb, 9, none⟩ = some (.int .i64 x9) := (HPa.out.cell 9).trans rfl
    have c10 : wa.cell? ⟨pb, 10, none⟩ = some (.int .i64 x10) := (HPa.out.cell 10).trans rfl
    have c11 : wa.cell? ⟨pb, 11, none⟩ = some (.int .i64 x11) := (HPa.out.cell 11).trans rfl
    have c12 : wa.cell? ⟨pb, 12, none⟩ = some (.int .i64 x12) := (HPa.out.cell 12).trans rfl
    have c13 : wa.cell? ⟨pb, 13, none⟩ = some (.bool x13) := (HPa.out.cell 13).trans rfl
    have d0 : wa.cell? ⟨eb, 0, none⟩ = some (.int .i64 x0) := (HEa.out.cell 0).trans rfl
    have d1 : wa.cell? ⟨eb, 1, none⟩ = some (.int .i64 x1) := (HEa.out.cell 1).trans rfl
    have d2 : wa.cell? ⟨eb, 2, none⟩ = some (.int .i64 x2) := (HEa.out.cell 2).trans rfl
    have d3 : wa.cell? ⟨eb, 3, none⟩ = some (.int .i64 0) := (HEa.out.cell 3).trans rfl
    go_wp2_with fail
    with_reducible refine (HZc.out _ HGza.out HZa.out HBa.out).mono ?_
    rintro e wb ⟨rfl, hN⟩
    have HQb := Lib.hid (HQa.out.keep hN)
    have HPb := Lib.hid (HPa.out.keep hN)
    have HBBb := Lib.hid (HBBa.out.keep hN)
    have HOb := Lib.hid (HOa.out.new hN)
    have HNb := Lib.hid (HNa.out.then_new hN)
    clear hN HQa HEa HGza HPa HBBa HZa HOa HBa HNa HZc d0 d1 d2 d3
    clear c0 c1 c2 c3 c4 c5 c6 c7 c8 c9 c10 c11 c12 c13
    go_upto_region 15 with (fail)
    obtain ⟨wd, hwd⟩ : ∃ wd, wd = wb.alloc (.cells #[.int .i64 0, .int .i64 0, .int .i64 0, .int .i64 0, .int .i64 0, .int .i64 0, .int .i64 0, .int .i64 0, .bool false, .int .i64 0, .int .i64 0, .int .i64 0, .int .i64 0, .bool false] 24) := ⟨_, rfl⟩
    have hm : New wb wd := by rw [hwd]; exact (Chg.refl _ _).alloc _
    have HQd := Lib.hid (HQb.out.keep hm)
    have HPd := Lib.hid (HPb.out.keep hm)
    have HBBd := Lib.hid (HBBb.out.keep hm)
    have HOd := Lib.hid (HOb.out.new hm)
    have HNd := Lib.hid (HNb.out.then_new hm)
    rw [← hwd]
    clear hwd hm HQb HPb HBBb HOb HNb
    have c0 : wd.cell? ⟨pb, 0, none⟩ = some (.int .i64 x0) := (HPd.out.cell 0).trans rfl
    have c1 : wd.cell? ⟨pb, 1, none⟩ = some (.int .i64 x1) := (HPd.out.cell 1).trans rfl
    have c2 : wd.cell? ⟨pb, 2, none⟩ = some (.int .i64 x2) := (HPd.out.cell 2).trans rfl
    have c3 : wd.cell? ⟨pb, 3, none⟩ = some (.int .i64 x3) := (HPd.out.cell 3).trans rfl
    have c4 : wd.cell? ⟨pb, 4, none⟩ = some (.int .i64 x4) := (HPd.out.cell 4).trans rfl
    have c5 : wd.cell? ⟨pb, 5, none⟩ = some (.int .i64 x5) := (HPd.out.cell 5).trans rfl
    have c6 : wd.cell? ⟨pb, 6, none⟩ = some (.int .i64 x6) := (HPd.out.cell 6).trans rfl
    have c7 : wd.cell? ⟨pb, 7, none⟩ = some (.int .i64 x7) := (HPd.out.cell 7).trans rfl
    have c8 : wd.cell? ⟨pb, 8, none⟩ = some (.bool x8) := (HPd.out.cell 8).trans rfl
    have c9 : wd.cell? ⟨pb, 9, none⟩ = some (.int .i64 x9) := (HPd.out.cell 9).trans rfl
    have c10 : wd.cell? ⟨pb, 10, none⟩ = some (.int .i64 x10) := (HPd.out.cell 10).trans rfl
    have c11 : wd.cell? ⟨pb, 11, none⟩ = some (.int .i64 x11) := (HPd.out.cell 11).trans rfl
    have c12 : wd.cell? ⟨pb, 12, none⟩ = some (.int .i64 x12) := (HPd.out.cell 12).trans rfl
    have c13 : wd.cell? ⟨pb, 13, none⟩ = some (.bool x13) := (HPd.out.cell 13).trans rfl
    have m0 : wd.cell? ⟨bb, 0, none⟩ = some (.int .i64 opb) := (HBBd.out.cell 0).trans rfl
    have m1 : wd.cell? ⟨bb, 1, none⟩ = some (.slice Ab nb cb) := (HBBd.out.cell 1).trans rfl
    go_wp2_with fail
    with_reducible refine (HRa.out _ HNd.out).mono ?_
    rintro e we ⟨rfl, hwe⟩
    rw [hwe]
    clear hwe
    have q0 : wd.cell? ⟨qb, 0, none⟩ = some (.int .i64 0) := (HQd.out.cell 0).trans rfl
    have q1 : wd.cell? ⟨qb, 1, none⟩ = some (.int .i64 0) := (HQd.out.cell 1).trans rfl
    have q2 : wd.cell? ⟨qb, 2, none⟩ = some (.int .i64 0) := (HQd.out.cell 2).trans rfl
    have q3 : wd.cell? ⟨qb, 3, none⟩ = some (.int .i64 0) := (HQd.out.cell 3).trans rfl
    have q4 : wd.cell? ⟨qb, 4, none⟩ = some (.int .i64 0) := (HQd.out.cell 4).trans rfl
    have q5 : wd.cell? ⟨qb, 5, none⟩ = some (.int .i64 0) := (HQd.out.cell 5).trans rfl
    have q6 : wd.cell? ⟨qb, 6, none⟩ = some (.int .i64 0) := (HQd.out.cell 6).trans rfl
    have q7 : wd.cell? ⟨qb, 7, none⟩ = some (.int .i64 0) := (HQd.out.cell 7).trans rfl
    have q8 : wd.cell? ⟨qb, 8, none⟩ = some (.bool false) := (HQd.out.cell 8).trans rfl
    have q9 : wd.cell? ⟨qb, 9, none⟩ = some (.int .i64 0) := (HQd.out.cell 9).trans rfl
    have q10 : wd.cell? ⟨qb, 10, none⟩ = some (.int .i64 0) := (HQd.out.cell 10).trans rfl
    have q11 : wd.cell? ⟨qb, 11, none⟩ = some (.int .i64 0) := (HQd.out.cell 11).trans rfl
    have q12 : wd.cell? ⟨qb, 12, none⟩ = some (.int .i64 0) := (HQd.out.cell 12).trans rfl
    have q13 : wd.cell? ⟨qb, 13, none⟩ = some (.bool false) := (HQd.out.cell 13).trans rfl
    go_wp2_with fail
    with_reducible refine (HLe.out _ HOd.out).mono ?_
    rintro e wf ⟨rfl, hwf⟩
    rw [hwf]
    clear hwf
    go_wp2_with fail
    go_ret
    exact ⟨rfl, HNd.out⟩
end Go.Proofs.Ytkcokcanakljnaa
/-
  For every input the law IsamOwners of layer 11 returns true, and its arguments read afterwards as before. No condition.
-/
namespace Go.Proofs.Ytkcokcanakljnaa
open Go.ChangeShapes Go.WideShapes Go.ChangeAt Go.RowKit
set_option linter.unusedVariables false

set_option maxRecDepth 100000 in
theorem isamOwners_lifted (os : Os) (started : os.Started) (H : Type) (enc : TypeId × Value → H) :
    ReturnsInHanded {} Try.checked os 7 .any (Rows.isamOwnersSpec.pre6 enc Try.prog Try.f7 Rows.isamOwnersRow.domain false) (Rows.isamOwnersSpec.post enc Try.prog Try.f7 false true false false) := by
  refine returnsInHanded_of_change_sized (C := Try.checked) Try.own started (by kernel_rfl) Try.func7
    (ChangeSpec.witness6 (enc := enc) (C := Try.checked) false ⟨#[], #[.agg #[.int .i64 0, .slice none 0 0], .agg #[.int .i64 0, .slice none 0 0], .agg #[.int .i64 0, .int .i64 0, .int .i64 0, .int .i64 0, .int .i64 0, .int .i64 0, .int .i64 0, .int .i64 0, .bool false, .int .i64 0, .int .i64 0, .int .i64 0, .int .i64 0, .bool false]], []⟩ 8 (by kernel_rfl) (by kernel_rfl) (by kernel_rfl) (by kernel_rfl)) ?_
  intro W base args ds gs before hval0 hW hcnd hsz0 _
  have hsz : (DataW.weightsEach Try.prog (Try.f7.params.toList ++ Rows.isamOwnersSpec.plain.varTypes Try.prog) (ds ++ gs)).all (· ≤ reachBytes) = true := hsz0
  clear hsz0
  have hval : ∀ (j : Nat) t v, Try.f7.params[j]? = some t → args[j]? = some v → Value.okWide Try.prog W .any base t v := hval0
  have hW' := hW
  obtain ⟨p, q, hA0, hV, rfl, hfz, hnd⟩ := hW
  have hA : DataW.TrodAll enc Try.prog W 0 (fun _ => true) true Try.f7.params.toList args.toList ds p := hA0
  rw [Try.params7] at hA hval hsz
  obtain ⟨v0, vs0, d0, ds0, p0, q0, hargs, rfl, rfl, h0, r0⟩ := trodAll_cons hA
  obtain ⟨v1, vs1, d1, ds1, p1, q1, rfl, rfl, rfl, h1, r1⟩ := trodAll_cons r0
  obtain ⟨v2, vs2, d2, ds2, p2, q2, rfl, rfl, rfl, h2, r2⟩ := trodAll_cons r1
  obtain ⟨rfl, rfl, rfl⟩ := trodAll_nil r2
  obtain rfl : args = #[v0, v1, v2] := by cases args; simp_all
  obtain ⟨rfl, rfl⟩ := trodVars_none hV
  obtain ⟨op0, A0, n0, c0, xs0, rfl, hN0⟩ := open_maker (hval 0 67 v0 rfl rfl) h0 (fun n hn => by have := List.all_eq_true.1 hsz n (DataW.weights_mem_each (j := 0) rfl rfl n hn); simpa using this)
  have k0 := h0
  have lt0 : ∀ x ∈ p0, x.block < W.heap.size := by obtain ⟨m, hm⟩ := k0; exact DataW.trod_lt m _ _ _ hm
  obtain ⟨op1, A1, n1, c1, xs1, rfl, hN1⟩ := open_maker (hval 1 67 v1 rfl rfl) h1 (fun n hn => by have := List.all_eq_true.1 hsz n (DataW.weights_mem_each (j := 1) rfl rfl n hn); simpa using this)
  have k1 := h1
  have lt1 : ∀ x ∈ p1, x.block < W.heap.size := by obtain ⟨m, hm⟩ := k1; exact DataW.trod_lt m _ _ _ hm
  obtain ⟨y2, rfl⟩ := open_product (hval 2 24 v2 rfl rfl) h2
  have k2 := h2
  have lt2 : ∀ x ∈ p2, x.block < W.heap.size := by obtain ⟨m, hm⟩ := k2; exact DataW.trod_lt m _ _ _ hm
  clear hA0 hval0
  refine (own11_walk op0 A0 n0 c0 xs0 hN0 op1 A1 n1 c1 xs1 hN1 y2).mono fun e W' ⟨he, bel0⟩ => ?_
  have bel := New.below bel0
  subst he
  exact ⟨_, rfl, _, _, _, [], _, [], hW', trodAll_mk1 (shut_bool Try.underlying4 _), (trodAll_cons_mk (Below.trod Try.laidOut (by kernel_rfl) (of_decide_eq_true (by kernel_rfl)) k0 bel lt0) (trodAll_cons_mk (Below.trod Try.laidOut (by kernel_rfl) (of_decide_eq_true (by kernel_rfl)) k1 bel lt1) (trodAll_cons_mk (Below.trod Try.laidOut (by kernel_rfl) (of_decide_eq_true (by kernel_rfl)) k2 bel lt2) trodAll_mk0))), rfl, bel.frame _, fun h => by cases h⟩

theorem isamOwners_holds : Rows.IsamOwnersSaid :=
  OpenClaim.holds_of_wide 7 Try.f7 rfl rfl rfl rfl rfl rfl rfl ⟨rfl, rfl, rfl, rfl, rfl⟩ rfl rfl rfl rfl rfl (by kernel_rfl) Try.func7 (by kernel_rfl)
    (of_decide_eq_true (by kernel_rfl)) (by unfold Func.isWrapper; first | (rw [if_pos (by decide +kernel)]; kernel_rfl) | (rw [if_neg (by decide +kernel)]; exact ⟨rfl, rfl⟩))
    (fun os started H enc _ => isamOwners_lifted os started H enc)
end Go.Proofs.Ytkcokcanakljnaa
