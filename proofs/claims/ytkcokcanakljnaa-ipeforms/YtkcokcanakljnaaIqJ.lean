/-
  Package ipe's changes of a thing: what each does with the box of the next.
-/
import Derived.Test.YtkcokcanakljnaaIqI
import Derived.Test.YtkcokcanakljnaaIpG
import Derived.BigRegion
import Derived.Deep.RegionHeldLaw
namespace Go.Proofs.Ytkcokcanakljnaa
open Go.RowKit
theorem withB_one (lo hi n : Int) : withB lo hi [n] = (decide (lo ≤ n) && decide (n ≤ hi)) := by simp [withB]
theorem kinds {p : Pd} (h : RightN p.ns) : (p.x0 = 1 ∨ p.x0 = 2 ∨ p.x0 = 3 ∨ p.x0 = 4) ∧ (0 ≤ p.x5 ∧ p.x5 ≤ 2147483648) ∧ (0 ≤ p.x7 ∧ p.x7 ≤ 255) ∧ (0 ≤ p.x11 ∧ p.x11 ≤ 65535) := by
  have k0 := h.2 0 (by omega)
  have k5 := h.2 5 (by omega)
  have k7 := h.2 7 (by omega)
  have k11 := h.2 11 (by omega)
  simp [Pd.ns, mosts] at k0 k5 k7 k11
  omega
def rideC (p : Pd) : Bool := (p.x0 == 3) || (p.x0 == 4)
def rideQ (p : Pd) : Pd := if rideC p = true then ⟨p.x0, p.x1, p.x2, p.x3, p.x4, p.x5, p.x6, p.x7 - 1, p.x8, p.x9, p.x10, p.x11, p.x12, p.x13⟩ else p
def inE (p : Pd) (a b : Int) : Int := if a < 0 then 2 else if 255 < a then 2 else if b < 0 then 2 else if 65535 < b then 2 else if ¬ p.x0 = 1 then 28 else if p.x8 = true then 28 else 0
def inQ (p : Pd) (a b : Int) : Pd := ⟨p.x0, p.x1, p.x2, p.x3, p.x4, p.x5, p.x6, p.x7, true, a, b, p.x11, p.x12, p.x13⟩
set_option maxRecDepth 100000 in
set_option maxHeartbeats 4000000 in
theorem inChange (p : Pd) (hp : RightN p.ns) (a b : Int) (zg dg tg : Nat) (w : World) (hzg : Has w zg 3 #[.int .i64 a]) (hdg : Has w dg 3 #[.int .i64 b]) (ht : Has w tg 86 (pcells p)) :
    ChangeIn w (.pointer (some ⟨zg, 0, none⟩)) (.pointer (some ⟨dg, 0, none⟩)) (.pointer (some ⟨tg, 0, none⟩)) p (inQ p a b) (inE p a b) := by
  intro nb wx hnb hN hB
  have Lzg := hzg.lt
  have Ldg := hdg.lt
  have Ltg := ht.lt
  have Hzg := Lib.hid (hzg.keep hN)
  have Hdg := Lib.hid (hdg.keep hN)
  have Htg := Lib.hid (ht.keep hN)
  have Hnb := Lib.hid hB
  have hk := kinds hp
  have Hsz := Lib.hid hN.size
  clear hzg hdg ht hB hp hN
  obtain ⟨ce, hce⟩ : ∃ ce, ce = inE p a b := ⟨_, rfl⟩
  obtain ⟨q, hq⟩ : ∃ q, q = inQ p a b := ⟨_, rfl⟩
  rw [← hce, ← hq]
  unfold inE at hce
  unfold inQ at hq
  obtain ⟨x0, x1, x2, x3, x4, x5, x6, x7, x8, x9, x10, x11, x12, x13⟩ := p
  dsimp only at hk hce hq
  have Htg : Hid (Has wx tg 86 #[.int .i64 x0, .int .i64 x1, .int .i64 x2, .int .i64 x3, .int .i64 x4, .int .i64 x5, .int .i64 x6, .int .i64 x7, .bool x8, .int .i64 x9, .int .i64 x10, .int .i64 x11, .int .i64 x12, .bool x13]) := Htg.out
  have Hnb : Hid (Has wx nb 86 #[.int .i64 x0, .int .i64 x1, .int .i64 x2, .int .i64 x3, .int .i64 x4, .int .i64 x5, .int .i64 x6, .int .i64 x7, .bool x8, .int .i64 x9, .int .i64 x10, .int .i64 x11, .int .i64 x12, .bool x13]) := Hnb.out
  have Hk := Lib.hid hk; clear hk
  have HQ : Hid (∀ w', New wx w' → Chg (· = nb) wx w') := fun w' h => h.mono (fun _ _ f => f.elim)
  have hlt := Hnb.out.lt
  have czg : wx.cell? ⟨zg, 0, none⟩ = some (.int .i64 a) := (Hzg.out.cell 0).trans rfl
  have lzg := Hzg.out.lt
  have cdg : wx.cell? ⟨dg, 0, none⟩ = some (.int .i64 b) := (Hdg.out.cell 0).trans rfl
  have ldg := Hdg.out.lt
  have ltg := Htg.out.lt
  have HW1 : Hid (∀ (g : Nat) (w : World), Has w g 3 #[.int .i64 a] → Calls Try.prog 68 #[.int .i64 0, .int .i64 255, .slice (some ⟨g, 0, none⟩) 1 1] w fun e w' => e = .returned (.bool (withB 0 255 [a])) ∧ New w w') := fun g w h => within_any 0 255 [a] 1 1 g rfl (by omega) w h
  have HW2 : Hid (∀ (g : Nat) (w : World), Has w g 3 #[.int .i64 b] → Calls Try.prog 68 #[.int .i64 0, .int .i64 65535, .slice (some ⟨g, 0, none⟩) 1 1] w fun e w' => e = .returned (.bool (withB 0 65535 [b])) ∧ New w w') := fun g w h => within_any 0 65535 [b] 1 1 g rfl (by omega) w h
  go_enter Try.func67, Try.ntmps67
  go_wp2_with fail
  with_reducible refine (HW1.out _ _ (Has.new _ _ _)).mono ?_
  rintro e w1 ⟨rfl, hN1⟩
  have HN1 : Hid (New wx w1) := ((Chg.refl _ _).alloc _).then_new hN1
  clear hN1 czg cdg
  have Hdg := Lib.hid (Hdg.out.keep HN1.out)
  have Hzg := Lib.hid (Hzg.out.keep HN1.out)
  have Htg := Lib.hid (Htg.out.keep HN1.out)
  have Hnb := Lib.hid (Hnb.out.keep HN1.out)
  have ldg := Hdg.out.lt
  have c_d : w1.cell? ⟨dg, 0, none⟩ = some (.int .i64 b) := (Hdg.out.cell 0).trans rfl
  rw [withB_one]
  by_cases a1 : a < 0
  · have e1 : decide ((0 : Int) ≤ a) = false := decide_eq_false (by omega)
    rw [if_pos a1] at hce
    subst hce
    rw [e1, Bool.false_and]
    clear a1 hq
    go_wp2_with fail
    go_ret
    first | exact ⟨rfl, fun h => absurd h (by decide), HQ.out _ HN1.out⟩ | exact ⟨rfl, HQ.out _ HN1.out⟩
  rw [if_neg a1] at hce
  have e1 : decide ((0 : Int) ≤ a) = true := decide_eq_true (by omega)
  rw [e1, Bool.true_and]
  by_cases a2 : 255 < a
  · have e2 : decide (a ≤ 255) = false := decide_eq_false (by omega)
    rw [if_pos a2] at hce
    subst hce
    rw [e2]
    clear a1 a2 e1 hq
    go_wp2_with fail
    go_ret
    first | exact ⟨rfl, fun h => absurd h (by decide), HQ.out _ HN1.out⟩ | exact ⟨rfl, HQ.out _ HN1.out⟩
  rw [if_neg a2] at hce
  have e2 : decide (a ≤ 255) = true := decide_eq_true (by omega)
  rw [e2]
  clear a1 a2 e1 e2
  go_wp2_with fail
  with_reducible refine (HW2.out _ _ (Has.new _ _ _)).mono ?_
  rintro e w2 ⟨rfl, hN2⟩
  have HM2 : Hid (New w1 w2) := ((Chg.refl _ _).alloc _).then_new hN2
  have HN2 := Lib.hid (HN1.out.then_new HM2.out)
  clear hN2 c_d
  have Hdg := Lib.hid (Hdg.out.keep HM2.out)
  have Hzg := Lib.hid (Hzg.out.keep HM2.out)
  have Htg := Lib.hid (Htg.out.keep HM2.out)
  have Hnb := Lib.hid (Hnb.out.keep HM2.out)
  have c_z : w2.cell? ⟨zg, 0, none⟩ = some (.int .i64 a) := (Hzg.out.cell 0).trans rfl
  have c_d : w2.cell? ⟨dg, 0, none⟩ = some (.int .i64 b) := (Hdg.out.cell 0).trans rfl
  have l2 := Hnb.out.lt
  have k0 : w2.cell? ⟨tg, 0, none⟩ = some (.int .i64 x0) := (Htg.out.cell 0).trans rfl
  have k8 : w2.cell? ⟨tg, 8, none⟩ = some (.bool x8) := (Htg.out.cell 8).trans rfl
  have n8 : w2.cell? ⟨nb, 8, none⟩ = some (.bool x8) := (Hnb.out.cell 8).trans rfl
  have f8 := Hnb.out.free 8
  have n9 : w2.cell? ⟨nb, 9, none⟩ = some (.int .i64 x9) := (Hnb.out.cell 9).trans rfl
  have f9 := Hnb.out.free 9
  have n10 : w2.cell? ⟨nb, 10, none⟩ = some (.int .i64 x10) := (Hnb.out.cell 10).trans rfl
  have f10 := Hnb.out.free 10
  rw [withB_one]
  by_cases a1 : b < 0
  · have e1 : decide ((0 : Int) ≤ b) = false := decide_eq_false (by omega)
    rw [if_pos a1] at hce
    subst hce
    rw [e1, Bool.false_and]
    clear a1 hq
    go_wp2_with fail
    go_ret
    first | exact ⟨rfl, fun h => absurd h (by decide), HQ.out _ HN2.out⟩ | exact ⟨rfl, HQ.out _ HN2.out⟩
  rw [if_neg a1] at hce
  have e1 : decide ((0 : Int) ≤ b) = true := decide_eq_true (by omega)
  rw [e1, Bool.true_and]
  by_cases a2 : 65535 < b
  · have e2 : decide (b ≤ 65535) = false := decide_eq_false (by omega)
    rw [if_pos a2] at hce
    subst hce
    rw [e2]
    clear a1 a2 e1 hq
    go_wp2_with fail
    go_ret
    first | exact ⟨rfl, fun h => absurd h (by decide), HQ.out _ HN2.out⟩ | exact ⟨rfl, HQ.out _ HN2.out⟩
  rw [if_neg a2] at hce
  have e2 : decide (b ≤ 65535) = true := decide_eq_true (by omega)
  rw [e2]
  clear a1 a2 e1 e2
  by_cases a3 : x0 = 1
  · subst a3
    rw [if_neg (by simp)] at hce
    cases x8 with
    | true =>
      rw [if_pos rfl] at hce
      subst hce
      clear hq
      go_wp2_with fail
      go_ret
      first | exact ⟨rfl, fun h => absurd h (by decide), HQ.out _ HN2.out⟩ | exact ⟨rfl, HQ.out _ HN2.out⟩
    | false =>
      rw [if_neg (by simp)] at hce
      subst hce
      subst hq
      have hzn : zg ≠ nb := fun e => by have := Hsz.out; omega
      have hdn : dg ≠ nb := fun e => by have := Hsz.out; omega
      have HS : Hid (∀ wy, Chg (· = nb) w2 wy → wy.cell? ⟨zg, 0, none⟩ = some (.int .i64 a) ∧ wy.cell? ⟨dg, 0, none⟩ = some (.int .i64 b)) := fun wy h => ⟨((Hzg.out.chg h hzn).cell 0).trans rfl, ((Hdg.out.chg h hdn).cell 0).trans rfl⟩
      clear HW1 HW2 Hzg Hdg Htg
      go_upto_region 5 with (fail)
      go_region
      go_wp2_with fail
      go_ret
      refine ⟨rfl, ?_, ?_⟩
      · have := (((Hnb.out.set 8 (.bool true)).set 9 (.int .i64 a)).set 10 (.int .i64 b)).drew
        simpa [pcells] using this
      · exact Chg.drew (Chg.setCell (S := (· = nb)) (Chg.setCell (S := (· = nb)) (Chg.setCell (S := (· = nb)) (HQ.out _ HN2.out) (fun _ => rfl) _) (fun _ => rfl) _) (fun _ => rfl) _)
  · have e3 : (x0 == 1) = false := beq_eq_false_iff_ne.2 a3
    have e3' : (x0 != 1) = true := bne_iff_ne.2 a3
    rw [if_pos a3] at hce
    subst hce
    clear hq a3
    go_wp2_with fail
    go_ret
    first | exact ⟨rfl, fun h => absurd h (by decide), HQ.out _ HN2.out⟩ | exact ⟨rfl, HQ.out _ HN2.out⟩
def outE (p : Pd) (a : Int) : Int := if a < 0 then 2 else if ¬ p.x0 = 1 then 28 else if p.x8 = false then 28 else if p.x5 < a then 27 else 0
def outQ (p : Pd) (a : Int) : Pd := ⟨p.x0, p.x1, p.x2, p.x3, p.x4, p.x5 - a, p.x6, p.x7, false, 0, 0, p.x11, p.x12, p.x13⟩
set_option maxRecDepth 100000 in
set_option maxHeartbeats 4000000 in
theorem outChange (p : Pd) (hp : RightN p.ns) (a : Int) (fg tg : Nat) (w : World) (hfg : Has w fg 3 #[.int .i64 a]) (ht : Has w tg 86 (pcells p)) :
    ChangeOut w (.pointer (some ⟨fg, 0, none⟩)) (.pointer (some ⟨tg, 0, none⟩)) p (outQ p a) (outE p a) := by
  intro nb wx hnb hN hB
  have Lfg := hfg.lt
  have Ltg := ht.lt
  have Hfg := Lib.hid (hfg.keep hN)
  have Htg := Lib.hid (ht.keep hN)
  have Hnb := Lib.hid hB
  have hk := kinds hp
  have Hsz := Lib.hid hN.size
  clear hfg ht hB hp hN
  obtain ⟨ce, hce⟩ : ∃ ce, ce = outE p a := ⟨_, rfl⟩
  obtain ⟨q, hq⟩ : ∃ q, q = outQ p a := ⟨_, rfl⟩
  rw [← hce, ← hq]
  unfold outE at hce
  unfold outQ at hq
  obtain ⟨x0, x1, x2, x3, x4, x5, x6, x7, x8, x9, x10, x11, x12, x13⟩ := p
  dsimp only at hk hce hq
  have Htg : Hid (Has wx tg 86 #[.int .i64 x0, .int .i64 x1, .int .i64 x2, .int .i64 x3, .int .i64 x4, .int .i64 x5, .int .i64 x6, .int .i64 x7, .bool x8, .int .i64 x9, .int .i64 x10, .int .i64 x11, .int .i64 x12, .bool x13]) := Htg.out
  have Hnb : Hid (Has wx nb 86 #[.int .i64 x0, .int .i64 x1, .int .i64 x2, .int .i64 x3, .int .i64 x4, .int .i64 x5, .int .i64 x6, .int .i64 x7, .bool x8, .int .i64 x9, .int .i64 x10, .int .i64 x11, .int .i64 x12, .bool x13]) := Hnb.out
  have Hk := Lib.hid hk; clear hk
  have HQ : Hid (∀ w', New wx w' → Chg (· = nb) wx w') := fun w' h => h.mono (fun _ _ f => f.elim)
  have hlt := Hnb.out.lt
  have cfg : wx.cell? ⟨fg, 0, none⟩ = some (.int .i64 a) := (Hfg.out.cell 0).trans rfl
  have lfg := Hfg.out.lt
  have ltg := Htg.out.lt
  have k0 : wx.cell? ⟨tg, 0, none⟩ = some (.int .i64 x0) := (Htg.out.cell 0).trans rfl
  have k5 : wx.cell? ⟨tg, 5, none⟩ = some (.int .i64 x5) := (Htg.out.cell 5).trans rfl
  have k8 : wx.cell? ⟨tg, 8, none⟩ = some (.bool x8) := (Htg.out.cell 8).trans rfl
  have n5 : wx.cell? ⟨nb, 5, none⟩ = some (.int .i64 x5) := (Hnb.out.cell 5).trans rfl
  have f5 := Hnb.out.free 5
  have n8 : wx.cell? ⟨nb, 8, none⟩ = some (.bool x8) := (Hnb.out.cell 8).trans rfl
  have f8 := Hnb.out.free 8
  have n9 : wx.cell? ⟨nb, 9, none⟩ = some (.int .i64 x9) := (Hnb.out.cell 9).trans rfl
  have f9 := Hnb.out.free 9
  have n10 : wx.cell? ⟨nb, 10, none⟩ = some (.int .i64 x10) := (Hnb.out.cell 10).trans rfl
  have f10 := Hnb.out.free 10
  go_enter Try.func69, Try.ntmps69
  by_cases a1 : a < 0
  · have e1 : decide (a < 0) = true := decide_eq_true a1
    rw [if_pos a1] at hce
    subst hce
    clear a1 hq
    go_wp2_with fail
    go_ret
    first | exact ⟨rfl, fun h => absurd h (by decide), HQ.out _ (Chg.refl _ wx)⟩ | exact ⟨rfl, HQ.out _ (Chg.refl _ wx)⟩
  rw [if_neg a1] at hce
  have e1 : decide (a < 0) = false := decide_eq_false a1
  by_cases a3 : x0 = 1
  · subst a3
    rw [if_neg (by simp)] at hce
    cases x8 with
    | false =>
      rw [if_pos rfl] at hce
      subst hce
      clear hq a1
      go_wp2_with fail
      go_ret
      first | exact ⟨rfl, fun h => absurd h (by decide), HQ.out _ (Chg.refl _ wx)⟩ | exact ⟨rfl, HQ.out _ (Chg.refl _ wx)⟩
    | true =>
      rw [if_neg (by simp)] at hce
      by_cases a5 : x5 < a
      · have e5 : decide (x5 < a) = true := decide_eq_true a5
        rw [if_pos a5] at hce
        subst hce
        clear hq a1 a5
        go_wp2_with fail
        go_ret
        first | exact ⟨rfl, fun h => absurd h (by decide), HQ.out _ (Chg.refl _ wx)⟩ | exact ⟨rfl, HQ.out _ (Chg.refl _ wx)⟩
      · have e5 : decide (x5 < a) = false := decide_eq_false a5
        rw [if_neg a5] at hce
        subst hce
        subst hq
        have w5 : IntKind.i64.wrap (x5 - a) = x5 - a := IntWalk.i64_in _ (by have := Hk.out; omega)
        have w5' : wrap64 (x5 - a) = x5 - a := w64 _ (by have := Hk.out; omega) (by have := Hk.out; omega)
        clear a1 a5
        go_upto_region 7 with (fail)
        go_region
        go_wp2_with fail
        go_ret
        refine ⟨rfl, ?_, ?_⟩
        · have := ((((Hnb.out.set 5 (.int .i64 (x5 - a))).set 8 (.bool false)).set 9 (.int .i64 0)).set 10 (.int .i64 0)).drew
          simpa [pcells] using this
        · exact Chg.drew (Chg.setCell (S := (· = nb)) (Chg.setCell (S := (· = nb)) (Chg.setCell (S := (· = nb)) (Chg.setCell (S := (· = nb)) (HQ.out _ (Chg.refl _ _)) (fun _ => rfl) _) (fun _ => rfl) _) (fun _ => rfl) _) (fun _ => rfl) _)
  · have e3 : (x0 == 1) = false := beq_eq_false_iff_ne.2 a3
    have e3' : (x0 != 1) = true := bne_iff_ne.2 a3
    rw [if_pos a3] at hce
    subst hce
    clear hq a3
    go_wp2_with fail
    go_ret
    first | exact ⟨rfl, fun h => absurd h (by decide), HQ.out _ (Chg.refl _ wx)⟩ | exact ⟨rfl, HQ.out _ (Chg.refl _ wx)⟩
def addE (p : Pd) (a : Int) : Int := if a < 0 then 2 else if ¬ p.x0 = 1 then 28 else if 2147483648 - p.x5 < a then 29 else 0
def addQ (p : Pd) (a : Int) : Pd := ⟨p.x0, p.x1, p.x2, p.x3, p.x4, p.x5 + a, p.x6, p.x7, p.x8, p.x9, p.x10, p.x11, p.x12, p.x13⟩
end Go.Proofs.Ytkcokcanakljnaa
