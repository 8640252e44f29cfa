/-
  What the program's Format does.
-/
import Derived.Test.YtjkpijinpfimiaaPrS
namespace Go.Proofs.Ytjkpijinpfimiaa
open Go.RowKit
/-- what Format writes -/
def fmR (id u : Nat) : List Wr := [(1, sectorB (listB 1 [])), (2, zs 32), (0, sectorB (shellB id u))]
theorem fmR_fine {id u : Nat} (h1 : id ≤ 65535) (h2 : u ≤ 255) : ∀ r ∈ fmR id u, Wr.fine r := by
  intro r hr
  simp only [fmR, List.mem_cons, List.not_mem_nil, or_false] at hr
  rcases hr with rfl | rfl | rfl
  · exact ⟨by simp, sector_len _, sector_small _ (listB_small 1 [] (by omega) (by simp) (by simp))⟩
  · exact ⟨by simp, zs_len 32, zs_small 32⟩
  · refine ⟨by simp, sector_len _, sector_small _ ?_⟩
    intro x hx
    simp only [shellB, List.mem_cons, List.not_mem_nil, or_false] at hx
    rcases hx with rfl | rfl | rfl | rfl | rfl <;> omega
theorem Rws.form {w : World} {base g f : Nat} {t : TypeId} {S T : Option Addr} {sc tc : Nat} {x y z : List Nat} (hg : Has w g t #[.int .i64 1, .slice S 32 sc, .int .i64 2, .slice (some ⟨f, 0, none⟩) 32 32, .int .i64 0, .slice T 32 tc]) (hz : z.length = 32) (hR : Row w f z) (hx : x.length = 32) (hO : w.ownsRow base 5 1 (.slice S 32 sc) 32 (x.map bV)) (hy : y.length = 32) (hP : w.ownsRow base 5 1 (.slice T 32 tc) 32 (y.map bV)) : Rws w (fun k => Value.ownBlock (.slice S 32 sc) = some k ∨ Value.ownBlock (.slice T 32 tc) = some k ∨ k = g ∨ k = f) (some ⟨g, 0, none⟩) [(1, x), (2, z), (0, y)] := by
  intro j r hr
  have hj3 : j < 3 := (List.getElem?_eq_some_iff.1 hr).1
  rcases (show j = 0 ∨ j = 1 ∨ j = 2 by omega) with rfl | rfl | rfl
  · simp only [List.getElem?_cons_zero, Option.some.injEq] at hr
    subst hr
    exact ⟨⟨g, 0, none⟩, S, sc, rfl, Or.inr (Or.inr (Or.inl rfl)), (hg.cell 0).trans rfl, (hg.cell 1).trans rfl, (own_arr_bs hx hO).mono fun k hk => Or.inl hk⟩
  · simp only [List.getElem?_cons_succ, List.getElem?_cons_zero, Option.some.injEq] at hr
    subst hr
    exact ⟨⟨g, 0, none⟩, some ⟨f, 0, none⟩, 32, rfl, Or.inr (Or.inr (Or.inl rfl)), (hg.cell 2).trans rfl, (hg.cell 3).trans rfl, (hR.arr hz).mono fun k hk => Or.inr (Or.inr (Or.inr hk))⟩
  · simp only [List.getElem?_cons_succ, List.getElem?_cons_zero, Option.some.injEq] at hr
    subst hr
    exact ⟨⟨g, 0, none⟩, T, tc, rfl, Or.inr (Or.inr (Or.inl rfl)), (hg.cell 4).trans rfl, (hg.cell 5).trans rfl, (own_arr_bs hy hP).mono fun k hk => Or.inr (Or.inl hk)⟩
theorem make_32 : ∃ Z : Array Value, Z = ((zs 32).map bV).toArray ∧ ∀ w : World, (Instr.makeSlice 22 (.int .i64 32) (.int .i64 32)).run Try.prog w = .ok (.slice (some ⟨w.heap.size, 0, none⟩) 32 32) (w.alloc (.cells Z 5)) := by
  obtain ⟨i0, hi, hz0, hz1, hz2⟩ := info_parts Try.info5
  refine ⟨_, rfl, fun w => ?_⟩
  rw [run_makeSlice w 22 5 i0 (.int .u8 0) Try.underlying22 hi hz0 .i64 .i64 32 32 (by omega) (by omega) (by rw [hz1]; decide) (by rw [hz2]; decide) (by decide), hz1]
  have : madeCells (Value.int IntKind.u8 0).cells ((32 : Int).toNat * 1) = ((zs 32).map bV).toArray := by
    apply Array.toList_inj.1
    have h1 : (Value.int IntKind.u8 0).cells = #[.int .u8 0] := rfl
    rw [h1, show (32 : Int).toNat * 1 = 32 from rfl, toList_madeCells_one]
    simp [zs, bV]
  rw [this]
  rfl
set_option maxRecDepth 100000 in
set_option maxHeartbeats 2000000 in
theorem Format_no (g : Nat) (id u : Int) (w : World) (h : ¬ ((1 ≤ id ∧ id ≤ 65535) ∧ (1 ≤ u ∧ u ≤ 4))) :
    Calls Try.prog 22 #[.pointer (some ⟨g, 0, none⟩), .int .i64 id, .int .i64 u] w fun e w' => e = .returned (.int .i64 2) ∧ w' = w := by
  by_cases h1 : 1 ≤ id ∧ id ≤ 65535
  · have t1 := decide_eq_true h1
    have t2 : decide (1 ≤ u ∧ u ≤ 4) = false := decide_eq_false fun k => h ⟨h1, k⟩
    clear h h1
    go_enter Try.func22, Try.ntmps22
    go_wp2_with fail
    with_reducible refine (rightNumber_any id w).mono ?_
    rintro e w1 ⟨rfl, hw⟩
    obtain rfl : w = w1 := hw.symm
    clear hw
    rw [t1]
    go_wp2_with fail
    with_reducible refine (rightOp_any u w).mono ?_
    rintro e w1 ⟨rfl, hw⟩
    obtain rfl : w = w1 := hw.symm
    clear hw
    rw [t2]
    go_wp2_with fail
    go_ret
    exact ⟨rfl, rfl⟩
  · have t1 := decide_eq_false h1
    clear h h1
    go_enter Try.func22, Try.ntmps22
    go_wp2_with fail
    with_reducible refine (rightNumber_any id w).mono ?_
    rintro e w1 ⟨rfl, hw⟩
    obtain rfl : w = w1 := hw.symm
    clear hw
    rw [t1]
    go_wp2_with fail
    go_ret
    exact ⟨rfl, rfl⟩
set_option maxRecDepth 100000 in
set_option maxHeartbeats 8000000 in
theorem Format_any (g id u : Nat) (B : List Nat) (pw : Int) (w : World) (hC : Cd w g B pw) (h1 : 1 ≤ id ∧ id ≤ 65535) (h2 : 1 ≤ u ∧ u ≤ 4) :
    Calls Try.prog 22 #[.pointer (some ⟨g, 0, none⟩), .int .i64 (id : Int), .int .i64 (u : Int)] w fun e w' => e = .returned (.int .i64 (wrE pw 3)) ∧ Cd w' g (doneI B (fmR id u) (wrN pw 3)) (wrP pw (wrN pw 3)) ∧ Chg (· = g) w w' := by
  obtain ⟨Z, hZ, hmk⟩ := make_32
  have hgl := hC.lt
  have HCp : Hid (∀ wx, New w wx → Calls Try.prog 51 #[.int .i64 1, .slice none 0 0] wx fun e w' => ∃ A' c', e = .returned (.slice A' 32 c') ∧ w'.ownsRow w.heap.size 5 1 (.slice A' 32 c') 32 ((sectorB (listB 1 [])).map bV) ∧ New wx w') := fun wx hx => by
    refine (laidCopy_any 1 none 0 0 (fun _ => False) [] wx (fun j e he => by simp at he) (fun k hk => hk.elim) rfl (by omega) (by omega) (by simp)).mono ?_
    rintro e w' ⟨A', c', rfl, hO, hN⟩
    exact ⟨A', c', rfl, own_base hO (fun k hk => Nat.le_trans hx.size (hO.lt k hk).1), hN⟩
  have HSh : Hid (∀ wx, New w wx → Calls Try.prog 52 #[.int .i64 (id : Int), .int .i64 (u : Int)] wx fun e w' => ∃ A' c', e = .returned (.slice A' 32 c') ∧ w'.ownsRow w.heap.size 5 1 (.slice A' 32 c') 32 ((sectorB (shellB id u)).map bV) ∧ New wx w') := fun wx hx => by
    refine (laidShell_any id u wx h1.2 (by omega)).mono ?_
    rintro e w' ⟨A', c', rfl, hO, hN⟩
    exact ⟨A', c', rfl, own_base hO (fun k hk => Nat.le_trans hx.size (hO.lt k hk).1), hN⟩
  have HWr : Hid (∀ (wx : World) (b f : Nat) (S T : Option Addr) (sc tc : Nat), Has wx b 95 #[.int .i64 1, .slice S 32 sc, .int .i64 2, .slice (some ⟨f, 0, none⟩) 32 32, .int .i64 0, .slice T 32 tc] → Has wx f 5 Z → wx.ownsRow w.heap.size 5 1 (.slice S 32 sc) 32 ((sectorB (listB 1 [])).map bV) → wx.ownsRow w.heap.size 5 1 (.slice T 32 tc) 32 ((sectorB (shellB id u)).map bV) → New w wx → w.heap.size ≤ b → w.heap.size ≤ f → Calls Try.prog 50 #[.pointer (some ⟨g, 0, none⟩), .slice (some ⟨b, 0, none⟩) 3 3] wx fun e w' => e = .returned (.int .i64 (wrE pw 3)) ∧ Cd w' g (doneI B (fmR id u) (wrN pw 3)) (wrP pw (wrN pw 3)) ∧ Chg (· = g) w w') := by
    intro wx b f S T sc tc hb hf hS hT hx hbw hfw
    have hR : Row wx f (zs 32) := by rw [hZ] at hf; exact hf
    refine (write_any g B pw (some ⟨b, 0, none⟩) 3 3 _ (fmR id u) wx (hC.new hx) (Rws.form hb (zs_len 32) hR (sector_len _) hS (sector_len _) hT) (fun k hk => ?_) rfl (by omega) (fmR_fine h1.2 (by omega))).mono ?_
    · rcases hk with hk | hk | hk | hk
      · exact ⟨by have := (hS.lt k hk).1; omega, (hS.lt k hk).2⟩
      · exact ⟨by have := (hT.lt k hk).1; omega, (hT.lt k hk).2⟩
      · rw [hk]; exact ⟨by omega, hb.lt⟩
      · rw [hk]; exact ⟨by omega, hR.lt⟩
    · rintro e w' ⟨rfl, hC', hG'⟩
      exact ⟨rfl, hC', Chg.new_then hx hG'⟩
  have t1 : decide (1 ≤ (id : Int) ∧ (id : Int) ≤ 65535) = true := by simp only [decide_eq_true_eq]; omega
  have t2 : decide (1 ≤ (u : Int) ∧ (u : Int) ≤ 4) = true := by simp only [decide_eq_true_eq]; omega
  clear hC hZ h1 h2
  go_enter Try.func22, Try.ntmps22
  go_wp2_with fail
  with_reducible refine (rightNumber_any (id : Int) w).mono ?_
  rintro e w1 ⟨rfl, hw⟩
  obtain rfl : w = w1 := hw.symm
  clear hw
  rw [t1]
  go_wp2_with fail
  with_reducible refine (rightOp_any (u : Int) w).mono ?_
  rintro e w1 ⟨rfl, hw⟩
  obtain rfl : w = w1 := hw.symm
  clear hw
  rw [t2]
  clear t1 t2
  go_upto_region 3 with (fail)
  go_region_law (first
    | (go_simp; go_at_call 50; (with_reducible refine (HWr.out _ _ _ _ _ _ _ (by ((with_reducible repeat (first | exact Has.new_at _ _ _ _ rfl | exact Has.new_at _ _ _ _ (World.size_alloc _ _) | refine Has.drew ?_)); fail_if_success (have := True.intro))) (by ((with_reducible repeat (first | exact Has.new_at _ _ _ _ rfl | exact Has.new_at _ _ _ _ (World.size_alloc _ _) | refine Has.drew ?_ | refine Has.alloc ?_ _ | refine Has.keep ?_ HNp.out | refine Has.keep ?_ HNs.out)); fail_if_success (have := True.intro))) (by ((with_reducible repeat (first | exact HO1.out | exact HO2.out | refine own_new ?_ (Chg.alloc (Chg.refl _ _) _) | refine own_new ?_ (Chg.drew (Chg.refl _ _)) | refine own_new ?_ HNp.out | refine own_new ?_ HNs.out)); fail_if_success (have := True.intro))) (by ((with_reducible repeat (first | exact HO1.out | exact HO2.out | refine own_new ?_ (Chg.alloc (Chg.refl _ _) _) | refine own_new ?_ (Chg.drew (Chg.refl _ _)) | refine own_new ?_ HNp.out | refine own_new ?_ HNs.out)); fail_if_success (have := True.intro))) (by ((with_reducible repeat (first | exact Chg.refl _ _ | refine Chg.alloc ?_ _ | refine Chg.drew ?_ | refine Chg.then_new ?_ HNp.out | refine Chg.then_new ?_ HNs.out)); fail_if_success (have := True.intro))) (by (first | omega | exact Nat.le_refl _ | (simp only [World.size_alloc]; omega) | (simp only [World.size_alloc] at *; omega))) (by (first | omega | exact Nat.le_refl _ | (simp only [World.size_alloc]; omega) | (simp only [World.size_alloc] at *; omega)))).mono ?_); rintro e wz ⟨rfl, hCz, hGz⟩
       have HCz := Lib.hid hCz
       have HGz := Lib.hid hGz
       clear hCz hGz)
    | (go_simp; go_at_call 51; (with_reducible refine (HCp.out _ (by ((with_reducible repeat (first | exact Chg.refl _ _ | refine Chg.alloc ?_ _ | refine Chg.drew ?_ | refine Chg.then_new ?_ HNp.out | refine Chg.then_new ?_ HNs.out)); fail_if_success (have := True.intro)))).mono ?_); rintro e wp ⟨A1, c1, rfl, hO1, hNp⟩
       have HO1 := Lib.hid hO1
       have hsp : w.heap.size ≤ wp.heap.size := (Chg.then_new (S := fun _ => False) (by ((with_reducible repeat (first | exact Chg.refl _ _ | refine Chg.alloc ?_ _ | refine Chg.drew ?_ | refine Chg.then_new ?_ HNp.out | refine Chg.then_new ?_ HNs.out)); fail_if_success (have := True.intro))) hNp).size
       have HNp := Lib.hid hNp
       clear hO1 hNp)
    | (go_simp; go_at_call 52; (with_reducible refine (HSh.out _ (by ((with_reducible repeat (first | exact Chg.refl _ _ | refine Chg.alloc ?_ _ | refine Chg.drew ?_ | refine Chg.then_new ?_ HNp.out | refine Chg.then_new ?_ HNs.out)); fail_if_success (have := True.intro)))).mono ?_); rintro e ws ⟨A2, c2, rfl, hO2, hNs⟩
       have HO2 := Lib.hid hO2
       have hss : w.heap.size ≤ ws.heap.size := (Chg.then_new (S := fun _ => False) (by ((with_reducible repeat (first | exact Chg.refl _ _ | refine Chg.alloc ?_ _ | refine Chg.drew ?_ | refine Chg.then_new ?_ HNp.out | refine Chg.then_new ?_ HNs.out)); fail_if_success (have := True.intro))) hNs).size
       have HNs := Lib.hid hNs
       clear hO2 hNs))
  all_goals
    go_wp2_with fail
    go_ret
    exact ⟨rfl, HCz.out, HGz.out⟩
end Go.Proofs.Ytjkpijinpfimiaa
