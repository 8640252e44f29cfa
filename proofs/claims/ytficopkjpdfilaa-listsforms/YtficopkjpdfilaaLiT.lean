/-
  Layer 12's awake.
-/
import Derived.Test.YtficopkjpdfilaaLiQ
namespace Go.Proofs.Ytficopkjpdfilaa
open Go.RowKit
theorem aw_app : appE false 0 [] 1 [⟨7, 0, 0, 0, 0⟩] [] = 0 ∧ appV false 0 [] 1 [⟨7, 0, 0, 0, 0⟩] [] = 1 ∧ appL false 0 [] 1 [⟨7, 0, 0, 0, 0⟩] [] = [⟨7, 0, 0, 0, 0⟩] := by decide
theorem aw_has : ([⟨7, 0, 0, 0, 0⟩] : List It).any (fun x => hasB x 7 2 9) = true ∧ ([⟨7, 0, 0, 0, 0⟩] : List It).any (fun x => hasB x 8 2 9) = false := by decide
theorem aw_put : putE 1 [] [] = 0 ∧ delB 1 [] [] = [0, 0, 0, 1, 0, 0] := by decide
theorem aw_get : getE [0, 0, 0, 1, 0, 0] = 0 ∧ getT [0, 0, 0, 1, 0, 0] = 1 ∧ getA [0, 0, 0, 1, 0, 0] = [] ∧ getO [0, 0, 0, 1, 0, 0] = [] := by decide
theorem Lst.zero (w : World) (t : TypeId) : Lst (w.alloc (.cells #[.int .i64 0, .slice none 0 0] t)) w.heap.size w.heap.size t 0 [] := ⟨_, Has.new _ _ _, nil_own _ _⟩
theorem New.lst {w w1 w2 : World} {g : Nat} (h : New w w1) (c : Chg (· = g) w1 w2) (hg : w.heap.size ≤ g) : New w w2 := New.set h c hg
set_option maxRecDepth 100000 in
set_option maxHeartbeats 8000000 in
theorem awake12_any (w : World) : Calls Try.prog 8 #[] w fun e w' => e = .returned (.bool true) ∧ New w w' := by
  have HA := Lib.hid (HotApply_any w.heap.size w.heap.size 0 [] [⟨7, 0, 0, 0, 0⟩] [] (some ⟨w.heap.size + 1, 0, none⟩) none 1 0 1 0 1 (· = w.heap.size + 1) ((w.alloc (.cells #[.int .i64 0, .slice none 0 0] 30)).alloc (.cells #[.int .i64 7, .int .i64 0, .int .i64 0, .int .i64 0, .int .i64 0] 44)) ((Lst.zero w _).new ((Chg.refl _ _).alloc _)) (by simp) (by simp; omega) (by omega) (by omega) (Its.one (Has.new_at _ _ _ _ (by simp))) Its.empty (fun k hk => by subst hk; simp) rfl rfl (by omega) (by omega))
  obtain ⟨ea, ev, el⟩ := aw_app
  obtain ⟨hs1, hs2⟩ := aw_has
  go_enter Try.func8, Try.ntmps8
  go_wp2_with fail
  with_reducible refine HA.out.mono ?_
  rintro e w1 hR
  obtain ⟨he, hL, hC⟩ := hR.parts (Chg.refl _ _)
  rw [ea] at he
  rw [ev, el] at hL
  subst he
  have HL1 := Lib.hid hL
  have HN1 := Lib.hid (New.set ((((Chg.refl (fun _ => False) w).alloc _).alloc _)) hC (Nat.le_refl _))
  clear hR hL hC ea ev el HA
  have HP := Lib.hid (Put_any [] [] none none 0 0 0 0 1 (fun _ => False) w1 Its.empty Its.empty (fun k hk => hk.elim) rfl rfl (by omega) (by omega))
  go_wp2_with fail
  with_reducible refine HP.out.mono ?_
  rintro e w2 ⟨hR, hN⟩
  obtain ⟨A2, c2, he, hO2⟩ : ∃ A c, e = .returned (.tuple #[.slice A 6 c, .int .i64 0]) ∧ w2.ownsRow w1.heap.size 5 1 (.slice A 6 c) 6 (([0, 0, 0, 1, 0, 0] : List Nat).map bV) := by
    rcases hR with ⟨_, A, c, h1, h2⟩ | ⟨h1, _⟩
    · rw [aw_put.2] at h1 h2
      exact ⟨A, c, h1, h2⟩
    · exact absurd aw_put.1 h1
  subst he
  have HL2 := Lib.hid (HL1.out.new hN)
  have HN2 := Lib.hid (HN1.out.then_new hN)
  have HG := Lib.hid (Get_any [0, 0, 0, 1, 0, 0] A2 6 c2 _ w2 (own_arr_bs rfl hO2) (own_lt hO2) rfl (own_nil hO2) (by omega) (by decide))
  clear hR hN hO2 HP
  go_wp2_with fail
  with_reducible refine HG.out.mono ?_
  rintro e w3 ⟨⟨A3, c3, A4, c4, he, _, _⟩, hN⟩
  obtain ⟨eg, et, ea, eo⟩ := aw_get
  rw [eg, et, ea, eo] at he
  subst he
  have HL3 := Lib.hid (HL2.out.new hN)
  have HN3 := Lib.hid (HN2.out.then_new hN)
  clear hN eg et ea eo HG
  obtain ⟨w4, hw4⟩ : ∃ w4, w4 = w3.alloc (.cells #[.int .i64 1, .slice A3 0 c3, .slice A4 0 c4] 37) := ⟨_, rfl⟩
  have hX : Has w4 w3.heap.size 37 #[.int .i64 1, .slice A3 0 c3, .slice A4 0 c4] := by rw [hw4]; exact Has.new _ _ _
  have hN4 : New w3 w4 := by rw [hw4]; exact (Chg.refl _ _).alloc _
  have HX4 := Lib.hid hX; clear hX
  have HL4 := Lib.hid (HL3.out.new hN4)
  have HN4 := Lib.hid (HN3.out.then_new hN4); clear hN4
  have HH1 := Lib.hid (Has_any w.heap.size 30 1 _ w.heap.size 7 2 9 w4 HL4.out (by decide))
  rw [hs1] at HH1
  simp only [List.length_nil]
  go_wp2_with fail
  rw [← hw4]
  with_reducible refine HH1.out.mono ?_
  rintro e w5 ⟨rfl, hN⟩
  have HL5 := Lib.hid (HL4.out.new hN)
  have HX5 := Lib.hid (HX4.out.keep hN)
  have HN5 := Lib.hid (HN4.out.then_new hN)
  have HH2 := Lib.hid (Has_any w.heap.size 30 1 _ w.heap.size 8 2 9 w5 HL5.out (by decide))
  rw [hs2] at HH2
  clear hN hw4
  go_wp2_with fail
  with_reducible refine HH2.out.mono ?_
  rintro e w6 ⟨rfl, hN⟩
  have HL6 := Lib.hid (HL5.out.new hN)
  have HX6 := Lib.hid (HX5.out.keep hN)
  have HN6 := Lib.hid (HN5.out.then_new hN)
  have HV := Lib.hid (Version_any w.heap.size 30 1 _ w.heap.size w6 HL6.out)
  clear hN
  go_wp2_with fail
  with_reducible refine HV.out.mono ?_
  rintro e w7 ⟨rfl, hN⟩
  have HX7 := Lib.hid (HX6.out.keep hN)
  have HN7 := Lib.hid (HN6.out.then_new hN)
  have hl7 := HX7.out.lt
  have c0 : w7.cell? ⟨w3.heap.size, 0, none⟩ = some (.int .i64 1) := (HX7.out.cell 0).trans rfl
  clear hN
  go_wp2_with fail
  go_ret
  exact ⟨rfl, HN7.out⟩
end Go.Proofs.Ytficopkjpdfilaa
