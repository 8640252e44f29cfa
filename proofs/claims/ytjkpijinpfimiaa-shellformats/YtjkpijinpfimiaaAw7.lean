/-
  The law's own awake: the document's examples hold.
-/
import Derived.Test.YtjkpijinpfimiaaShQ
namespace Go.Proofs.Ytjkpijinpfimiaa
open Go.RowKit
theorem Format_of (g : Nat) (id u : Int) (B : List Nat) (pw : Int) (w : World) (hC : Cd w g B pw) (h1 : 1 ≤ id ∧ id ≤ 65535) (h2 : 1 ≤ u ∧ u ≤ 4) :
    Calls Try.prog 22 #[.pointer (some ⟨g, 0, none⟩), .int .i64 id, .int .i64 u] w fun e w' => e = .returned (.int .i64 (wrE pw 3)) ∧ Cd w' g (doneI B (fmR id.toNat u.toNat) (wrN pw 3)) (wrP pw (wrN pw 3)) ∧ Chg (· = g) w w' := by
  obtain ⟨i, rfl⟩ : ∃ i : Nat, id = (i : Int) := ⟨id.toNat, by omega⟩
  obtain ⟨v, rfl⟩ : ∃ v : Nat, u = (v : Int) := ⟨u.toNat, by omega⟩
  rw [Int.toNat_natCast, Int.toNat_natCast]
  exact Format_any g i v B pw w hC (by omega) (by omega)
theorem Body_of (g : Nat) (s : Int) (B : List Nat) (p : Int) (w : World) (hC : Cd w g B p) (hs : 0 ≤ s ∧ s ≤ 5) :
    Calls Try.prog 13 #[.pointer (some ⟨g, 0, none⟩), .int .i64 s] w fun e w' => ∃ A c, e = .returned (.tuple #[.slice A 64 c, .int .i64 0]) ∧ w'.ownsRow w.heap.size 5 1 (.slice A 64 c) 64 ((bodyI B s.toNat).map bV) ∧ New w w' := by
  obtain ⟨i, rfl⟩ : ∃ i : Nat, s = (i : Int) := ⟨s.toNat, by omega⟩
  rw [Int.toNat_natCast]
  exact Body_in g i B p w hC (by omega)
/-- a Format with unlimited power of a card of 512 bytes -/
theorem Format_free (g : Nat) (id u : Int) (B : List Nat) (w : World) (hC : Cd w g B (-1)) (h1 : 1 ≤ id ∧ id ≤ 65535) (h2 : 1 ≤ u ∧ u ≤ 4) :
    Calls Try.prog 22 #[.pointer (some ⟨g, 0, none⟩), .int .i64 id, .int .i64 u] w fun e w' => e = .returned (.int .i64 0) ∧ (∃ B', Cd w' g B' (-1) ∧ rdE B' = 0 ∧ rdV B' = ⟨id, u, 1, 1, []⟩) ∧ Chg (· = g) w w' := by
  obtain ⟨e1, e2, e3⟩ := wr_free 3
  refine (Format_of g id u B (-1) w hC h1 h2).mono ?_
  rintro e w' ⟨rfl, hC', hG⟩
  rw [e2, e3] at hC'
  rw [e1]
  obtain ⟨r1, r2⟩ := fm_done (id := id.toNat) (u := u.toNat) hC.len (by omega) (by omega)
  refine ⟨rfl, ⟨_, hC', r1, ?_⟩, hG⟩
  rw [r2, Int.toNat_of_nonneg (by omega), Int.toNat_of_nonneg (by omega)]
theorem aw_st : stE ⟨7, 1, ((1 : Nat) : Int), ((1 : Nat) : Int), []⟩ ⟨1, 2, 9, 0⟩ ([1] : List Nat).length = 0 := by decide
theorem aw_nx : nextV ⟨7, 1, ((1 : Nat) : Int), ((1 : Nat) : Int), []⟩ (stL [] ⟨1, 2, 9, 0⟩) = ⟨7, 1, 2, 2, [⟨1, 2, 9, 0⟩]⟩ := rfl
theorem aw_fr : freeI [] = 0 := rfl
set_option maxRecDepth 100000 in
set_option maxHeartbeats 8000000 in
theorem awake_any (w : World) : Calls Try.prog 8 #[] w fun e w' => e = .returned (.bool true) ∧ New w w' := by
  go_enter Try.func8, Try.ntmps8
  go_wp2_with fail
  with_reducible refine (NewC w).mono ?_
  rintro e w1 ⟨g, rfl, Hg, hC1, hN1⟩
  have HC1 := Lib.hid hC1
  have HN1 := Lib.hid hN1
  clear hC1 hN1
  go_wp2_with fail
  with_reducible refine (Format_free g 7 1 nought w1 HC1.out (by omega) (by omega)).mono ?_
  rintro e w2 ⟨rfl, ⟨B, hC2, hr, hv⟩, hG2⟩
  have HN2 : Hid (New w w2) := HN1.out.trans hG2 (fun i hi h => by have := Hg.out; omega)
  have HC2 := Lib.hid hC2
  have Hr := Lib.hid hr
  have Hv := Lib.hid hv
  clear hC2 hG2 hr hv
  go_wp2_with fail
  with_reducible refine (pRead_any g B (-1) w2 HC2.out).mono ?_
  rintro e w3 ⟨⟨A, c, rfl, hO3⟩, hN3⟩
  rw [Hr.out, Hv.out]
  rw [Hv.out] at hO3
  simp only [List.length_nil] at hO3 ⊢
  have HO3 := Lib.hid hO3
  have HC3 := Lib.hid (HC2.out.new hN3)
  have HN3 := Lib.hid (HN2.out.then_new hN3)
  clear hO3 hN3
  go_upto_region 5 with (fail)
  obtain ⟨w4, hw4⟩ : ∃ w4, w4 = w3.alloc (.cells #[.int .i64 7, .int .i64 1, .int .i64 1, .int .i64 1, .slice A 0 c] 30) := ⟨_, rfl⟩
  obtain ⟨vb, hvb⟩ : ∃ vb, vb = w3.heap.size := ⟨_, rfl⟩
  have hN4 : New w3 w4 := by rw [hw4]; exact (Chg.refl _ _).alloc _
  have HV4 : Hid (Has w4 vb 30 #[.int .i64 7, .int .i64 1, .int .i64 1, .int .i64 1, .slice A 0 c]) := by rw [hw4, hvb]; exact Has.new w3 30 _
  have HO4 := Lib.hid (own_new HO3.out hN4)
  have HC4 := Lib.hid (HC3.out.new hN4)
  have HN4 := Lib.hid (HN3.out.then_new hN4)
  rw [← hw4, ← hvb]
  clear hw4 hvb hN4
  have v0 : w4.cell? ⟨vb, 0, none⟩ = some (.int .i64 7) := (HV4.out.cell 0).trans rfl
  have v1 : w4.cell? ⟨vb, 1, none⟩ = some (.int .i64 1) := (HV4.out.cell 1).trans rfl
  have v2 : w4.cell? ⟨vb, 2, none⟩ = some (.int .i64 1) := (HV4.out.cell 2).trans rfl
  have v3 : w4.cell? ⟨vb, 3, none⟩ = some (.int .i64 1) := (HV4.out.cell 3).trans rfl
  have v4 : w4.cell? ⟨vb, 4, none⟩ = some (.slice A 0 c) := (HV4.out.cell 4).trans rfl
  have HS : Hid (∀ (wx : World) (b : Nat), New w4 wx → Has wx b 5 #[.int .u8 1] → Calls Try.prog 30 #[.pointer (some ⟨g, 0, none⟩), .agg #[.int .i64 7, .int .i64 1, .int .i64 1, .int .i64 1, .slice A 0 c], .agg #[.int .i64 1, .int .i64 2, .int .i64 9, .int .i64 0], .slice (some ⟨b, 0, none⟩) 1 1] wx fun e w' => (∃ A' c', e = .returned (.tuple #[.agg #[.int .i64 7, .int .i64 1, .int .i64 2, .int .i64 2, .slice A' 1 c'], .int .i64 0])) ∧ (∃ B', Cd w' g B' (-1) ∧ bodyI B' 0 = pad 64 [1]) ∧ Chg (· = g) wx w') := by
    intro wx b hx hb
    have hO := own_new HO4.out hx
    have hv : Vw.fine ⟨7, 1, ((1 : Nat) : Int), ((1 : Nat) : Int), []⟩ := by have := rd_fine HC2.out.small Hr.out; rw [Hv.out] at this; exact this
    have hEn : Ents wx (· < wx.heap.size) A [] := fun j e he => by simp at he
    have hR : Row wx b [1] := hb
    refine (Store_any g B (-1) 7 1 1 2 9 0 1 1 A 0 c (· < wx.heap.size) [] (some ⟨b, 0, none⟩) 1 1 [1] wx (HC4.out.new hx) hEn (fun k hk => hk) rfl (own_nil hO) hv ((hR.arr rfl).mono fun k hk => by rw [hk]; exact hR.lt) rfl (by simp)).mono ?_
    rintro e w' ⟨hE, hG⟩
    obtain ⟨f1, f2, f3⟩ := wr_free 3
    have hl3 : (stR ⟨7, 1, ((1 : Nat) : Int), ((1 : Nat) : Int), []⟩ ⟨1, 2, 9, 0⟩ [1]).length = 3 := rfl
    rcases hE with ⟨h0, _⟩ | ⟨_, h1, _⟩ | ⟨_, _, ⟨A', c', rfl, _⟩, hC'⟩
    · exact absurd aw_st h0
    · rw [hl3, f1] at h1; cases h1
    · rw [hl3, f2, f3] at hC'
      refine ⟨⟨A', c', rfl⟩, ⟨_, hC', ?_⟩, hG⟩
      have h := (st_done (e := ⟨1, 2, 9, 0⟩) (body := [1]) HC2.out.len HC2.out.small Hr.out (by rw [Hv.out]; exact aw_st)).2.2.1
      rw [Hv.out] at h
      exact h
  go_wp2_with fail
  with_reducible refine (HS.out _ _ ((Chg.refl _ _).alloc _) (Has.new w4 5 _)).mono ?_
  rintro e w5 ⟨⟨A5, c5, rfl⟩, ⟨B5, hC5, hb5⟩, hG5⟩
  have HC5 := Lib.hid hC5
  have Hb5 := Lib.hid hb5
  have HN5 : Hid (New w w5) := (HN4.out.alloc _).trans hG5 (fun i hi h => by have := Hg.out; omega)
  clear hC5 hG5 hb5 v0 v1 v2 v3 v4
  go_upto_region 8 with (fail)
  obtain ⟨w6, hw6⟩ : ∃ w6, w6 = w5.alloc (.cells #[.int .i64 7, .int .i64 1, .int .i64 2, .int .i64 2, .slice A5 1 c5] 30) := ⟨_, rfl⟩
  obtain ⟨ub, hub⟩ : ∃ vb, vb = w5.heap.size := ⟨_, rfl⟩
  have hN6 : New w5 w6 := by rw [hw6]; exact (Chg.refl _ _).alloc _
  have HV6 : Hid (Has w6 ub 30 #[.int .i64 7, .int .i64 1, .int .i64 2, .int .i64 2, .slice A5 1 c5]) := by rw [hw6, hub]; exact Has.new w5 30 _
  have HC6 := Lib.hid (HC5.out.new hN6)
  have HN6 := Lib.hid (HN5.out.then_new hN6)
  rw [← hw6, ← hub]
  clear hw6 hub hN6
  go_wp2_with fail
  with_reducible refine (Body_of g 0 B5 (-1) w6 HC6.out (by omega)).mono ?_
  rintro e w7 ⟨A7, c7, rfl, hO7, hN7⟩
  rw [show (0 : Int).toNat = 0 from rfl, Hb5.out] at hO7
  have HV7 := Lib.hid (HV6.out.keep hN7)
  have HN7 := Lib.hid (HN6.out.then_new hN7)
  obtain ⟨g7, rfl, hc7⟩ := own_some (i := 0) hO7 (by omega)
  have hb0 : w7.cell? ⟨g7, 0, none⟩ = some (.int .u8 1) := by
    rw [hc7 0 (by omega), List.getElem?_map, List.getElem?_eq_getElem (by rw [pad_len]; omega)]
    have h := pad_get 64 [1] (by simp) 0
    rw [List.getD_eq_getElem?_getD, List.getElem?_eq_getElem (by rw [pad_len]; omega), Option.getD_some] at h
    rw [Option.map_some, h]
    rfl
  clear hO7 hN7 hc7
  have u2 : w7.cell? ⟨ub, 2, none⟩ = some (.int .i64 2) := (HV7.out.cell 2).trans rfl
  have u3 : w7.cell? ⟨ub, 3, none⟩ = some (.int .i64 2) := (HV7.out.cell 3).trans rfl
  have u4 : w7.cell? ⟨ub, 4, none⟩ = some (.slice A5 1 c5) := (HV7.out.cell 4).trans rfl
  go_wp2_with fail
  go_ret
  exact ⟨rfl, HN7.out⟩
end Go.Proofs.Ytjkpijinpfimiaa
