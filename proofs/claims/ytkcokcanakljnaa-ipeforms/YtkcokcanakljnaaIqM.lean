/-
  The document's examples for products.
-/
import Derived.Test.YtkcokcanakljnaaIqK
import Derived.Test.YtkcokcanakljnaaIqH
import Derived.Deep.RegionHeldLaw
namespace Go.Proofs.Ytkcokcanakljnaa
open Go.RowKit
def ppu : Pd := ⟨1, 2, 9, 7, 1, 500, 0, 0, false, 0, 0, 0, 0, false⟩
def pqu : Pd := ⟨1, 2, 9, 7, 1, 500, 0, 0, true, 4, 1, 1, 0, false⟩
def puu : Pd := ⟨1, 2, 9, 7, 1, 300, 0, 0, false, 0, 0, 2, 0, false⟩
theorem right_all {m : List Int} (hl : m.length = 14) (h : ∀ j : Fin 14, 0 ≤ m.getD j 0 ∧ m.getD j 0 ≤ mosts.getD j 0 ∧ (j.val < 5 → m.getD j 0 ≠ 0)) : RightN m := ⟨hl, fun j hj => h ⟨j, hj⟩⟩
theorem right_ppu : RightN ppu.ns := right_all rfl (by decide)
theorem right_pqu : RightN pqu.ns := right_all rfl (by decide)
theorem be_digit {n : Nat} (h0 : 0 < n) (h : n < 256) : be n = [n] := by
  rw [be_pos n h0, show n / 256 = 0 by omega, be_zero, show n % 256 = n by omega]; rfl
theorem inner_ppu : innerB 1 ppu.ns = [1, 1, 1, 2, 1, 2, 3, 1, 9, 4, 1, 7, 5, 1, 1, 6, 2, 1, 244] := by
  have b5 : be 500 = [1, 244] := by rw [be_pos 500 (by omega), show 500 / 256 = 1 by decide, be_digit (by omega) (by omega)]; rfl
  simp [innerB, Pd.ns, ppu, bi, be_digit, b5]
theorem form_ppu : (formN ppu.ns).length = 21 := by unfold formN; rw [inner_ppu]; rfl
set_option maxRecDepth 100000 in
theorem purse_any (w : World) : Calls Try.prog 13 #[] w fun e w' => e = .returned (.agg #[.int .i64 1, .int .i64 2, .int .i64 9, .int .i64 7, .int .i64 1, .int .i64 500, .int .i64 0, .int .i64 0, .bool false, .int .i64 0, .int .i64 0, .int .i64 0, .int .i64 0, .bool false]) ∧ New w w' := by
  go_enter Try.func13, Try.ntmps13
  go_wp2_with fail
  have hX := Has.new w 24 #[.int .i64 1, .int .i64 2, .int .i64 9, .int .i64 7, .int .i64 1, .int .i64 500, .int .i64 0, .int .i64 0, .bool false, .int .i64 0, .int .i64 0, .int .i64 0, .int .i64 0, .bool false]
  have hN : New w (w.alloc (.cells #[.int .i64 1, .int .i64 2, .int .i64 9, .int .i64 7, .int .i64 1, .int .i64 500, .int .i64 0, .int .i64 0, .bool false, .int .i64 0, .int .i64 0, .int .i64 0, .int .i64 0, .bool false] 24)) := (Chg.refl _ _).alloc _
  generalize w.alloc (.cells #[.int .i64 1, .int .i64 2, .int .i64 9, .int .i64 7, .int .i64 1, .int .i64 500, .int .i64 0, .int .i64 0, .bool false, .int .i64 0, .int .i64 0, .int .i64 0, .int .i64 0, .bool false] 24) = wX at hX hN ⊢
  have g0 := (hX.cell 0).trans rfl
  have g1 := (hX.cell 1).trans rfl
  have g2 := (hX.cell 2).trans rfl
  have g3 := (hX.cell 3).trans rfl
  have g4 := (hX.cell 4).trans rfl
  have g5 := (hX.cell 5).trans rfl
  have g6 := (hX.cell 6).trans rfl
  have g7 := (hX.cell 7).trans rfl
  have g8 := (hX.cell 8).trans rfl
  have g9 := (hX.cell 9).trans rfl
  have g10 := (hX.cell 10).trans rfl
  have g11 := (hX.cell 11).trans rfl
  have g12 := (hX.cell 12).trans rfl
  have g13 := (hX.cell 13).trans rfl
  refine bodyPost_ret (v := .agg #[.int .i64 1, .int .i64 2, .int .i64 9, .int .i64 7, .int .i64 1, .int .i64 500, .int .i64 0, .int .i64 0, .bool false, .int .i64 0, .int .i64 0, .int .i64 0, .int .i64 0, .bool false]) (by simp [results, Try.results13, go_sem, g0, g1, g2, g3, g4, g5, g6, g7, g8, g9, g10, g11, g12, g13]) rfl ?_
  exact ⟨rfl, hN⟩
set_option maxRecDepth 100000 in
set_option maxHeartbeats 4000000 in
theorem awake_any (w : World) : Calls Try.prog 8 #[] w fun e w' => e = .returned (.bool true) ∧ New w w' := by
  have HPu := Lib.hid purse_any
  have HFo : Hid (∀ w, Calls Try.prog 9 #[.agg #[.int .i64 1, .int .i64 2, .int .i64 9, .int .i64 7, .int .i64 1, .int .i64 500, .int .i64 0, .int .i64 0, .bool false, .int .i64 0, .int .i64 0, .int .i64 0, .int .i64 0, .bool false]] w fun e w' => ∃ A c, e = .returned (.tuple #[.slice A 21 c, .int .i64 0]) ∧ w'.ownsRow w.heap.size 5 1 (.slice A 21 c) 21 ((formN ppu.ns).map bV) ∧ New w w') := fun w => by
    have := iForm_yes ppu right_ppu w
    rw [form_ppu] at this
    exact this
  have HIn : Hid (∀ w, Calls Try.prog 31 #[.agg #[.int .i64 1, .int .i64 2, .int .i64 9, .int .i64 7, .int .i64 1, .int .i64 500, .int .i64 0, .int .i64 0, .bool false, .int .i64 0, .int .i64 0, .int .i64 0, .int .i64 0, .bool false], .int .i64 4, .int .i64 1] w fun e w' => e = .returned (.tuple #[.agg #[.int .i64 1, .int .i64 2, .int .i64 9, .int .i64 7, .int .i64 1, .int .i64 500, .int .i64 0, .int .i64 0, .bool true, .int .i64 4, .int .i64 1, .int .i64 1, .int .i64 0, .bool false], .int .i64 0]) ∧ New w w') := fun w => In_any ppu right_ppu 4 1 w
  have HOu : Hid (∀ w, Calls Try.prog 32 #[.agg #[.int .i64 1, .int .i64 2, .int .i64 9, .int .i64 7, .int .i64 1, .int .i64 500, .int .i64 0, .int .i64 0, .bool true, .int .i64 4, .int .i64 1, .int .i64 1, .int .i64 0, .bool false], .int .i64 200] w fun e w' => e = .returned (.tuple #[.agg #[.int .i64 1, .int .i64 2, .int .i64 9, .int .i64 7, .int .i64 1, .int .i64 300, .int .i64 0, .int .i64 0, .bool false, .int .i64 0, .int .i64 0, .int .i64 2, .int .i64 0, .bool false], .int .i64 0]) ∧ New w w') := fun w => Out_any pqu right_pqu 200 w
  have Hpz : Hid (parZ (formN ppu.ns) = 0 ∧ parP (formN ppu.ns) = ppu) := by
    unfold Hid parZ parP
    rw [parse_form right_ppu]
    exact ⟨rfl, Pd.of_ns ppu⟩
  have Hsm := Lib.hid (form_small right_ppu)
  have Hf0 : Hid ((formN ppu.ns)[0]? = some 224) := rfl
  obtain ⟨f, hf⟩ : ∃ f, f = formN ppu.ns := ⟨_, rfl⟩
  rw [← hf] at HFo Hpz Hsm Hf0
  clear hf
  go_enter Try.func8, Try.ntmps8
  go_wp2_with fail
  with_reducible refine (HPu.out _).mono ?_
  rintro e w1 ⟨rfl, hN⟩
  have HN1 := Lib.hid hN
  clear hN
  go_wp2_with fail
  with_reducible refine (HFo.out _).mono ?_
  rintro e w2 ⟨A, c, rfl, hO, hN⟩
  have HN2 := Lib.hid (HN1.out.then_new hN)
  have HBy := Lib.hid (Byts.own_any hO (Chg.refl _ _) Hsm.out (by omega))
  have HPa : Hid (∀ wx, New w2 wx → Calls Try.prog 16 #[.slice A 21 c] wx fun e w' => e = .returned (.tuple #[.agg #[.int .i64 1, .int .i64 2, .int .i64 9, .int .i64 7, .int .i64 1, .int .i64 500, .int .i64 0, .int .i64 0, .bool false, .int .i64 0, .int .i64 0, .int .i64 0, .int .i64 0, .bool false], .int .i64 0]) ∧ New wx w') := fun wx hx => by
    have := iParse_any f 21 c A wx _ (HBy.out.new hx (fun _ h => h)) (own_cap hO) (own_max hO) (fun k hk => Nat.lt_of_lt_of_le hk hx.size)
    rw [Hpz.out.1, Hpz.out.2] at this
    exact this
  clear hO hN HN1
  go_wp2_with fail
  with_reducible refine (HPa.out _ (Chg.refl _ _)).mono ?_
  rintro e w3 ⟨rfl, hN⟩
  obtain ⟨g3, hg3⟩ : ∃ g, g = w3.heap.size := ⟨_, rfl⟩
  have HM3 : Hid (New w2 (w3.alloc (.cells #[.int .i64 1, .int .i64 2, .int .i64 9, .int .i64 7, .int .i64 1, .int .i64 500, .int .i64 0, .int .i64 0, .bool false, .int .i64 0, .int .i64 0, .int .i64 0, .int .i64 0, .bool false] 24))) := hN.alloc _
  have H3 : Hid (Has (w3.alloc (.cells #[.int .i64 1, .int .i64 2, .int .i64 9, .int .i64 7, .int .i64 1, .int .i64 500, .int .i64 0, .int .i64 0, .bool false, .int .i64 0, .int .i64 0, .int .i64 0, .int .i64 0, .bool false] 24)) g3 24 #[.int .i64 1, .int .i64 2, .int .i64 9, .int .i64 7, .int .i64 1, .int .i64 500, .int .i64 0, .int .i64 0, .bool false, .int .i64 0, .int .i64 0, .int .i64 0, .int .i64 0, .bool false]) := by rw [hg3]; exact Has.new _ _ _
  clear hN HPa
  go_wp2_with fail
  with_reducible refine (HPu.out _).mono ?_
  rintro e w4 ⟨rfl, hN⟩
  have HM4 := Lib.hid (HM3.out.then_new hN)
  have H3 := Lib.hid (H3.out.keep hN)
  rw [← hg3]
  clear hN HM3 hg3
  go_wp2_with fail
  with_reducible refine (HIn.out _).mono ?_
  rintro e w5 ⟨rfl, hN⟩
  obtain ⟨g5, hg5⟩ : ∃ g, g = w5.heap.size := ⟨_, rfl⟩
  have HM5 : Hid (New w2 (w5.alloc (.cells #[.int .i64 1, .int .i64 2, .int .i64 9, .int .i64 7, .int .i64 1, .int .i64 500, .int .i64 0, .int .i64 0, .bool true, .int .i64 4, .int .i64 1, .int .i64 1, .int .i64 0, .bool false] 86))) := (HM4.out.then_new hN).alloc _
  have H5 : Hid (Has (w5.alloc (.cells #[.int .i64 1, .int .i64 2, .int .i64 9, .int .i64 7, .int .i64 1, .int .i64 500, .int .i64 0, .int .i64 0, .bool true, .int .i64 4, .int .i64 1, .int .i64 1, .int .i64 0, .bool false] 86)) g5 86 #[.int .i64 1, .int .i64 2, .int .i64 9, .int .i64 7, .int .i64 1, .int .i64 500, .int .i64 0, .int .i64 0, .bool true, .int .i64 4, .int .i64 1, .int .i64 1, .int .i64 0, .bool false]) := by rw [hg5]; exact Has.new _ _ _
  have H3 := Lib.hid ((H3.out.keep hN).alloc (.cells #[.int .i64 1, .int .i64 2, .int .i64 9, .int .i64 7, .int .i64 1, .int .i64 500, .int .i64 0, .int .i64 0, .bool true, .int .i64 4, .int .i64 1, .int .i64 1, .int .i64 0, .bool false] 86))
  clear hN HM4
  go_wp2_with fail
  with_reducible refine (HOu.out _).mono ?_
  rintro e w6 ⟨rfl, hN⟩
  rw [← hg5]
  clear hg5
  go_upto_region 5 with (fail)
  obtain ⟨g7, hg7⟩ : ∃ g, g = w6.heap.size := ⟨_, rfl⟩
  obtain ⟨w7, hw7⟩ : ∃ w7, w7 = w6.alloc (.cells #[.int .i64 1, .int .i64 2, .int .i64 9, .int .i64 7, .int .i64 1, .int .i64 300, .int .i64 0, .int .i64 0, .bool false, .int .i64 0, .int .i64 0, .int .i64 2, .int .i64 0, .bool false] 86) := ⟨_, rfl⟩
  have HM7 : Hid (New w2 w7) := by rw [hw7]; exact (HM5.out.then_new hN).alloc _
  have H7 : Hid (Has w7 g7 86 #[.int .i64 1, .int .i64 2, .int .i64 9, .int .i64 7, .int .i64 1, .int .i64 300, .int .i64 0, .int .i64 0, .bool false, .int .i64 0, .int .i64 0, .int .i64 2, .int .i64 0, .bool false]) := by rw [hg7, hw7]; exact Has.new _ _ _
  have H3 : Hid (Has w7 g3 24 #[.int .i64 1, .int .i64 2, .int .i64 9, .int .i64 7, .int .i64 1, .int .i64 500, .int .i64 0, .int .i64 0, .bool false, .int .i64 0, .int .i64 0, .int .i64 0, .int .i64 0, .bool false]) := by rw [hw7]; exact (H3.out.keep hN).alloc _
  have H5 : Hid (Has w7 g5 86 #[.int .i64 1, .int .i64 2, .int .i64 9, .int .i64 7, .int .i64 1, .int .i64 500, .int .i64 0, .int .i64 0, .bool true, .int .i64 4, .int .i64 1, .int .i64 1, .int .i64 0, .bool false]) := by rw [hw7]; exact (H5.out.keep hN).alloc _
  rw [← hw7, ← hg7]
  clear hN HM5 hg7 hw7
  obtain ⟨a, rfl, _, hca0, _⟩ := (HBy.out.new HM7.out (fun _ h => h)).at Hf0.out
  have e0 : a.add 0 = a := by unfold Addr.add; simp
  have hal : a.block < w2.heap.size := by
    obtain ⟨a', ha', hb', _⟩ := HBy.out.at Hf0.out
    cases ha'
    exact hb'
  rw [e0] at hca0
  have hca : Hid (∀ wx, New w7 wx → wx.cell? a = some (.int .u8 224)) := fun wx h => (h.cell (Nat.lt_of_lt_of_le hal HM7.out.size) (fun f => f)).trans hca0
  have HNw := Lib.hid (HN2.out.then_new HM7.out)
  clear hal hca0 e0 HBy HN2 HM7
  have HK : Hid (∀ wx, New w7 wx → (wx.cell? ⟨g3, 0, none⟩ = some (.int .i64 1) ∧ wx.cell? ⟨g3, 1, none⟩ = some (.int .i64 2) ∧ wx.cell? ⟨g3, 2, none⟩ = some (.int .i64 9) ∧ wx.cell? ⟨g3, 3, none⟩ = some (.int .i64 7) ∧ wx.cell? ⟨g3, 4, none⟩ = some (.int .i64 1) ∧ wx.cell? ⟨g3, 5, none⟩ = some (.int .i64 500) ∧ wx.cell? ⟨g3, 6, none⟩ = some (.int .i64 0) ∧ wx.cell? ⟨g3, 7, none⟩ = some (.int .i64 0) ∧ wx.cell? ⟨g3, 8, none⟩ = some (.bool false) ∧ wx.cell? ⟨g3, 9, none⟩ = some (.int .i64 0) ∧ wx.cell? ⟨g3, 10, none⟩ = some (.int .i64 0) ∧ wx.cell? ⟨g3, 11, none⟩ = some (.int .i64 0) ∧ wx.cell? ⟨g3, 12, none⟩ = some (.int .i64 0) ∧ wx.cell? ⟨g3, 13, none⟩ = some (.bool false) ∧ wx.cell? a = some (.int .u8 224) ∧ wx.cell? ⟨g5, 8, none⟩ = some (.bool true) ∧ wx.cell? ⟨g7, 5, none⟩ = some (.int .i64 300) ∧ wx.cell? ⟨g7, 11, none⟩ = some (.int .i64 2))) := fun wx h => ⟨((H3.out.keep h).cell 0).trans rfl, ((H3.out.keep h).cell 1).trans rfl, ((H3.out.keep h).cell 2).trans rfl, ((H3.out.keep h).cell 3).trans rfl, ((H3.out.keep h).cell 4).trans rfl, ((H3.out.keep h).cell 5).trans rfl, ((H3.out.keep h).cell 6).trans rfl, ((H3.out.keep h).cell 7).trans rfl, ((H3.out.keep h).cell 8).trans rfl, ((H3.out.keep h).cell 9).trans rfl, ((H3.out.keep h).cell 10).trans rfl, ((H3.out.keep h).cell 11).trans rfl, ((H3.out.keep h).cell 12).trans rfl, ((H3.out.keep h).cell 13).trans rfl, hca.out wx h, ((H5.out.keep h).cell 8).trans rfl, ((H7.out.keep h).cell 5).trans rfl, ((H7.out.keep h).cell 11).trans rfl⟩
  have HPd : Hid (Calls Try.prog 13 #[] w7.drew fun e w' => e = .returned (.agg #[.int .i64 1, .int .i64 2, .int .i64 9, .int .i64 7, .int .i64 1, .int .i64 500, .int .i64 0, .int .i64 0, .bool false, .int .i64 0, .int .i64 0, .int .i64 0, .int .i64 0, .bool false]) ∧ New w7 w') := (purse_any w7.drew).mono fun e w' ⟨h1, h2⟩ => ⟨h1, (Chg.drew (Chg.refl _ _)).then_new h2⟩
  go_region_held_law (fun wx => wx.cell? ⟨g3, 0, none⟩ = some (.int .i64 1) ∧ wx.cell? ⟨g3, 1, none⟩ = some (.int .i64 2) ∧ wx.cell? ⟨g3, 2, none⟩ = some (.int .i64 9) ∧ wx.cell? ⟨g3, 3, none⟩ = some (.int .i64 7) ∧ wx.cell? ⟨g3, 4, none⟩ = some (.int .i64 1) ∧ wx.cell? ⟨g3, 5, none⟩ = some (.int .i64 500) ∧ wx.cell? ⟨g3, 6, none⟩ = some (.int .i64 0) ∧ wx.cell? ⟨g3, 7, none⟩ = some (.int .i64 0) ∧ wx.cell? ⟨g3, 8, none⟩ = some (.bool false) ∧ wx.cell? ⟨g3, 9, none⟩ = some (.int .i64 0) ∧ wx.cell? ⟨g3, 10, none⟩ = some (.int .i64 0) ∧ wx.cell? ⟨g3, 11, none⟩ = some (.int .i64 0) ∧ wx.cell? ⟨g3, 12, none⟩ = some (.int .i64 0) ∧ wx.cell? ⟨g3, 13, none⟩ = some (.bool false) ∧ wx.cell? a = some (.int .u8 224) ∧ wx.cell? ⟨g5, 8, none⟩ = some (.bool true) ∧ wx.cell? ⟨g7, 5, none⟩ = some (.int .i64 300) ∧ wx.cell? ⟨g7, 11, none⟩ = some (.int .i64 2))
    (with_reducible refine HK.out _ ?_; with_reducible repeat (first | exact Chg.refl _ _ | exact HN8.out | refine Chg.drew ?_ | refine Chg.alloc ?_ _))
    (first
      | (go_at_call 13; with_reducible refine HPd.out.mono ?_; rintro e w8 ⟨rfl, hN⟩; have HN8 := Lib.hid hN; clear hN))
  all_goals
    go_wp2_with fail
    go_ret
    exact ⟨rfl, HNw.out.then_new HN8.out⟩
end Go.Proofs.Ytkcokcanakljnaa
