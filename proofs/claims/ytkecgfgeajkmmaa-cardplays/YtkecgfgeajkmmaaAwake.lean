/-
  The document's examples (awake) come to true.
-/
import Derived.Test.YtkecgfgeajkmmaaCdC
namespace Go.Proofs.Ytkecgfgeajkmmaa
open Go.RowKit
/-- the example's bytes -/
def ex7 : List Nat := (zs 32).set 0 7
theorem ex7_len : ex7.length = 32 := by rw [ex7, List.length_set, zs_len]
theorem ex7_small : ∀ x ∈ ex7, x < 256 := by
  intro x hx
  rcases List.mem_or_eq_of_mem_set hx with h | h
  · exact zs_small 32 x h
  · omega
theorem Row.set {w : World} {g i x : Nat} {bs : List Nat} (h : Row w g bs) : Row (w.setCell ⟨g, i, none⟩ (.int .u8 (x : Int))) g (bs.set i x) := by
  have := Has.set h i (bV x)
  unfold Row
  rw [List.map_set]
  simpa [bV] using this
set_option maxRecDepth 100000 in
set_option maxHeartbeats 2000000 in
theorem awake_any (w : World) : Calls Try.prog 7 #[] w fun e w' => e = .returned (.bool true) ∧ New w w' := by
  go_enter Try.func7, Try.ntmps7
  go_wp2_with fail
  with_reducible refine (NewC w).mono ?_
  rintro e w1 ⟨g, rfl, Hg, hC1, hN1⟩
  have HC1 := Lib.hid hC1; clear hC1
  have HN1 := Lib.hid hN1; clear hN1
  go_wp2_with (at_make; refine wpList_make_row rfl _ _ rfl 32 32 rfl rfl rfl (by omega) ?_)
  intro b w2 Hb hR2 hN2
  have hc2 : w2.cell? ⟨b, 0, none⟩ = some (.int .u8 0) := (Has.cell hR2 0).trans rfl
  have hf2 : w2.frozen? ⟨b, 0, none⟩ = false := Has.free hR2 0
  have HR2 := Lib.hid hR2; clear hR2
  have HN2 := Lib.hid hN2; clear hN2
  have HC2 := Lib.hid (HC1.out.new HN2.out)
  go_wp2_with fail
  clear hc2 hf2
  obtain ⟨w3, hw3⟩ : ∃ w3, w3 = w2.setCell ⟨b, 0, none⟩ (.int .u8 7) := ⟨_, rfl⟩
  have HR3 : Hid (Row w3 b ex7) := by rw [hw3]; exact HR2.out.set (x := 7)
  have HG3 : Hid (Chg (· = b) w2 w3) := by rw [hw3]; exact Chg.setCell (S := (· = b)) (Chg.refl _ _) (fun _ => rfl) _
  have Hne : Hid (b ≠ g) := HR2.out.apart HC2.out
  have HC3 := Lib.hid (HC2.out.chg HG3.out (fun h => Hne.out h.symm))
  have HN3 : Hid (New w w3) := (HN1.out.then_new HN2.out).trans HG3.out (fun i hi h => by have := HN1.out.size; have := Hb.out; omega)
  rw [← hw3]
  clear hw3
  with_reducible refine (Power_any g _ _ 1 w3 HC3.out (by omega)).mono ?_
  rintro e w4 ⟨rfl, hC4, hG4⟩
  have HC4 := Lib.hid hC4; clear hC4
  have HR4 := Lib.hid (HR3.out.chg hG4 Hne.out)
  have HN4 : Hid (New w w4) := HN3.out.trans hG4 (fun i hi h => by have := Hg.out; omega)
  clear hG4
  go_wp2_with fail
  with_reducible refine (Write_any g 3 _ ex7 1 (some ⟨b, 0, none⟩) 32 32 _ w4 HC4.out (HR4.out.arr ex7_len) (fun k hk => by rw [hk]; exact ⟨Hne.out, HR4.out.lt⟩) ex7_len ex7_small).mono ?_
  rintro e w5 ⟨rfl, hC5, hG5⟩
  have e0 : wE 3 32 1 = 0 := by decide
  have e1 : wB nought ex7 3 1 = splice nought (32 * 3) ex7 := by unfold wB; rw [ex7_len, e0, if_pos rfl]; rfl
  have e2 : wP 32 3 1 = 0 := by decide
  rw [e1, e2] at hC5
  rw [e0]
  clear e0 e1 e2
  have HC5 := Lib.hid hC5; clear hC5
  have HR5 := Lib.hid (HR4.out.chg hG5 Hne.out)
  have HN5 : Hid (New w w5) := HN4.out.trans hG5 (fun i hi h => by have := Hg.out; omega)
  clear hG5
  go_wp2_with fail
  with_reducible refine (Write_any g 4 _ ex7 0 (some ⟨b, 0, none⟩) 32 32 _ w5 HC5.out (HR5.out.arr ex7_len) (fun k hk => by rw [hk]; exact ⟨Hne.out, HR5.out.lt⟩) ex7_len ex7_small).mono ?_
  rintro e w6 ⟨rfl, hC6, hG6⟩
  have e0 : wE 4 32 0 = 30 := by decide
  have e1 : wB (splice nought (32 * 3) ex7) ex7 4 0 = splice nought (32 * 3) ex7 := by unfold wB; rw [ex7_len, e0, if_neg (by decide)]
  rw [e1] at hC6
  rw [e0]
  clear e0 e1
  have HC6 := Lib.hid hC6; clear hC6
  have HR6 := Lib.hid (HR5.out.chg hG6 Hne.out)
  have HN6 : Hid (New w w6) := HN5.out.trans hG6 (fun i hi h => by have := Hg.out; omega)
  clear hG6
  go_wp2_with fail
  with_reducible refine (Read_any g 3 _ _ w6 HC6.out (by decide)).mono ?_
  rintro e w7 ⟨A7, c7, rfl, hO7, hN7⟩
  have e0 : sec (splice nought (32 * 3) ex7) (3 : Int).toNat = ex7 := sec_same (i := 3) (by simp only [nought, List.length_replicate]) (by omega) ex7_len
  rw [e0] at hO7
  have hs1 := own_str hO7
  have hs2 : (convert 28 9 (.slice (some ⟨b, 0, none⟩) 32 32)).run Try.prog w7 = _ := (HR6.out.new hN7).string ex7_len ex7_small
  have HN7 := Lib.hid (HN6.out.then_new hN7)
  clear hO7 hN7 e0
  go_wp2_with fail
  go_ret
  exact ⟨by simp, HN7.out⟩
end Go.Proofs.Ytkecgfgeajkmmaa
