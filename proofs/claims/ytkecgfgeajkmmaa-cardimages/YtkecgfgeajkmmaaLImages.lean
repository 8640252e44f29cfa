/-
  What the law CardImages does: it returns true and turns nothing that was there.
-/
import Derived.Test.YtkecgfgeajkmmaaLApart
namespace Go.Proofs.Ytkecgfgeajkmmaa
open Go.RowKit
/-- the index of a sector out of any number -/
theorem turn_in (i n : Int) (hn : 0 < n) (hb : n ≤ 1000) : (∃ j : Nat, Int.tmod (Int.tmod i n + n) n = (j : Int) ∧ (j : Int) < n) ∧ wrap64 (Int.tmod i n + n) = Int.tmod i n + n := by
  have h1 : Int.tmod i n < n := Int.tmod_lt_of_pos i hn
  have h2 : -n < Int.tmod i n := Int.lt_tmod_of_pos i hn
  have h3 := Int.emod_nonneg (Int.tmod i n + n) (show n ≠ 0 by omega)
  have h4 := Int.emod_lt_of_pos (Int.tmod i n + n) hn
  refine ⟨⟨((Int.tmod i n + n) % n).toNat, ?_, by omega⟩, w64 _ (by omega) (by omega)⟩
  rw [Int.tmod_eq_emod_of_nonneg (by omega)]
  omega
set_option maxRecDepth 100000 in
set_option maxHeartbeats 4000000 in
theorem images_walk (A : Option Addr) (n c : Nat) (i : Int) (A2 : Option Addr) (m c2 : Nat) (bs cs : List Nat) (w : World)
    (hA : Arr w (· < w.heap.size) A n (fun i => bV (bs.getD i 0))) (hl : bs.length = n) (h256 : ∀ x ∈ bs, x < 256)
    (hA2 : Arr w (· < w.heap.size) A2 m (fun i => bV (cs.getD i 0))) (hl2 : cs.length = m) (k256 : ∀ x ∈ cs, x < 256) :
    Calls Try.prog 5 #[.slice A n c, .int .i64 i, .slice A2 m c2] w fun e w' => e = .returned (.bool true) ∧ New w w' := by
  have HA := Lib.hid hA; clear hA
  have HA2 := Lib.hid hA2; clear hA2
  have Hl := Lib.hid hl; clear hl
  have Hl2 := Lib.hid hl2; clear hl2
  have H256 := Lib.hid h256; clear h256
  have K256 := Lib.hid k256; clear k256
  go_enter Try.func5, Try.ntmps5
  go_wp2_with fail
  with_reducible refine (awake_any _).mono ?_
  rintro e w1 ⟨rfl, hN1⟩
  have HN1 := Lib.hid hN1; clear hN1
  go_wp2_with fail
  with_reducible refine (NewC w1).mono ?_
  rintro e w2 ⟨g, rfl, Hg, hC2, hN2⟩
  have HC2 := Lib.hid hC2; clear hC2
  have HN2 := Lib.hid (HN1.out.then_new hN2); clear hN2
  go_wp2_with fail
  with_reducible refine (NewC w2).mono ?_
  rintro e w3 ⟨b, rfl, Hb, hD3, hN3⟩
  have HD3 := Lib.hid hD3; clear hD3
  have HC3 := Lib.hid (HC2.out.new hN3)
  have Hgb : Hid (g ≠ b) := by have := HC2.out.lt; have := Hb.out; show g ≠ b; omega
  have HN3 := Lib.hid (HN2.out.then_new hN3); clear hN3
  go_wp2_with (at_make; refine wpList_make_row rfl _ _ rfl 512 512 rfl rfl rfl (by omega) ?_)
  intro a w4 Ha hR4 hN4
  have HR4 := Lib.hid hR4; clear hR4
  have HC4 := Lib.hid (HC3.out.new hN4)
  have HD4 := Lib.hid (HD3.out.new hN4)
  have Hag : Hid (a ≠ g) := HR4.out.apart HC4.out
  have Hab : Hid (a ≠ b) := HR4.out.apart HD4.out
  have HN4 := Lib.hid (HN3.out.then_new hN4); clear hN4
  have HA4 := Lib.hid (HA.out.new HN4.out (fun _ h => h))
  go_wp2_with (refine wpList_copy_pad rfl _ _ rfl a 512 rfl A n c rfl HR4.out _ bs HA4.out Hl.out ?_)
  intro w5 hR5 hG5
  have HR5 := Lib.hid hR5; clear hR5
  have HC5 := Lib.hid (HC4.out.chg hG5 (fun h => Hag.out h.symm))
  have HD5 := Lib.hid (HD4.out.chg hG5 (fun h => Hab.out h.symm))
  have HN5 : Hid (New w w5) := HN4.out.trans hG5 (fun i hi h => by have := Ha.out; have := HN3.out.size; omega)
  clear hG5 HC2 HC3 HD3 HR4 HC4 HD4 HA4 HN4 
  obtain ⟨P, hP⟩ : ∃ P, P = pad 512 bs := ⟨_, rfl⟩
  have HPl : Hid (P.length = 512) := by rw [hP]; exact pad_len 512 bs
  have HPs : Hid (∀ x ∈ P, x < 256) := by rw [hP]; exact pad_small 512 bs H256.out
  rw [← hP] at HR5
  clear hP
  have Hd : Hid (New w5 w5.drew) := (Chg.refl _ _).drew
  have HC5 := Lib.hid (HC5.out.new Hd.out)
  have HD5 := Lib.hid (HD5.out.new Hd.out)
  have HR5 := Lib.hid (HR5.out.new Hd.out)
  have HN5 := Lib.hid (HN5.out.then_new Hd.out)
  clear Hd
  have Hsmall : Hid (w.heap.size ≤ g ∧ w.heap.size ≤ b) := by have := Hg.out; have := Hb.out; have := HN1.out.size; have := HN2.out.size; show _ ∧ _; omega
  go_upto_region 8 with (fail)
  go_region_law (first
    | (go_simp; go_at_call 15; (with_reducible refine (Image_any g P (-1) w8 HC8.out).mono ?_); rintro e w9 ⟨A9, c9, rfl, hO9, hN9⟩
       have hsi := own_str hO9
       have hsa9 : (convert 28 9 (.slice (some ⟨a, 0, none⟩) 512 512)).run Try.prog w9 = _ := (HR8.out.new hN9).string HPl.out HPs.out
       have HC9 := Lib.hid (HC8.out.new hN9)
       have HD9 := Lib.hid (HD8.out.new hN9)
       have HR9 := Lib.hid (HR8.out.new hN9)
       have HN9 := Lib.hid (HN8.out.then_new hN9)
       clear hO9 hN9)
    | (go_simp; go_at_call 13; (with_reducible refine (Load_any b nought P (-1) A7 512 c7 _ _ HD7.out (own_arr_bs HPl.out HO7.out) HPl.out HPs.out).mono ?_); rintro e w8 ⟨rfl, hD8, hG8⟩; rw [lB_same HPl.out] at hD8; rw [szE_same]
       have HD8 := Lib.hid hD8
       have HC8 := Lib.hid (HC7.out.chg hG8 Hgb.out)
       have HR8 := Lib.hid (HR7.out.chg hG8 Hab.out)
       have HN8 : Hid (New w w8) := HN7.out.trans hG8 (fun i hi h => by have := Hsmall.out; omega)
       have hsa8 : (convert 28 9 (.slice (some ⟨a, 0, none⟩) 512 512)).run Try.prog w8 = _ := HR8.out.string HPl.out HPs.out
       clear hD8 hG8)
    | (go_simp; go_at_call 15; (with_reducible refine (Image_any g P (-1) w6 HC6.out).mono ?_); rintro e w7 ⟨A7, c7, rfl, hO7, hN7⟩
       have HO7 := Lib.hid hO7
       have HC7 := Lib.hid (HC6.out.new hN7)
       have HD7 := Lib.hid (HD6.out.new hN7)
       have HR7 := Lib.hid (HR6.out.new hN7)
       have HN7 := Lib.hid (HN6.out.then_new hN7)
       clear hO7 hN7)
    | (go_simp; go_at_call 13; (with_reducible refine (Load_any g nought P (-1) (some ⟨a, 0, none⟩) 512 512 _ _ HC5.out (HR5.out.arr HPl.out) HPl.out HPs.out).mono ?_); rintro e w6 ⟨rfl, hC6, hG6⟩; rw [lB_same HPl.out] at hC6; rw [szE_same]
       have HC6 := Lib.hid hC6
       have HD6 := Lib.hid (HD5.out.chg hG6 (fun h => Hgb.out h.symm))
       have HR6 := Lib.hid (HR5.out.chg hG6 Hag.out)
       have HN6 : Hid (New w w6) := HN5.out.trans hG6 (fun i hi h => by have := Hsmall.out; omega)
       clear hC6 hG6))
  all_goals
    clear hsa8 hsi hsa9 HC8 HD8 HR8 HN8 HC7 HD7 HR7 HN7 HO7 HC6 HD6 HR6 HN6 HC5 HD5 HR5 HN5
    go_wp2_with (at_make; refine wpList_make_row rfl _ _ rfl 32 32 rfl rfl rfl (by omega) ?_)
    intro s w10 Hs hR10 hN10
    have HS10 := Lib.hid hR10; clear hR10
    have HC10 := Lib.hid (HC9.out.new hN10)
    have HD10 := Lib.hid (HD9.out.new hN10)
    have HR10 := Lib.hid (HR9.out.new hN10)
    have Hsg : Hid (s ≠ g) := HS10.out.apart HC10.out
    have Hsb : Hid (s ≠ b) := HS10.out.apart HD10.out
    have Hsa : Hid (s ≠ a) := by have := HR9.out.lt; have := Hs.out; show s ≠ a; omega
    have HN10 := Lib.hid (HN9.out.then_new hN10); clear hN10
    have HA10 := Lib.hid (HA2.out.new HN10.out (fun _ h => h))
    go_wp2_with (refine wpList_copy_pad rfl _ _ rfl s 32 rfl A2 m c2 rfl HS10.out _ cs HA10.out Hl2.out ?_)
    intro w11 hS11 hG11
    have HS11 := Lib.hid hS11; clear hS11
    have HC11 := Lib.hid (HC10.out.chg hG11 (fun h => Hsg.out h.symm))
    have HD11 := Lib.hid (HD10.out.chg hG11 (fun h => Hsb.out h.symm))
    have HR11 := Lib.hid (HR10.out.chg hG11 (fun h => Hsa.out h.symm))
    have HN11 : Hid (New w w11) := HN10.out.trans hG11 (fun i hi h => by have := Hs.out; have := HN9.out.size; omega)
    clear hG11
    obtain ⟨S, hS⟩ : ∃ S, S = pad 32 cs := ⟨_, rfl⟩
    have HSl : Hid (S.length = 32) := by rw [hS]; exact pad_len 32 cs
    have HSs : Hid (∀ x ∈ S, x < 256) := by rw [hS]; exact pad_small 32 cs K256.out
    rw [← hS] at HS11
    clear hS
    obtain ⟨⟨j, hj, hj16⟩, hw⟩ := turn_in i 16 (by omega) (by omega)
    replace hj16 : j < 16 := by omega
    have Hj := Lib.hid hj; clear hj
    have Hw := Lib.hid hw; clear hw
    go_wp2_with fail
    rw [Hw.out, Hj.out]
    clear Hw Hj
    with_reducible refine (Write_any g j P S (-1) (some ⟨s, 0, none⟩) 32 32 _ w11 HC11.out (HS11.out.arr HSl.out) (fun k hk => by rw [hk]; exact ⟨Hsg.out, HS11.out.lt⟩) HSl.out HSs.out).mono ?_
    rintro e w12 ⟨rfl, hC12, hG12⟩
    have e0 : wE (j : Int) 32 (-1) = 0 := (wE_free _ _ _ (by omega)).2 ⟨by omega, rfl⟩
    have e1 : wB P S (j : Int) (-1) = splice P (32 * j) S := by unfold wB; rw [HSl.out, e0, if_pos rfl, Int.toNat_natCast]
    have e2 : wP 32 (j : Int) (-1) = -1 := by unfold wP; rw [e0, if_pos rfl]; rfl
    rw [e1, e2] at hC12
    rw [e0]
    clear e0 e1 e2
    have HC12 := Lib.hid hC12; clear hC12
    have HD12 := Lib.hid (HD11.out.chg hG12 (fun h => Hgb.out h.symm))
    have HR12 := Lib.hid (HR11.out.chg hG12 Hag.out)
    have HS12 := Lib.hid (HS11.out.chg hG12 Hsg.out)
    have HN12 : Hid (New w w12) := HN11.out.trans hG12 (fun i hi h => by have := Hsmall.out; omega)
    clear hG12
    go_wp2_with fail
    with_reducible refine (Read_in g j _ _ w12 HC12.out hj16).mono ?_
    rintro e w13 ⟨A13, c13, rfl, hO13, hN13⟩
    rw [sec_same HPl.out hj16 HSl.out] at hO13
    have Hd : Hid (New w13 w13.drew) := (Chg.refl _ _).drew
    have HO13 := Lib.hid (own_new hO13 Hd.out)
    have HD13 := Lib.hid (HD12.out.new (hN13.then_new Hd.out))
    have HR13 := Lib.hid (HR12.out.new (hN13.then_new Hd.out))
    have HS13 := Lib.hid (HS12.out.new (hN13.then_new Hd.out))
    have HN13 := Lib.hid (HN12.out.then_new (hN13.then_new Hd.out))
    have hsa13 : (convert 28 9 (.slice (some ⟨a, 0, none⟩) 512 512)).run Try.prog w13.drew = _ := HR13.out.string HPl.out HPs.out
    clear Hd hO13 hN13
    go_upto_region 16 with (fail)
    go_region_law (first
      | (go_simp; go_at_call 15; (with_reducible refine (Image_any b P (-1) _ HD13.out).mono ?_); rintro e w14 ⟨A14, c14, rfl, hO14, hN14⟩
         have hsi := own_str hO14
         have hsa14 : (convert 28 9 (.slice (some ⟨a, 0, none⟩) 512 512)).run Try.prog w14 = _ := (HR13.out.new hN14).string HPl.out HPs.out
         have hsx14 := own_str (own_new HO13.out hN14)
         have hss14 : (convert 28 9 (.slice (some ⟨s, 0, none⟩) 32 32)).run Try.prog w14 = _ := (HS13.out.new hN14).string HSl.out HSs.out
         have HN14 := Lib.hid (HN13.out.then_new hN14)
         clear hO14 hN14))
    all_goals
      go_wp2_with fail
      go_ret
      exact ⟨rfl, HN14.out⟩
theorem images_law {w : World} (A : Option Addr) (n c : Nat) (z : (∃ bs : List Nat, bs.length = n ∧ Arr w (· < w.heap.size) A n (fun i => bV (bs.getD i 0)) ∧ (∀ x ∈ bs, x < 256) ∧ n ≤ c ∧ c ≤ maxLen ∧ (A = none → n = 0 ∧ c = 0)) ∧ n ≤ 140737488351232) (i : Int) (_wf : (Lit.int .i64 i).wf = true)
    (A2 : Option Addr) (m c2 : Nat) (z2 : (∃ bs : List Nat, bs.length = m ∧ Arr w (· < w.heap.size) A2 m (fun i => bV (bs.getD i 0)) ∧ (∀ x ∈ bs, x < 256) ∧ m ≤ c2 ∧ c2 ≤ maxLen ∧ (A2 = none → m = 0 ∧ c2 = 0)) ∧ m ≤ 140737488351232) :
    Calls Try.prog 5 #[.slice A n c, .int .i64 i, .slice A2 m c2] w fun e w' => e = .returned (.bool true) ∧ New w w' := by
  obtain ⟨⟨bs, hl, hA, h256, _, _, _⟩, _⟩ := z
  obtain ⟨⟨cs, hl2, hA2, k256, _, _, _⟩, _⟩ := z2
  exact images_walk A n c i A2 m c2 bs cs w hA hl h256 hA2 hl2 k256
end Go.Proofs.Ytkecgfgeajkmmaa
