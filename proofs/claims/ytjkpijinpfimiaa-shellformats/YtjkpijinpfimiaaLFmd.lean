/-
  ShellFormats, walked: where power is enough for all writes.
-/
import Derived.Test.YtjkpijinpfimiaaLFma
namespace Go.Proofs.Ytjkpijinpfimiaa
open Go.RowKit
set_option maxRecDepth 100000 in
set_option maxHeartbeats 200000000 in
theorem formats_high (A : Option Addr) (n c : Nat) (bs : List Nat) (id u pw : Int) (w : World) (hA : Arr w (· < w.heap.size) A n (fun i => bV (bs.getD i 0))) (hl : bs.length = n) (h256 : ∀ x ∈ bs, x < 256) (_hnil : A = none → n = 0 ∧ c = 0) (_wi : -9223372036854775808 ≤ id ∧ id ≤ 9223372036854775807) (_wu : -9223372036854775808 ≤ u ∧ u ≤ 9223372036854775807) (wp : -9223372036854775808 ≤ pw ∧ pw ≤ 9223372036854775807) (hyes : ((1 ≤ id ∧ id ≤ 65535) ∧ (1 ≤ u ∧ u ≤ 4))) (hpw : 3 ≤ pw) :
    Calls Try.prog 4 #[.agg #[.slice A n c, .int .i64 id, .int .i64 u, .int .i64 pw]] w fun e w' => e = .returned (.bool true) ∧ New w w' := by
  have HYes := Lib.hid hyes; clear hyes
  have HPw := Lib.hid hpw; clear hpw
  have HA := Lib.hid hA; clear hA
  have Hl := Lib.hid hl; clear hl
  have H256 := Lib.hid h256; clear h256
  have Hwp := Lib.hid wp; clear wp
  obtain ⟨P, hP⟩ : ∃ P, P = pad 512 bs := ⟨_, rfl⟩
  have HPl : Hid (P.length = 512) := by rw [hP]; exact pad_len 512 bs
  have HPs : Hid (∀ x ∈ P, x < 256) := by rw [hP]; exact pad_small 512 bs H256.out
  have HIg : Hid (∀ wx, New w wx → Calls Try.prog 12 #[.slice A n c] wx fun e w' => ∃ g, e = .returned (.slice (some ⟨g, 0, none⟩) 512 512) ∧ Row w' g P ∧ New wx w') := fun wx hx => by
    rw [hP]
    exact (image_any A n c _ bs wx (HA.out.new hx (fun _ h => h)) (fun k hk => Nat.lt_of_lt_of_le hk hx.size) Hl.out).mono (by rintro e w' ⟨g, rfl, _, hR, hN⟩; exact ⟨g, rfl, hR, hN⟩)
  have HLd : Hid (∀ wx, New w wx → Calls Try.prog 9 #[.slice A n c] wx fun e w' => ∃ g, e = .returned (.pointer (some ⟨g, 0, none⟩)) ∧ wx.heap.size ≤ g ∧ Cd w' g P (-1) ∧ New wx w') := fun wx hx => by
    rw [hP]
    exact (loaded_any A n c _ bs wx (HA.out.new hx (fun _ h => h)) (fun k hk => Nat.lt_of_lt_of_le hk hx.size) Hl.out H256.out).mono (by rintro e w' ⟨g, rfl, hg, hR, hN⟩; exact ⟨g, rfl, hg.out, hR, hN⟩)
  clear hP HA Hl H256
  obtain ⟨lb, hlb⟩ : ∃ lb, lb = w.heap.size := ⟨_, rfl⟩
  go_enter Try.func4, Try.ntmps4
  go_upto_region 1 with (fail)
  obtain ⟨w1, hw1⟩ : ∃ w1, w1 = w.alloc (.cells #[.slice A n c, .int .i64 id, .int .i64 u, .int .i64 pw] 47) := ⟨_, rfl⟩
  have HB1 : Hid (Has w1 lb 47 #[.slice A n c, .int .i64 id, .int .i64 u, .int .i64 pw]) := by rw [hw1, hlb]; exact Has.new w 47 _
  have HN1 : Hid (New w w1) := by rw [hw1]; exact (Chg.refl _ _).alloc _
  rw [← hw1, ← hlb]
  clear hw1 hlb
  have l0 : w1.cell? ⟨lb, 0, none⟩ = some (.slice A n c) := (HB1.out.cell 0).trans rfl
  have l1 : w1.cell? ⟨lb, 1, none⟩ = some (.int .i64 id) := (HB1.out.cell 1).trans rfl
  have l2 : w1.cell? ⟨lb, 2, none⟩ = some (.int .i64 u) := (HB1.out.cell 2).trans rfl
  have l3 : w1.cell? ⟨lb, 3, none⟩ = some (.int .i64 pw) := (HB1.out.cell 3).trans rfl
  go_quiet (fail)
  obtain ⟨w2, hw2⟩ : ∃ w2, w2 = w1.drewN nq := ⟨_, rfl⟩
  have HN2 : Hid (New w w2) := by rw [hw2]; exact HN1.out.drewN _
  rw [← hw2]
  clear hw2 l0 l1 l2 l3 HB1
  go_wp2_with fail
  with_reducible refine (awake_any w2).mono ?_
  rintro e w3 ⟨rfl, hN3⟩
  have HN3 := Lib.hid (HN2.out.then_new hN3); clear hN3
  go_wp2_with fail
  with_reducible refine (HLd.out w3 HN3.out).mono ?_
  rintro e w4 ⟨g, rfl, hg4, hC4, hN4⟩
  have Hgw : Hid (w.heap.size ≤ g) := Nat.le_trans HN3.out.size hg4
  have HC4 := Lib.hid hC4
  have HN4 := Lib.hid (HN3.out.then_new hN4)
  clear hC4 hN4 hg4
  go_wp2_with fail
  with_reducible refine (Power_any g P (-1) pw w4 HC4.out Hwp.out).mono ?_
  rintro e w5 ⟨rfl, hC5, hG5⟩
  have HC5 := Lib.hid hC5
  have HN5 : Hid (New w w5) := HN4.out.trans hG5 (fun i hi h => by have := Hgw.out; omega)
  clear hC5 hG5
  by_cases hval : (1 ≤ id ∧ id ≤ 65535) ∧ (1 ≤ u ∧ u ≤ 4)
  case neg => exact absurd HYes.out hval
  obtain ⟨id, rfl⟩ : ∃ i : Nat, id = (i : Int) := ⟨id.toNat, by omega⟩
  obtain ⟨u, rfl⟩ : ∃ i : Nat, u = (i : Int) := ⟨u.toNat, by omega⟩
  have hi1 : 1 ≤ id ∧ id ≤ 65535 := by omega
  have hu1 : 1 ≤ u ∧ u ≤ 4 := by omega
  clear hval _wi _wu
  go_wp2_with fail
  with_reducible refine (Format_any g id u P pw w5 HC5.out hi1 hu1).mono ?_
  rintro e w6 ⟨rfl, hC6, hG6⟩
  have HC6 := Lib.hid hC6
  have HN6 : Hid (New w w6) := HN5.out.trans hG6 (fun i hi h => by have := Hgw.out; omega)
  clear hC6 hG6
  obtain ⟨E, hE⟩ : ∃ E, E = wrE pw 3 := ⟨_, rfl⟩
  obtain ⟨N, hN⟩ : ∃ N, N = wrN pw 3 := ⟨_, rfl⟩
  rw [← hN] at HC6
  rw [← hE]
  have HEN : Hid (0 ≤ pw ∧ pw < 3 ∧ E = 30 ∧ (N : Int) = pw ∨ ¬ (0 ≤ pw ∧ pw < 3) ∧ E = 0 ∧ N = 3) := by
    rw [hE, hN]
    rcases fm_n pw with ⟨h1, h2, h3, h4⟩ | h
    · exact Or.inl ⟨h1, h2, h3, by rw [h4]; omega⟩
    · exact Or.inr h
  clear hE hN
  have t1 : decide ((id : Int) < 1) = false := by simp only [decide_eq_false_iff_not]; omega
  have t2 : decide (65535 < (id : Int)) = false := by simp only [decide_eq_false_iff_not]; omega
  have t3 : decide ((u : Int) < 1) = false := by simp only [decide_eq_false_iff_not]; omega
  have t4 : decide (4 < (u : Int)) = false := by simp only [decide_eq_false_iff_not]; omega
  go_upto_region 11 with (fail)
  clear t1 t2 t3 t4
  obtain ⟨Z, hZ, hmk⟩ := make_32
  obtain ⟨ih, hih⟩ : ∃ x, x = id / 256 := ⟨_, rfl⟩
  obtain ⟨il, hil⟩ : ∃ x, x = id % 256 := ⟨_, rfl⟩
  have HZr : Hid (Z = ((zs 32).map bV).toArray) := hZ
  have Hsb : Hid (shellB id u = [70, 66, ih, il, u]) := by show _ = _; unfold shellB; rw [hih, hil]
  have lh : ih < 256 := by omega
  have ll : il < 256 := by omega
  have f0 : Int.tdiv (id : Int) 256 = (ih : Int) := by rw [Int.tdiv_eq_ediv_of_nonneg (by omega)]; omega
  have f0' : (id : Int) / 256 = (ih : Int) := by omega
  have f2 : IntKind.u8.wrap (id : Int) = (il : Int) := by rw [IntKind.wrap_u8]; omega
  have f1 := small_wrap ih lh
  have f5 := small_wrap u (by omega)
  have f3 : wrap64 (ih : Int) = (ih : Int) := w64 _ (Int.natCast_nonneg _) (by clear f0 f0' f1 f2 f5 hih hil; omega)
  have f4 : (ih : Int) % 256 = (ih : Int) := by clear f0 f0' f1 f2 f3 f5 hih hil; omega
  have f9 : IntKind.i64.wrap (ih : Int) = (ih : Int) := IntWalk.i64_in _ (by clear f0 f0' f1 f2 f3 f4 f5 hih hil; omega)
  have HLi : Hid (∀ wx, New w6 wx → Calls Try.prog 24 #[.int .i64 1, .slice none 0 0] wx fun e w' => ∃ A' c', e = .returned (.slice A' 3 c') ∧ w'.ownsRow w6.heap.size 5 1 (.slice A' 3 c') 3 ((listB 1 []).map bV) ∧ New wx w') := fun wx hx => by
    refine (rList_any 1 none 0 0 (fun _ => False) [] wx (fun j e he => by simp at he) (fun k hk => hk.elim) rfl (by omega) (by omega) (by simp)).mono ?_
    rintro e w' ⟨A', c', rfl, hO, hN⟩
    exact ⟨A', c', rfl, own_base hO (fun k hk => Nat.le_trans hx.size (hO.lt k hk).1), hN⟩
  have HS1 : Hid (∀ (wx : World) (A' : Option Addr) (c' : Nat), New w6 wx → wx.ownsRow w6.heap.size 5 1 (.slice A' 3 c') 3 ((listB 1 []).map bV) → Calls Try.prog 23 #[.slice A' 3 c'] wx fun e w' => ∃ S sc, e = .returned (.slice S 32 sc) ∧ w'.ownsRow w6.heap.size 5 1 (.slice S 32 sc) 32 ((sectorB (listB 1 [])).map bV) ∧ New wx w') := fun wx A' c' hx hO => by
    refine (rSector_any A' 3 c' _ (listB 1 []) wx (own_arr_bs rfl hO) (own_below hO) rfl (listB_small 1 [] (by omega) (by simp) (by simp)) (by omega)).mono ?_
    rintro e w' ⟨S, sc, rfl, hS, hN⟩
    exact ⟨S, sc, rfl, own_base hS (fun k hk => Nat.le_trans hx.size (hS.lt k hk).1), hN⟩
  have HS2 : Hid (∀ (wx : World) (b : Nat), New w6 wx → Has wx b 5 #[.int .u8 70, .int .u8 66, .int .u8 (ih : Int), .int .u8 (il : Int), .int .u8 (u : Int)] → Calls Try.prog 23 #[.slice (some ⟨b, 0, none⟩) 5 5] wx fun e w' => ∃ S sc, e = .returned (.slice S 32 sc) ∧ w'.ownsRow w6.heap.size 5 1 (.slice S 32 sc) 32 ((sectorB (shellB id u)).map bV) ∧ New wx w') := fun wx b hx hb => by
    have hR : Row wx b (shellB id u) := by rw [Hsb.out]; exact hb
    refine (rSector_any (some ⟨b, 0, none⟩) 5 5 _ (shellB id u) wx (hR.arr rfl) (fun k hk => by rw [hk]; exact hR.lt) rfl (by rw [Hsb.out]; intro x hx; simp only [List.mem_cons, List.not_mem_nil, or_false] at hx; rcases hx with rfl | rfl | rfl | rfl | rfl <;> omega) (by omega)).mono ?_
    rintro e w' ⟨S, sc, rfl, hS, hN⟩
    exact ⟨S, sc, rfl, own_base hS (fun k hk => Nat.le_trans hx.size (hS.lt k hk).1), hN⟩
  clear hih hil hZ
  go_cut [9] (fun s9 wx => FmX w6 id u Z s9 wx)
  case first =>
    refine wp_region_any (by kernel_rfl) ?_
    change wpAny _ _ _ _ _ _ _ (World.drew _)
    refine take_at (i := 5) (d := 64) (v := .int .i64 (id : Int)) rfl rfl (by kernel_rfl) (by kernel_rfl) (by kernel_rfl) (fun _ _ _ h => h) (Or.inl ⟨by go_simp, fun _ => by go_simp⟩) ?_
    simp only [List.setIfInBounds_toArray, List.set_cons_zero, List.set_cons_succ]
    refine take_at (i := 6) (d := 65) (v := .int .i64 (ih : Int)) rfl rfl (by kernel_rfl) (by kernel_rfl) (by kernel_rfl) (fun _ _ _ h => h) (Or.inl ⟨by go_simp, fun _ => by go_simp⟩) ?_
    simp only [List.setIfInBounds_toArray, List.set_cons_zero, List.set_cons_succ]
    refine take_at (i := 7) (d := 66) (v := .int .u8 (ih : Int)) rfl rfl (by kernel_rfl) (by kernel_rfl) (by kernel_rfl) (fun _ _ _ h => h) (Or.inl ⟨by go_simp, fun _ => by go_simp⟩) ?_
    simp only [List.setIfInBounds_toArray, List.set_cons_zero, List.set_cons_succ]
    refine take_at (i := 8) (d := 67) (v := .int .i64 (id : Int)) rfl rfl (by kernel_rfl) (by kernel_rfl) (by kernel_rfl) (fun _ _ _ h => h) (Or.inl ⟨by go_simp, fun _ => by go_simp⟩) ?_
    simp only [List.setIfInBounds_toArray, List.set_cons_zero, List.set_cons_succ]
    refine take_at (i := 9) (d := 68) (v := .int .u8 (il : Int)) rfl rfl (by kernel_rfl) (by kernel_rfl) (by kernel_rfl) (fun _ _ _ h => h) (Or.inl ⟨by go_simp, fun _ => by go_simp⟩) ?_
    simp only [List.setIfInBounds_toArray, List.set_cons_zero, List.set_cons_succ]
    refine take_at (i := 10) (d := 69) (v := .int .i64 (u : Int)) rfl rfl (by kernel_rfl) (by kernel_rfl) (by kernel_rfl) (fun _ _ _ h => h) (Or.inl ⟨by go_simp, fun _ => by go_simp⟩) ?_
    simp only [List.setIfInBounds_toArray, List.set_cons_zero, List.set_cons_succ]
    refine take_at (i := 11) (d := 70) (v := .int .u8 (u : Int)) rfl rfl (by kernel_rfl) (by kernel_rfl) (by kernel_rfl) (fun _ _ _ h => h) (Or.inl ⟨by go_simp, fun _ => by go_simp⟩) ?_
    simp only [List.setIfInBounds_toArray, List.set_cons_zero, List.set_cons_succ]
    refine wpAny_ready (rs := [0, 3, 12]) (by kernel_rfl) (by simp) ?_
    refine (AllReady.cons rfl (fun K hK => ?_) (AllReady.cons rfl (fun K hK => ?_) (AllReady.cons rfl (fun K hK => ?_) AllReady.nil)))
    · go_simp
      with_reducible refine (HLi.out _ (by ((with_reducible repeat (first | exact Chg.refl _ _ | refine Chg.drew ?_ | refine Chg.alloc ?_ _ | refine Chg.then_new ?_ HN_T.out | refine Chg.then_new ?_ HN_S.out | refine Chg.then_new ?_ HN_L.out)); fail_if_success (have := True.intro)))).mono ?_
      rintro e wL ⟨AL, cL, rfl, hOL, hNL⟩
      have HO_L := Lib.hid hOL
      have HN_L := Lib.hid hNL
      clear hOL hNL
      refine hK _ _ ?_
      clear hK K
      try simp only [Act.put, List.setIfInBounds_toArray, List.set_cons_zero, List.set_cons_succ]
      refine wpAny_ready (rs := [1, 3, 12]) (by kernel_rfl) (by simp) ?_
      refine (AllReady.cons rfl (fun K hK => ?_) (AllReady.cons rfl (fun K hK => ?_) (AllReady.cons rfl (fun K hK => ?_) AllReady.nil)))
      · go_simp
        with_reducible refine (HS1.out _ AL cL (by ((with_reducible repeat (first | exact Chg.refl _ _ | refine Chg.drew ?_ | refine Chg.alloc ?_ _ | refine Chg.then_new ?_ HN_T.out | refine Chg.then_new ?_ HN_S.out | refine Chg.then_new ?_ HN_L.out)); fail_if_success (have := True.intro))) (by ((with_reducible repeat (first | exact HO_L.out | exact HO_S.out | exact HO_T.out | refine own_new ?_ (Chg.alloc (Chg.refl _ _) _) | refine own_new ?_ (Chg.drew (Chg.refl _ _)) | refine own_new ?_ HN_T.out | refine own_new ?_ HN_S.out | refine own_new ?_ HN_L.out)); fail_if_success (have := True.intro)))).mono ?_
        rintro e wS ⟨AS, cS, rfl, hOS, hNS⟩
        have HO_S := Lib.hid hOS
        have HN_S := Lib.hid hNS
        clear hOS hNS
        refine hK _ _ ?_
        clear hK K
        try simp only [Act.put, List.setIfInBounds_toArray, List.set_cons_zero, List.set_cons_succ]
        refine take_at (i := 2) (d := 61) (v := .agg #[.int .i64 1, .slice AS 32 cS]) rfl rfl (by kernel_rfl) (by kernel_rfl) (by kernel_rfl) (fun _ _ _ h => h) (Or.inl ⟨by go_simp, fun _ => by go_simp⟩) ?_
        simp only [List.setIfInBounds_toArray, List.set_cons_zero, List.set_cons_succ]
        refine wpAny_ready (rs := [3, 12]) (by kernel_rfl) (by simp) ?_
        refine (AllReady.cons rfl (fun K hK => ?_) (AllReady.cons rfl (fun K hK => ?_) AllReady.nil))
        · go_simp
          refine hK _ _ ?_
          clear hK K
          try simp only [Act.put, List.setIfInBounds_toArray, List.set_cons_zero, List.set_cons_succ]
          refine take_at (i := 4) (d := 63) (v := .agg #[.int .i64 2, .slice (some ⟨wS.heap.size, 0, none⟩) 32 32]) rfl rfl (by kernel_rfl) (by kernel_rfl) (by kernel_rfl) (fun _ _ _ h => h) (Or.inl ⟨by go_simp, fun _ => by go_simp⟩) ?_
          simp only [List.setIfInBounds_toArray, List.set_cons_zero, List.set_cons_succ]
          refine wpAny_ready (rs := [12]) (by kernel_rfl) (by simp) ?_
          refine (AllReady.cons rfl (fun K hK => ?_) AllReady.nil)
          · go_simp
            refine hK _ _ ?_
            clear hK K
            try simp only [Act.put, List.setIfInBounds_toArray, List.set_cons_zero, List.set_cons_succ]
            refine wpAny_ready (rs := [13]) (by kernel_rfl) (by simp) ?_
            refine (AllReady.cons rfl (fun K hK => ?_) AllReady.nil)
            · go_simp
              with_reducible refine (HS2.out _ _ (by ((with_reducible repeat (first | exact Chg.refl _ _ | refine Chg.drew ?_ | refine Chg.alloc ?_ _ | refine Chg.then_new ?_ HN_T.out | refine Chg.then_new ?_ HN_S.out | refine Chg.then_new ?_ HN_L.out)); fail_if_success (have := True.intro))) (by ((with_reducible repeat (first | exact Has.new_at _ _ _ _ rfl | exact Has.new_at _ _ _ _ (World.size_alloc _ _) | refine Has.drew ?_ | refine Has.keep ?_ HN_T.out | refine Has.keep ?_ HN_S.out | refine Has.keep ?_ HN_L.out | refine Has.alloc ?_ _)); fail_if_success (have := True.intro)))).mono ?_
              rintro e wT ⟨AT, cT, rfl, hOT, hNT⟩
              have HO_T := Lib.hid hOT
              have HN_T := Lib.hid hNT
              clear hOT hNT
              refine hK _ _ ?_
              clear hK K
              try simp only [Act.put, List.setIfInBounds_toArray, List.set_cons_zero, List.set_cons_succ]
              refine take_at (i := 14) (d := 73) (v := .agg #[.int .i64 0, .slice AT 32 cT]) rfl rfl (by kernel_rfl) (by kernel_rfl) (by kernel_rfl) (fun _ _ _ h => h) (Or.inl ⟨by go_simp, fun _ => by go_simp⟩) ?_
              simp only [List.setIfInBounds_toArray, List.set_cons_zero, List.set_cons_succ]
              refine wpAny_ready (rs := [15]) (by kernel_rfl) (by simp) ?_
              refine (AllReady.cons rfl (fun K hK => ?_) AllReady.nil)
              · go_simp
                refine hK _ _ ?_
                clear hK K
                try simp only [Act.put, List.setIfInBounds_toArray, List.set_cons_zero, List.set_cons_succ]
                refine take_at (i := 16) (d := 9) (v := .slice (some ⟨wT.heap.size, 0, none⟩) 3 3) rfl rfl (by kernel_rfl) (by kernel_rfl) (by kernel_rfl) (fun _ _ _ h => h) (Or.inl ⟨by go_simp, fun _ => by go_simp⟩) ?_
                simp only [List.setIfInBounds_toArray, List.set_cons_zero, List.set_cons_succ]
                refine wpAny_done (by kernel_rfl) ?_ _
                clear f0 f0' f1 f2 f3 f4 f5 f9 hmk
                go_wp2_with fail
                go_meet
                case rel => exact FmX.mk (by ((with_reducible repeat (first | exact Has.new_at _ _ _ _ rfl | exact Has.new_at _ _ _ _ (World.size_alloc _ _) | refine Has.drew ?_)); fail_if_success (have := True.intro))) (by ((with_reducible repeat (first | exact Has.new_at _ _ _ _ rfl | exact Has.new_at _ _ _ _ (World.size_alloc _ _) | refine Has.drew ?_ | refine Has.keep ?_ HN_T.out | refine Has.keep ?_ HN_S.out | refine Has.keep ?_ HN_L.out | refine Has.alloc ?_ _)); fail_if_success (have := True.intro))) (by ((with_reducible repeat (first | exact HO_L.out | exact HO_S.out | exact HO_T.out | refine own_new ?_ (Chg.alloc (Chg.refl _ _) _) | refine own_new ?_ (Chg.drew (Chg.refl _ _)) | refine own_new ?_ HN_T.out | refine own_new ?_ HN_S.out | refine own_new ?_ HN_L.out)); fail_if_success (have := True.intro))) (by ((with_reducible repeat (first | exact HO_L.out | exact HO_S.out | exact HO_T.out | refine own_new ?_ (Chg.alloc (Chg.refl _ _) _) | refine own_new ?_ (Chg.drew (Chg.refl _ _)) | refine own_new ?_ HN_T.out | refine own_new ?_ HN_S.out | refine own_new ?_ HN_L.out)); fail_if_success (have := True.intro))) (by ((with_reducible repeat (first | exact Chg.refl _ _ | refine Chg.drew ?_ | refine Chg.alloc ?_ _ | refine Chg.then_new ?_ HN_T.out | refine Chg.then_new ?_ HN_S.out | refine Chg.then_new ?_ HN_L.out)); fail_if_success (have := True.intro)))
        · go_simp
          refine hK _ _ ?_
          clear hK K
          try simp only [Act.put, List.setIfInBounds_toArray, List.set_cons_zero, List.set_cons_succ]
          refine wpAny_ready (rs := [3, 13]) (by kernel_rfl) (by simp) ?_
          refine (AllReady.cons rfl (fun K hK => ?_) (AllReady.cons rfl (fun K hK => ?_) AllReady.nil))
          · go_simp
            refine hK _ _ ?_
            clear hK K
            try simp only [Act.put, List.setIfInBounds_toArray, List.set_cons_zero, List.set_cons_succ]
            refine take_at (i := 4) (d := 63) (v := .agg #[.int .i64 2, .slice (some ⟨wS.heap.size + 1, 0, none⟩) 32 32]) rfl rfl (by kernel_rfl) (by kernel_rfl) (by kernel_rfl) (fun _ _ _ h => h) (Or.inl ⟨by go_simp, fun _ => by go_simp⟩) ?_
            simp only [List.setIfInBounds_toArray, List.set_cons_zero, List.set_cons_succ]
            refine wpAny_ready (rs := [13]) (by kernel_rfl) (by simp) ?_
            refine (AllReady.cons rfl (fun K hK => ?_) AllReady.nil)
            · go_simp
              with_reducible refine (HS2.out _ _ (by ((with_reducible repeat (first | exact Chg.refl _ _ | refine Chg.drew ?_ | refine Chg.alloc ?_ _ | refine Chg.then_new ?_ HN_T.out | refine Chg.then_new ?_ HN_S.out | refine Chg.then_new ?_ HN_L.out)); fail_if_success (have := True.intro))) (by ((with_reducible repeat (first | exact Has.new_at _ _ _ _ rfl | exact Has.new_at _ _ _ _ (World.size_alloc _ _) | refine Has.drew ?_ | refine Has.keep ?_ HN_T.out | refine Has.keep ?_ HN_S.out | refine Has.keep ?_ HN_L.out | refine Has.alloc ?_ _)); fail_if_success (have := True.intro)))).mono ?_
              rintro e wT ⟨AT, cT, rfl, hOT, hNT⟩
              have HO_T := Lib.hid hOT
              have HN_T := Lib.hid hNT
              clear hOT hNT
              refine hK _ _ ?_
              clear hK K
              try simp only [Act.put, List.setIfInBounds_toArray, List.set_cons_zero, List.set_cons_succ]
              refine take_at (i := 14) (d := 73) (v := .agg #[.int .i64 0, .slice AT 32 cT]) rfl rfl (by kernel_rfl) (by kernel_rfl) (by kernel_rfl) (fun _ _ _ h => h) (Or.inl ⟨by go_simp, fun _ => by go_simp⟩) ?_
              simp only [List.setIfInBounds_toArray, List.set_cons_zero, List.set_cons_succ]
              refine wpAny_ready (rs := [15]) (by kernel_rfl) (by simp) ?_
              refine (AllReady.cons rfl (fun K hK => ?_) AllReady.nil)
              · go_simp
                refine hK _ _ ?_
                clear hK K
                try simp only [Act.put, List.setIfInBounds_toArray, List.set_cons_zero, List.set_cons_succ]
                refine take_at (i := 16) (d := 9) (v := .slice (some ⟨wT.heap.size, 0, none⟩) 3 3) rfl rfl (by kernel_rfl) (by kernel_rfl) (by kernel_rfl) (fun _ _ _ h => h) (Or.inl ⟨by go_simp, fun _ => by go_simp⟩) ?_
                simp only [List.setIfInBounds_toArray, List.set_cons_zero, List.set_cons_succ]
                refine wpAny_done (by kernel_rfl) ?_ _
                clear f0 f0' f1 f2 f3 f4 f5 f9 hmk
                go_wp2_with fail
                go_meet
                case rel => exact FmX.mk (by ((with_reducible repeat (first | exact Has.new_at _ _ _ _ rfl | exact Has.new_at _ _ _ _ (World.size_alloc _ _) | refine Has.drew ?_)); fail_if_success (have := True.intro))) (by ((with_reducible repeat (first | exact Has.new_at _ _ _ _ rfl | exact Has.new_at _ _ _ _ (World.size_alloc _ _) | refine Has.drew ?_ | refine Has.keep ?_ HN_T.out | refine Has.keep ?_ HN_S.out | refine Has.keep ?_ HN_L.out | refine Has.alloc ?_ _)); fail_if_success (have := True.intro))) (by ((with_reducible repeat (first | exact HO_L.out | exact HO_S.out | exact HO_T.out | refine own_new ?_ (Chg.alloc (Chg.refl _ _) _) | refine own_new ?_ (Chg.drew (Chg.refl _ _)) | refine own_new ?_ HN_T.out | refine own_new ?_ HN_S.out | refine own_new ?_ HN_L.out)); fail_if_success (have := True.intro))) (by ((with_reducible repeat (first | exact HO_L.out | exact HO_S.out | exact HO_T.out | refine own_new ?_ (Chg.alloc (Chg.refl _ _) _) | refine own_new ?_ (Chg.drew (Chg.refl _ _)) | refine own_new ?_ HN_T.out | refine own_new ?_ HN_S.out | refine own_new ?_ HN_L.out)); fail_if_success (have := True.intro))) (by ((with_reducible repeat (first | exact Chg.refl _ _ | refine Chg.drew ?_ | refine Chg.alloc ?_ _ | refine Chg.then_new ?_ HN_T.out | refine Chg.then_new ?_ HN_S.out | refine Chg.then_new ?_ HN_L.out)); fail_if_success (have := True.intro)))
          · go_simp
            with_reducible refine (HS2.out _ _ (by ((with_reducible repeat (first | exact Chg.refl _ _ | refine Chg.drew ?_ | refine Chg.alloc ?_ _ | refine Chg.then_new ?_ HN_T.out | refine Chg.then_new ?_ HN_S.out | refine Chg.then_new ?_ HN_L.out)); fail_if_success (have := True.intro))) (by ((with_reducible repeat (first | exact Has.new_at _ _ _ _ rfl | exact Has.new_at _ _ _ _ (World.size_alloc _ _) | refine Has.drew ?_ | refine Has.keep ?_ HN_T.out | refine Has.keep ?_ HN_S.out | refine Has.keep ?_ HN_L.out | refine Has.alloc ?_ _)); fail_if_success (have := True.intro)))).mono ?_
            rintro e wT ⟨AT, cT, rfl, hOT, hNT⟩
            have HO_T := Lib.hid hOT
            have HN_T := Lib.hid hNT
            clear hOT hNT
            refine hK _ _ ?_
            clear hK K
            try simp only [Act.put, List.setIfInBounds_toArray, List.set_cons_zero, List.set_cons_succ]
            refine take_at (i := 14) (d := 73) (v := .agg #[.int .i64 0, .slice AT 32 cT]) rfl rfl (by kernel_rfl) (by kernel_rfl) (by kernel_rfl) (fun _ _ _ h => h) (Or.inl ⟨by go_simp, fun _ => by go_simp⟩) ?_
            simp only [List.setIfInBounds_toArray, List.set_cons_zero, List.set_cons_succ]
            refine wpAny_ready (rs := [3]) (by kernel_rfl) (by simp) ?_
            refine (AllReady.cons rfl (fun K hK => ?_) AllReady.nil)
            · go_simp
              refine hK _ _ ?_
              clear hK K
              try simp only [Act.put, List.setIfInBounds_toArray, List.set_cons_zero, List.set_cons_succ]
              refine take_at (i := 4) (d := 63) (v := .agg #[.int .i64 2, .slice (some ⟨wT.heap.size, 0, none⟩) 32 32]) rfl rfl (by kernel_rfl) (by kernel_rfl) (by kernel_rfl) (fun _ _ _ h => h) (Or.inl ⟨by go_simp, fun _ => by go_simp⟩) ?_
              simp only [List.setIfInBounds_toArray, List.set_cons_zero, List.set_cons_succ]
              refine wpAny_ready (rs := [15]) (by kernel_rfl) (by simp) ?_
              refine (AllReady.cons rfl (fun K hK => ?_) AllReady.nil)
              · go_simp
                refine hK _ _ ?_
                clear hK K
                try simp only [Act.put, List.setIfInBounds_toArray, List.set_cons_zero, List.set_cons_succ]
                refine take_at (i := 16) (d := 9) (v := .slice (some ⟨wT.heap.size + 1, 0, none⟩) 3 3) rfl rfl (by kernel_rfl) (by kernel_rfl) (by kernel_rfl) (fun _ _ _ h => h) (Or.inl ⟨by go_simp, fun _ => by go_simp⟩) ?_
                simp only [List.setIfInBounds_toArray, List.set_cons_zero, List.set_cons_succ]
                refine wpAny_done (by kernel_rfl) ?_ _
                clear f0 f0' f1 f2 f3 f4 f5 f9 hmk
                go_wp2_with fail
                go_meet
                case rel => exact FmX.mk (by ((with_reducible repeat (first | exact Has.new_at _ _ _ _ rfl | exact Has.new_at _ _ _ _ (World.size_alloc _ _) | refine Has.drew ?_)); fail_if_success (have := True.intro))) (by ((with_reducible repeat (first | exact Has.new_at _ _ _ _ rfl | exact Has.new_at _ _ _ _ (World.size_alloc _ _) | refine Has.drew ?_ | refine Has.keep ?_ HN_T.out | refine Has.keep ?_ HN_S.out | refine Has.keep ?_ HN_L.out | refine Has.alloc ?_ _)); fail_if_success (have := True.intro))) (by ((with_reducible repeat (first | exact HO_L.out | exact HO_S.out | exact HO_T.out | refine own_new ?_ (Chg.alloc (Chg.refl _ _) _) | refine own_new ?_ (Chg.drew (Chg.refl _ _)) | refine own_new ?_ HN_T.out | refine own_new ?_ HN_S.out | refine own_new ?_ HN_L.out)); fail_if_success (have := True.intro))) (by ((with_reducible repeat (first | exact HO_L.out | exact HO_S.out | exact HO_T.out | refine own_new ?_ (Chg.alloc (Chg.refl _ _) _) | refine own_new ?_ (Chg.drew (Chg.refl _ _)) | refine own_new ?_ HN_T.out | refine own_new ?_ HN_S.out | refine own_new ?_ HN_L.out)); fail_if_success (have := True.intro))) (by ((with_reducible repeat (first | exact Chg.refl _ _ | refine Chg.drew ?_ | refine Chg.alloc ?_ _ | refine Chg.then_new ?_ HN_T.out | refine Chg.then_new ?_ HN_S.out | refine Chg.then_new ?_ HN_L.out)); fail_if_success (have := True.intro)))
      · go_simp
        refine hK _ _ ?_
        clear hK K
        try simp only [Act.put, List.setIfInBounds_toArray, List.set_cons_zero, List.set_cons_succ]
        refine take_at (i := 4) (d := 63) (v := .agg #[.int .i64 2, .slice (some ⟨wL.heap.size, 0, none⟩) 32 32]) rfl rfl (by kernel_rfl) (by kernel_rfl) (by kernel_rfl) (fun _ _ _ h => h) (Or.inl ⟨by go_simp, fun _ => by go_simp⟩) ?_
        simp only [List.setIfInBounds_toArray, List.set_cons_zero, List.set_cons_succ]
        refine wpAny_ready (rs := [1, 12]) (by kernel_rfl) (by simp) ?_
        refine (AllReady.cons rfl (fun K hK => ?_) (AllReady.cons rfl (fun K hK => ?_) AllReady.nil))
        · go_simp
          with_reducible refine (HS1.out _ AL cL (by ((with_reducible repeat (first | exact Chg.refl _ _ | refine Chg.drew ?_ | refine Chg.alloc ?_ _ | refine Chg.then_new ?_ HN_T.out | refine Chg.then_new ?_ HN_S.out | refine Chg.then_new ?_ HN_L.out)); fail_if_success (have := True.intro))) (by ((with_reducible repeat (first | exact HO_L.out | exact HO_S.out | exact HO_T.out | refine own_new ?_ (Chg.alloc (Chg.refl _ _) _) | refine own_new ?_ (Chg.drew (Chg.refl _ _)) | refine own_new ?_ HN_T.out | refine own_new ?_ HN_S.out | refine own_new ?_ HN_L.out)); fail_if_success (have := True.intro)))).mono ?_
          rintro e wS ⟨AS, cS, rfl, hOS, hNS⟩
          have HO_S := Lib.hid hOS
          have HN_S := Lib.hid hNS
          clear hOS hNS
          refine hK _ _ ?_
          clear hK K
          try simp only [Act.put, List.setIfInBounds_toArray, List.set_cons_zero, List.set_cons_succ]
          refine take_at (i := 2) (d := 61) (v := .agg #[.int .i64 1, .slice AS 32 cS]) rfl rfl (by kernel_rfl) (by kernel_rfl) (by kernel_rfl) (fun _ _ _ h => h) (Or.inl ⟨by go_simp, fun _ => by go_simp⟩) ?_
          simp only [List.setIfInBounds_toArray, List.set_cons_zero, List.set_cons_succ]
          refine wpAny_ready (rs := [12]) (by kernel_rfl) (by simp) ?_
          refine (AllReady.cons rfl (fun K hK => ?_) AllReady.nil)
          · go_simp
            refine hK _ _ ?_
            clear hK K
            try simp only [Act.put, List.setIfInBounds_toArray, List.set_cons_zero, List.set_cons_succ]
            refine wpAny_ready (rs := [13]) (by kernel_rfl) (by simp) ?_
            refine (AllReady.cons rfl (fun K hK => ?_) AllReady.nil)
            · go_simp
              with_reducible refine (HS2.out _ _ (by ((with_reducible repeat (first | exact Chg.refl _ _ | refine Chg.drew ?_ | refine Chg.alloc ?_ _ | refine Chg.then_new ?_ HN_T.out | refine Chg.then_new ?_ HN_S.out | refine Chg.then_new ?_ HN_L.out)); fail_if_success (have := True.intro))) (by ((with_reducible repeat (first | exact Has.new_at _ _ _ _ rfl | exact Has.new_at _ _ _ _ (World.size_alloc _ _) | refine Has.drew ?_ | refine Has.keep ?_ HN_T.out | refine Has.keep ?_ HN_S.out | refine Has.keep ?_ HN_L.out | refine Has.alloc ?_ _)); fail_if_success (have := True.intro)))).mono ?_
              rintro e wT ⟨AT, cT, rfl, hOT, hNT⟩
              have HO_T := Lib.hid hOT
              have HN_T := Lib.hid hNT
              clear hOT hNT
              refine hK _ _ ?_
              clear hK K
              try simp only [Act.put, List.setIfInBounds_toArray, List.set_cons_zero, List.set_cons_succ]
              refine take_at (i := 14) (d := 73) (v := .agg #[.int .i64 0, .slice AT 32 cT]) rfl rfl (by kernel_rfl) (by kernel_rfl) (by kernel_rfl) (fun _ _ _ h => h) (Or.inl ⟨by go_simp, fun _ => by go_simp⟩) ?_
              simp only [List.setIfInBounds_toArray, List.set_cons_zero, List.set_cons_succ]
              refine wpAny_ready (rs := [15]) (by kernel_rfl) (by simp) ?_
              refine (AllReady.cons rfl (fun K hK => ?_) AllReady.nil)
              · go_simp
                refine hK _ _ ?_
                clear hK K
                try simp only [Act.put, List.setIfInBounds_toArray, List.set_cons_zero, List.set_cons_succ]
                refine take_at (i := 16) (d := 9) (v := .slice (some ⟨wT.heap.size, 0, none⟩) 3 3) rfl rfl (by kernel_rfl) (by kernel_rfl) (by kernel_rfl) (fun _ _ _ h => h) (Or.inl ⟨by go_simp, fun _ => by go_simp⟩) ?_
                simp only [List.setIfInBounds_toArray, List.set_cons_zero, List.set_cons_succ]
                refine wpAny_done (by kernel_rfl) ?_ _
                clear f0 f0' f1 f2 f3 f4 f5 f9 hmk
                go_wp2_with fail
                go_meet
                case rel => exact FmX.mk (by ((with_reducible repeat (first | exact Has.new_at _ _ _ _ rfl | exact Has.new_at _ _ _ _ (World.size_alloc _ _) | refine Has.drew ?_)); fail_if_success (have := True.intro))) (by ((with_reducible repeat (first | exact Has.new_at _ _ _ _ rfl | exact Has.new_at _ _ _ _ (World.size_alloc _ _) | refine Has.drew ?_ | refine Has.keep ?_ HN_T.out | refine Has.keep ?_ HN_S.out | refine Has.keep ?_ HN_L.out | refine Has.alloc ?_ _)); fail_if_success (have := True.intro))) (by ((with_reducible repeat (first | exact HO_L.out | exact HO_S.out | exact HO_T.out | refine own_new ?_ (Chg.alloc (Chg.refl _ _) _) | refine own_new ?_ (Chg.drew (Chg.refl _ _)) | refine own_new ?_ HN_T.out | refine own_new ?_ HN_S.out | refine own_new ?_ HN_L.out)); fail_if_success (have := True.intro))) (by ((with_reducible repeat (first | exact HO_L.out | exact HO_S.out | exact HO_T.out | refine own_new ?_ (Chg.alloc (Chg.refl _ _) _) | refine own_new ?_ (Chg.drew (Chg.refl _ _)) | refine own_new ?_ HN_T.out | refine own_new ?_ HN_S.out | refine own_new ?_ HN_L.out)); fail_if_success (have := True.intro))) (by ((with_reducible repeat (first | exact Chg.refl _ _ | refine Chg.drew ?_ | refine Chg.alloc ?_ _ | refine Chg.then_new ?_ HN_T.out | refine Chg.then_new ?_ HN_S.out | refine Chg.then_new ?_ HN_L.out)); fail_if_success (have := True.intro)))
        · go_simp
          refine hK _ _ ?_
          clear hK K
          try simp only [Act.put, List.setIfInBounds_toArray, List.set_cons_zero, List.set_cons_succ]
          refine wpAny_ready (rs := [1]) (by kernel_rfl) (by simp) ?_
          refine (AllReady.cons rfl (fun K hK => ?_) AllReady.nil)
          · go_simp
            with_reducible refine (HS1.out _ AL cL (by ((with_reducible repeat (first | exact Chg.refl _ _ | refine Chg.drew ?_ | refine Chg.alloc ?_ _ | refine Chg.then_new ?_ HN_T.out | refine Chg.then_new ?_ HN_S.out | refine Chg.then_new ?_ HN_L.out)); fail_if_success (have := True.intro))) (by ((with_reducible repeat (first | exact HO_L.out | exact HO_S.out | exact HO_T.out | refine own_new ?_ (Chg.alloc (Chg.refl _ _) _) | refine own_new ?_ (Chg.drew (Chg.refl _ _)) | refine own_new ?_ HN_T.out | refine own_new ?_ HN_S.out | refine own_new ?_ HN_L.out)); fail_if_success (have := True.intro)))).mono ?_
            rintro e wS ⟨AS, cS, rfl, hOS, hNS⟩
            have HO_S := Lib.hid hOS
            have HN_S := Lib.hid hNS
            clear hOS hNS
            refine hK _ _ ?_
            clear hK K
            try simp only [Act.put, List.setIfInBounds_toArray, List.set_cons_zero, List.set_cons_succ]
            refine take_at (i := 2) (d := 61) (v := .agg #[.int .i64 1, .slice AS 32 cS]) rfl rfl (by kernel_rfl) (by kernel_rfl) (by kernel_rfl) (fun _ _ _ h => h) (Or.inl ⟨by go_simp, fun _ => by go_simp⟩) ?_
            simp only [List.setIfInBounds_toArray, List.set_cons_zero, List.set_cons_succ]
            refine wpAny_ready (rs := [13]) (by kernel_rfl) (by simp) ?_
            refine (AllReady.cons rfl (fun K hK => ?_) AllReady.nil)
            · go_simp
              with_reducible refine (HS2.out _ _ (by ((with_reducible repeat (first | exact Chg.refl _ _ | refine Chg.drew ?_ | refine Chg.alloc ?_ _ | refine Chg.then_new ?_ HN_T.out | refine Chg.then_new ?_ HN_S.out | refine Chg.then_new ?_ HN_L.out)); fail_if_success (have := True.intro))) (by ((with_reducible repeat (first | exact Has.new_at _ _ _ _ rfl | exact Has.new_at _ _ _ _ (World.size_alloc _ _) | refine Has.drew ?_ | refine Has.keep ?_ HN_T.out | refine Has.keep ?_ HN_S.out | refine Has.keep ?_ HN_L.out | refine Has.alloc ?_ _)); fail_if_success (have := True.intro)))).mono ?_
              rintro e wT ⟨AT, cT, rfl, hOT, hNT⟩
              have HO_T := Lib.hid hOT
              have HN_T := Lib.hid hNT
              clear hOT hNT
              refine hK _ _ ?_
              clear hK K
              try simp only [Act.put, List.setIfInBounds_toArray, List.set_cons_zero, List.set_cons_succ]
              refine take_at (i := 14) (d := 73) (v := .agg #[.int .i64 0, .slice AT 32 cT]) rfl rfl (by kernel_rfl) (by kernel_rfl) (by kernel_rfl) (fun _ _ _ h => h) (Or.inl ⟨by go_simp, fun _ => by go_simp⟩) ?_
              simp only [List.setIfInBounds_toArray, List.set_cons_zero, List.set_cons_succ]
              refine wpAny_ready (rs := [15]) (by kernel_rfl) (by simp) ?_
              refine (AllReady.cons rfl (fun K hK => ?_) AllReady.nil)
              · go_simp
                refine hK _ _ ?_
                clear hK K
                try simp only [Act.put, List.setIfInBounds_toArray, List.set_cons_zero, List.set_cons_succ]
                refine take_at (i := 16) (d := 9) (v := .slice (some ⟨wT.heap.size, 0, none⟩) 3 3) rfl rfl (by kernel_rfl) (by kernel_rfl) (by kernel_rfl) (fun _ _ _ h => h) (Or.inl ⟨by go_simp, fun _ => by go_simp⟩) ?_
                simp only [List.setIfInBounds_toArray, List.set_cons_zero, List.set_cons_succ]
                refine wpAny_done (by kernel_rfl) ?_ _
                clear f0 f0' f1 f2 f3 f4 f5 f9 hmk
                go_wp2_with fail
                go_meet
                case rel => exact FmX.mk (by ((with_reducible repeat (first | exact Has.new_at _ _ _ _ rfl | exact Has.new_at _ _ _ _ (World.size_alloc _ _) | refine Has.drew ?_)); fail_if_success (have := True.intro))) (by ((with_reducible repeat (first | exact Has.new_at _ _ _ _ rfl | exact Has.new_at _ _ _ _ (World.size_alloc _ _) | refine Has.drew ?_ | refine Has.keep ?_ HN_T.out | refine Has.keep ?_ HN_S.out | refine Has.keep ?_ HN_L.out | refine Has.alloc ?_ _)); fail_if_success (have := True.intro))) (by ((with_reducible repeat (first | exact HO_L.out | exact HO_S.out | exact HO_T.out | refine own_new ?_ (Chg.alloc (Chg.refl _ _) _) | refine own_new ?_ (Chg.drew (Chg.refl _ _)) | refine own_new ?_ HN_T.out | refine own_new ?_ HN_S.out | refine own_new ?_ HN_L.out)); fail_if_success (have := True.intro))) (by ((with_reducible repeat (first | exact HO_L.out | exact HO_S.out | exact HO_T.out | refine own_new ?_ (Chg.alloc (Chg.refl _ _) _) | refine own_new ?_ (Chg.drew (Chg.refl _ _)) | refine own_new ?_ HN_T.out | refine own_new ?_ HN_S.out | refine own_new ?_ HN_L.out)); fail_if_success (have := True.intro))) (by ((with_reducible repeat (first | exact Chg.refl _ _ | refine Chg.drew ?_ | refine Chg.alloc ?_ _ | refine Chg.then_new ?_ HN_T.out | refine Chg.then_new ?_ HN_S.out | refine Chg.then_new ?_ HN_L.out)); fail_if_success (have := True.intro)))
      · go_simp
        refine hK _ _ ?_
        clear hK K
        try simp only [Act.put, List.setIfInBounds_toArray, List.set_cons_zero, List.set_cons_succ]
        refine wpAny_ready (rs := [1, 3]) (by kernel_rfl) (by simp) ?_
        refine (AllReady.cons rfl (fun K hK => ?_) (AllReady.cons rfl (fun K hK => ?_) AllReady.nil))
        · go_simp
          with_reducible refine (HS1.out _ AL cL (by ((with_reducible repeat (first | exact Chg.refl _ _ | refine Chg.drew ?_ | refine Chg.alloc ?_ _ | refine Chg.then_new ?_ HN_T.out | refine Chg.then_new ?_ HN_S.out | refine Chg.then_new ?_ HN_L.out)); fail_if_success (have := True.intro))) (by ((with_reducible repeat (first | exact HO_L.out | exact HO_S.out | exact HO_T.out | refine own_new ?_ (Chg.alloc (Chg.refl _ _) _) | refine own_new ?_ (Chg.drew (Chg.refl _ _)) | refine own_new ?_ HN_T.out | refine own_new ?_ HN_S.out | refine own_new ?_ HN_L.out)); fail_if_success (have := True.intro)))).mono ?_
          rintro e wS ⟨AS, cS, rfl, hOS, hNS⟩
          have HO_S := Lib.hid hOS
          have HN_S := Lib.hid hNS
          clear hOS hNS
          refine hK _ _ ?_
          clear hK K
          try simp only [Act.put, List.setIfInBounds_toArray, List.set_cons_zero, List.set_cons_succ]
          refine take_at (i := 2) (d := 61) (v := .agg #[.int .i64 1, .slice AS 32 cS]) rfl rfl (by kernel_rfl) (by kernel_rfl) (by kernel_rfl) (fun _ _ _ h => h) (Or.inl ⟨by go_simp, fun _ => by go_simp⟩) ?_
          simp only [List.setIfInBounds_toArray, List.set_cons_zero, List.set_cons_succ]
          refine wpAny_ready (rs := [3, 13]) (by kernel_rfl) (by simp) ?_
          refine (AllReady.cons rfl (fun K hK => ?_) (AllReady.cons rfl (fun K hK => ?_) AllReady.nil))
          · go_simp
            refine hK _ _ ?_
            clear hK K
            try simp only [Act.put, List.setIfInBounds_toArray, List.set_cons_zero, List.set_cons_succ]
            refine take_at (i := 4) (d := 63) (v := .agg #[.int .i64 2, .slice (some ⟨wS.heap.size, 0, none⟩) 32 32]) rfl rfl (by kernel_rfl) (by kernel_rfl) (by kernel_rfl) (fun _ _ _ h => h) (Or.inl ⟨by go_simp, fun _ => by go_simp⟩) ?_
            simp only [List.setIfInBounds_toArray, List.set_cons_zero, List.set_cons_succ]
            refine wpAny_ready (rs := [13]) (by kernel_rfl) (by simp) ?_
            refine (AllReady.cons rfl (fun K hK => ?_) AllReady.nil)
            · go_simp
              with_reducible refine (HS2.out _ _ (by ((with_reducible repeat (first | exact Chg.refl _ _ | refine Chg.drew ?_ | refine Chg.alloc ?_ _ | refine Chg.then_new ?_ HN_T.out | refine Chg.then_new ?_ HN_S.out | refine Chg.then_new ?_ HN_L.out)); fail_if_success (have := True.intro))) (by ((with_reducible repeat (first | exact Has.new_at _ _ _ _ rfl | exact Has.new_at _ _ _ _ (World.size_alloc _ _) | refine Has.drew ?_ | refine Has.keep ?_ HN_T.out | refine Has.keep ?_ HN_S.out | refine Has.keep ?_ HN_L.out | refine Has.alloc ?_ _)); fail_if_success (have := True.intro)))).mono ?_
              rintro e wT ⟨AT, cT, rfl, hOT, hNT⟩
              have HO_T := Lib.hid hOT
              have HN_T := Lib.hid hNT
              clear hOT hNT
              refine hK _ _ ?_
              clear hK K
              try simp only [Act.put, List.setIfInBounds_toArray, List.set_cons_zero, List.set_cons_succ]
              refine take_at (i := 14) (d := 73) (v := .agg #[.int .i64 0, .slice AT 32 cT]) rfl rfl (by kernel_rfl) (by kernel_rfl) (by kernel_rfl) (fun _ _ _ h => h) (Or.inl ⟨by go_simp, fun _ => by go_simp⟩) ?_
              simp only [List.setIfInBounds_toArray, List.set_cons_zero, List.set_cons_succ]
              refine wpAny_ready (rs := [15]) (by kernel_rfl) (by simp) ?_
              refine (AllReady.cons rfl (fun K hK => ?_) AllReady.nil)
              · go_simp
                refine hK _ _ ?_
                clear hK K
                try simp only [Act.put, List.setIfInBounds_toArray, List.set_cons_zero, List.set_cons_succ]
                refine take_at (i := 16) (d := 9) (v := .slice (some ⟨wT.heap.size, 0, none⟩) 3 3) rfl rfl (by kernel_rfl) (by kernel_rfl) (by kernel_rfl) (fun _ _ _ h => h) (Or.inl ⟨by go_simp, fun _ => by go_simp⟩) ?_
                simp only [List.setIfInBounds_toArray, List.set_cons_zero, List.set_cons_succ]
                refine wpAny_done (by kernel_rfl) ?_ _
                clear f0 f0' f1 f2 f3 f4 f5 f9 hmk
                go_wp2_with fail
                go_meet
                case rel => exact FmX.mk (by ((with_reducible repeat (first | exact Has.new_at _ _ _ _ rfl | exact Has.new_at _ _ _ _ (World.size_alloc _ _) | refine Has.drew ?_)); fail_if_success (have := True.intro))) (by ((with_reducible repeat (first | exact Has.new_at _ _ _ _ rfl | exact Has.new_at _ _ _ _ (World.size_alloc _ _) | refine Has.drew ?_ | refine Has.keep ?_ HN_T.out | refine Has.keep ?_ HN_S.out | refine Has.keep ?_ HN_L.out | refine Has.alloc ?_ _)); fail_if_success (have := True.intro))) (by ((with_reducible repeat (first | exact HO_L.out | exact HO_S.out | exact HO_T.out | refine own_new ?_ (Chg.alloc (Chg.refl _ _) _) | refine own_new ?_ (Chg.drew (Chg.refl _ _)) | refine own_new ?_ HN_T.out | refine own_new ?_ HN_S.out | refine own_new ?_ HN_L.out)); fail_if_success (have := True.intro))) (by ((with_reducible repeat (first | exact HO_L.out | exact HO_S.out | exact HO_T.out | refine own_new ?_ (Chg.alloc (Chg.refl _ _) _) | refine own_new ?_ (Chg.drew (Chg.refl _ _)) | refine own_new ?_ HN_T.out | refine own_new ?_ HN_S.out | refine own_new ?_ HN_L.out)); fail_if_success (have := True.intro))) (by ((with_reducible repeat (first | exact Chg.refl _ _ | refine Chg.drew ?_ | refine Chg.alloc ?_ _ | refine Chg.then_new ?_ HN_T.out | refine Chg.then_new ?_ HN_S.out | refine Chg.then_new ?_ HN_L.out)); fail_if_success (have := True.intro)))
          · go_simp
            with_reducible refine (HS2.out _ _ (by ((with_reducible repeat (first | exact Chg.refl _ _ | refine Chg.drew ?_ | refine Chg.alloc ?_ _ | refine Chg.then_new ?_ HN_T.out | refine Chg.then_new ?_ HN_S.out | refine Chg.then_new ?_ HN_L.out)); fail_if_success (have := True.intro))) (by ((with_reducible repeat (first | exact Has.new_at _ _ _ _ rfl | exact Has.new_at _ _ _ _ (World.size_alloc _ _) | refine Has.drew ?_ | refine Has.keep ?_ HN_T.out | refine Has.keep ?_ HN_S.out | refine Has.keep ?_ HN_L.out | refine Has.alloc ?_ _)); fail_if_success (have := True.intro)))).mono ?_
            rintro e wT ⟨AT, cT, rfl, hOT, hNT⟩
            have HO_T := Lib.hid hOT
            have HN_T := Lib.hid hNT
            clear hOT hNT
            refine hK _ _ ?_
            clear hK K
            try simp only [Act.put, List.setIfInBounds_toArray, List.set_cons_zero, List.set_cons_succ]
            refine take_at (i := 14) (d := 73) (v := .agg #[.int .i64 0, .slice AT 32 cT]) rfl rfl (by kernel_rfl) (by kernel_rfl) (by kernel_rfl) (fun _ _ _ h => h) (Or.inl ⟨by go_simp, fun _ => by go_simp⟩) ?_
            simp only [List.setIfInBounds_toArray, List.set_cons_zero, List.set_cons_succ]
            refine wpAny_ready (rs := [3]) (by kernel_rfl) (by simp) ?_
            refine (AllReady.cons rfl (fun K hK => ?_) AllReady.nil)
            · go_simp
              refine hK _ _ ?_
              clear hK K
              try simp only [Act.put, List.setIfInBounds_toArray, List.set_cons_zero, List.set_cons_succ]
              refine take_at (i := 4) (d := 63) (v := .agg #[.int .i64 2, .slice (some ⟨wT.heap.size, 0, none⟩) 32 32]) rfl rfl (by kernel_rfl) (by kernel_rfl) (by kernel_rfl) (fun _ _ _ h => h) (Or.inl ⟨by go_simp, fun _ => by go_simp⟩) ?_
              simp only [List.setIfInBounds_toArray, List.set_cons_zero, List.set_cons_succ]
              refine wpAny_ready (rs := [15]) (by kernel_rfl) (by simp) ?_
              refine (AllReady.cons rfl (fun K hK => ?_) AllReady.nil)
              · go_simp
                refine hK _ _ ?_
                clear hK K
                try simp only [Act.put, List.setIfInBounds_toArray, List.set_cons_zero, List.set_cons_succ]
                refine take_at (i := 16) (d := 9) (v := .slice (some ⟨wT.heap.size + 1, 0, none⟩) 3 3) rfl rfl (by kernel_rfl) (by kernel_rfl) (by kernel_rfl) (fun _ _ _ h => h) (Or.inl ⟨by go_simp, fun _ => by go_simp⟩) ?_
                simp only [List.setIfInBounds_toArray, List.set_cons_zero, List.set_cons_succ]
                refine wpAny_done (by kernel_rfl) ?_ _
                clear f0 f0' f1 f2 f3 f4 f5 f9 hmk
                go_wp2_with fail
                go_meet
                case rel => exact FmX.mk (by ((with_reducible repeat (first | exact Has.new_at _ _ _ _ rfl | exact Has.new_at _ _ _ _ (World.size_alloc _ _) | refine Has.drew ?_)); fail_if_success (have := True.intro))) (by ((with_reducible repeat (first | exact Has.new_at _ _ _ _ rfl | exact Has.new_at _ _ _ _ (World.size_alloc _ _) | refine Has.drew ?_ | refine Has.keep ?_ HN_T.out | refine Has.keep ?_ HN_S.out | refine Has.keep ?_ HN_L.out | refine Has.alloc ?_ _)); fail_if_success (have := True.intro))) (by ((with_reducible repeat (first | exact HO_L.out | exact HO_S.out | exact HO_T.out | refine own_new ?_ (Chg.alloc (Chg.refl _ _) _) | refine own_new ?_ (Chg.drew (Chg.refl _ _)) | refine own_new ?_ HN_T.out | refine own_new ?_ HN_S.out | refine own_new ?_ HN_L.out)); fail_if_success (have := True.intro))) (by ((with_reducible repeat (first | exact HO_L.out | exact HO_S.out | exact HO_T.out | refine own_new ?_ (Chg.alloc (Chg.refl _ _) _) | refine own_new ?_ (Chg.drew (Chg.refl _ _)) | refine own_new ?_ HN_T.out | refine own_new ?_ HN_S.out | refine own_new ?_ HN_L.out)); fail_if_success (have := True.intro))) (by ((with_reducible repeat (first | exact Chg.refl _ _ | refine Chg.drew ?_ | refine Chg.alloc ?_ _ | refine Chg.then_new ?_ HN_T.out | refine Chg.then_new ?_ HN_S.out | refine Chg.then_new ?_ HN_L.out)); fail_if_success (have := True.intro)))
        · go_simp
          refine hK _ _ ?_
          clear hK K
          try simp only [Act.put, List.setIfInBounds_toArray, List.set_cons_zero, List.set_cons_succ]
          refine take_at (i := 4) (d := 63) (v := .agg #[.int .i64 2, .slice (some ⟨wL.heap.size + 1, 0, none⟩) 32 32]) rfl rfl (by kernel_rfl) (by kernel_rfl) (by kernel_rfl) (fun _ _ _ h => h) (Or.inl ⟨by go_simp, fun _ => by go_simp⟩) ?_
          simp only [List.setIfInBounds_toArray, List.set_cons_zero, List.set_cons_succ]
          refine wpAny_ready (rs := [1]) (by kernel_rfl) (by simp) ?_
          refine (AllReady.cons rfl (fun K hK => ?_) AllReady.nil)
          · go_simp
            with_reducible refine (HS1.out _ AL cL (by ((with_reducible repeat (first | exact Chg.refl _ _ | refine Chg.drew ?_ | refine Chg.alloc ?_ _ | refine Chg.then_new ?_ HN_T.out | refine Chg.then_new ?_ HN_S.out | refine Chg.then_new ?_ HN_L.out)); fail_if_success (have := True.intro))) (by ((with_reducible repeat (first | exact HO_L.out | exact HO_S.out | exact HO_T.out | refine own_new ?_ (Chg.alloc (Chg.refl _ _) _) | refine own_new ?_ (Chg.drew (Chg.refl _ _)) | refine own_new ?_ HN_T.out | refine own_new ?_ HN_S.out | refine own_new ?_ HN_L.out)); fail_if_success (have := True.intro)))).mono ?_
            rintro e wS ⟨AS, cS, rfl, hOS, hNS⟩
            have HO_S := Lib.hid hOS
            have HN_S := Lib.hid hNS
            clear hOS hNS
            refine hK _ _ ?_
            clear hK K
            try simp only [Act.put, List.setIfInBounds_toArray, List.set_cons_zero, List.set_cons_succ]
            refine take_at (i := 2) (d := 61) (v := .agg #[.int .i64 1, .slice AS 32 cS]) rfl rfl (by kernel_rfl) (by kernel_rfl) (by kernel_rfl) (fun _ _ _ h => h) (Or.inl ⟨by go_simp, fun _ => by go_simp⟩) ?_
            simp only [List.setIfInBounds_toArray, List.set_cons_zero, List.set_cons_succ]
            refine wpAny_ready (rs := [13]) (by kernel_rfl) (by simp) ?_
            refine (AllReady.cons rfl (fun K hK => ?_) AllReady.nil)
            · go_simp
              with_reducible refine (HS2.out _ _ (by ((with_reducible repeat (first | exact Chg.refl _ _ | refine Chg.drew ?_ | refine Chg.alloc ?_ _ | refine Chg.then_new ?_ HN_T.out | refine Chg.then_new ?_ HN_S.out | refine Chg.then_new ?_ HN_L.out)); fail_if_success (have := True.intro))) (by ((with_reducible repeat (first | exact Has.new_at _ _ _ _ rfl | exact Has.new_at _ _ _ _ (World.size_alloc _ _) | refine Has.drew ?_ | refine Has.keep ?_ HN_T.out | refine Has.keep ?_ HN_S.out | refine Has.keep ?_ HN_L.out | refine Has.alloc ?_ _)); fail_if_success (have := True.intro)))).mono ?_
              rintro e wT ⟨AT, cT, rfl, hOT, hNT⟩
              have HO_T := Lib.hid hOT
              have HN_T := Lib.hid hNT
              clear hOT hNT
              refine hK _ _ ?_
              clear hK K
              try simp only [Act.put, List.setIfInBounds_toArray, List.set_cons_zero, List.set_cons_succ]
              refine take_at (i := 14) (d := 73) (v := .agg #[.int .i64 0, .slice AT 32 cT]) rfl rfl (by kernel_rfl) (by kernel_rfl) (by kernel_rfl) (fun _ _ _ h => h) (Or.inl ⟨by go_simp, fun _ => by go_simp⟩) ?_
              simp only [List.setIfInBounds_toArray, List.set_cons_zero, List.set_cons_succ]
              refine wpAny_ready (rs := [15]) (by kernel_rfl) (by simp) ?_
              refine (AllReady.cons rfl (fun K hK => ?_) AllReady.nil)
              · go_simp
                refine hK _ _ ?_
                clear hK K
                try simp only [Act.put, List.setIfInBounds_toArray, List.set_cons_zero, List.set_cons_succ]
                refine take_at (i := 16) (d := 9) (v := .slice (some ⟨wT.heap.size, 0, none⟩) 3 3) rfl rfl (by kernel_rfl) (by kernel_rfl) (by kernel_rfl) (fun _ _ _ h => h) (Or.inl ⟨by go_simp, fun _ => by go_simp⟩) ?_
                simp only [List.setIfInBounds_toArray, List.set_cons_zero, List.set_cons_succ]
                refine wpAny_done (by kernel_rfl) ?_ _
                clear f0 f0' f1 f2 f3 f4 f5 f9 hmk
                go_wp2_with fail
                go_meet
                case rel => exact FmX.mk (by ((with_reducible repeat (first | exact Has.new_at _ _ _ _ rfl | exact Has.new_at _ _ _ _ (World.size_alloc _ _) | refine Has.drew ?_)); fail_if_success (have := True.intro))) (by ((with_reducible repeat (first | exact Has.new_at _ _ _ _ rfl | exact Has.new_at _ _ _ _ (World.size_alloc _ _) | refine Has.drew ?_ | refine Has.keep ?_ HN_T.out | refine Has.keep ?_ HN_S.out | refine Has.keep ?_ HN_L.out | refine Has.alloc ?_ _)); fail_if_success (have := True.intro))) (by ((with_reducible repeat (first | exact HO_L.out | exact HO_S.out | exact HO_T.out | refine own_new ?_ (Chg.alloc (Chg.refl _ _) _) | refine own_new ?_ (Chg.drew (Chg.refl _ _)) | refine own_new ?_ HN_T.out | refine own_new ?_ HN_S.out | refine own_new ?_ HN_L.out)); fail_if_success (have := True.intro))) (by ((with_reducible repeat (first | exact HO_L.out | exact HO_S.out | exact HO_T.out | refine own_new ?_ (Chg.alloc (Chg.refl _ _) _) | refine own_new ?_ (Chg.drew (Chg.refl _ _)) | refine own_new ?_ HN_T.out | refine own_new ?_ HN_S.out | refine own_new ?_ HN_L.out)); fail_if_success (have := True.intro))) (by ((with_reducible repeat (first | exact Chg.refl _ _ | refine Chg.drew ?_ | refine Chg.alloc ?_ _ | refine Chg.then_new ?_ HN_T.out | refine Chg.then_new ?_ HN_S.out | refine Chg.then_new ?_ HN_L.out)); fail_if_success (have := True.intro)))
    · go_simp
      refine hK _ _ ?_
      clear hK K
      try simp only [Act.put, List.setIfInBounds_toArray, List.set_cons_zero, List.set_cons_succ]
      refine take_at (i := 4) (d := 63) (v := .agg #[.int .i64 2, .slice (some ⟨w6.heap.size, 0, none⟩) 32 32]) rfl rfl (by kernel_rfl) (by kernel_rfl) (by kernel_rfl) (fun _ _ _ h => h) (Or.inl ⟨by go_simp, fun _ => by go_simp⟩) ?_
      simp only [List.setIfInBounds_toArray, List.set_cons_zero, List.set_cons_succ]
      refine wpAny_ready (rs := [0, 12]) (by kernel_rfl) (by simp) ?_
      refine (AllReady.cons rfl (fun K hK => ?_) (AllReady.cons rfl (fun K hK => ?_) AllReady.nil))
      · go_simp
        with_reducible refine (HLi.out _ (by ((with_reducible repeat (first | exact Chg.refl _ _ | refine Chg.drew ?_ | refine Chg.alloc ?_ _ | refine Chg.then_new ?_ HN_T.out | refine Chg.then_new ?_ HN_S.out | refine Chg.then_new ?_ HN_L.out)); fail_if_success (have := True.intro)))).mono ?_
        rintro e wL ⟨AL, cL, rfl, hOL, hNL⟩
        have HO_L := Lib.hid hOL
        have HN_L := Lib.hid hNL
        clear hOL hNL
        refine hK _ _ ?_
        clear hK K
        try simp only [Act.put, List.setIfInBounds_toArray, List.set_cons_zero, List.set_cons_succ]
        refine wpAny_ready (rs := [1, 12]) (by kernel_rfl) (by simp) ?_
        refine (AllReady.cons rfl (fun K hK => ?_) (AllReady.cons rfl (fun K hK => ?_) AllReady.nil))
        · go_simp
          with_reducible refine (HS1.out _ AL cL (by ((with_reducible repeat (first | exact Chg.refl _ _ | refine Chg.drew ?_ | refine Chg.alloc ?_ _ | refine Chg.then_new ?_ HN_T.out | refine Chg.then_new ?_ HN_S.out | refine Chg.then_new ?_ HN_L.out)); fail_if_success (have := True.intro))) (by ((with_reducible repeat (first | exact HO_L.out | exact HO_S.out | exact HO_T.out | refine own_new ?_ (Chg.alloc (Chg.refl _ _) _) | refine own_new ?_ (Chg.drew (Chg.refl _ _)) | refine own_new ?_ HN_T.out | refine own_new ?_ HN_S.out | refine own_new ?_ HN_L.out)); fail_if_success (have := True.intro)))).mono ?_
          rintro e wS ⟨AS, cS, rfl, hOS, hNS⟩
          have HO_S := Lib.hid hOS
          have HN_S := Lib.hid hNS
          clear hOS hNS
          refine hK _ _ ?_
          clear hK K
          try simp only [Act.put, List.setIfInBounds_toArray, List.set_cons_zero, List.set_cons_succ]
          refine take_at (i := 2) (d := 61) (v := .agg #[.int .i64 1, .slice AS 32 cS]) rfl rfl (by kernel_rfl) (by kernel_rfl) (by kernel_rfl) (fun _ _ _ h => h) (Or.inl ⟨by go_simp, fun _ => by go_simp⟩) ?_
          simp only [List.setIfInBounds_toArray, List.set_cons_zero, List.set_cons_succ]
          refine wpAny_ready (rs := [12]) (by kernel_rfl) (by simp) ?_
          refine (AllReady.cons rfl (fun K hK => ?_) AllReady.nil)
          · go_simp
            refine hK _ _ ?_
            clear hK K
            try simp only [Act.put, List.setIfInBounds_toArray, List.set_cons_zero, List.set_cons_succ]
            refine wpAny_ready (rs := [13]) (by kernel_rfl) (by simp) ?_
            refine (AllReady.cons rfl (fun K hK => ?_) AllReady.nil)
            · go_simp
              with_reducible refine (HS2.out _ _ (by ((with_reducible repeat (first | exact Chg.refl _ _ | refine Chg.drew ?_ | refine Chg.alloc ?_ _ | refine Chg.then_new ?_ HN_T.out | refine Chg.then_new ?_ HN_S.out | refine Chg.then_new ?_ HN_L.out)); fail_if_success (have := True.intro))) (by ((with_reducible repeat (first | exact Has.new_at _ _ _ _ rfl | exact Has.new_at _ _ _ _ (World.size_alloc _ _) | refine Has.drew ?_ | refine Has.keep ?_ HN_T.out | refine Has.keep ?_ HN_S.out | refine Has.keep ?_ HN_L.out | refine Has.alloc ?_ _)); fail_if_success (have := True.intro)))).mono ?_
              rintro e wT ⟨AT, cT, rfl, hOT, hNT⟩
              have HO_T := Lib.hid hOT
              have HN_T := Lib.hid hNT
              clear hOT hNT
              refine hK _ _ ?_
              clear hK K
              try simp only [Act.put, List.setIfInBounds_toArray, List.set_cons_zero, List.set_cons_succ]
              refine take_at (i := 14) (d := 73) (v := .agg #[.int .i64 0, .slice AT 32 cT]) rfl rfl (by kernel_rfl) (by kernel_rfl) (by kernel_rfl) (fun _ _ _ h => h) (Or.inl ⟨by go_simp, fun _ => by go_simp⟩) ?_
              simp only [List.setIfInBounds_toArray, List.set_cons_zero, List.set_cons_succ]
              refine wpAny_ready (rs := [15]) (by kernel_rfl) (by simp) ?_
              refine (AllReady.cons rfl (fun K hK => ?_) AllReady.nil)
              · go_simp
                refine hK _ _ ?_
                clear hK K
                try simp only [Act.put, List.setIfInBounds_toArray, List.set_cons_zero, List.set_cons_succ]
                refine take_at (i := 16) (d := 9) (v := .slice (some ⟨wT.heap.size, 0, none⟩) 3 3) rfl rfl (by kernel_rfl) (by kernel_rfl) (by kernel_rfl) (fun _ _ _ h => h) (Or.inl ⟨by go_simp, fun _ => by go_simp⟩) ?_
                simp only [List.setIfInBounds_toArray, List.set_cons_zero, List.set_cons_succ]
                refine wpAny_done (by kernel_rfl) ?_ _
                clear f0 f0' f1 f2 f3 f4 f5 f9 hmk
                go_wp2_with fail
                go_meet
                case rel => exact FmX.mk (by ((with_reducible repeat (first | exact Has.new_at _ _ _ _ rfl | exact Has.new_at _ _ _ _ (World.size_alloc _ _) | refine Has.drew ?_)); fail_if_success (have := True.intro))) (by ((with_reducible repeat (first | exact Has.new_at _ _ _ _ rfl | exact Has.new_at _ _ _ _ (World.size_alloc _ _) | refine Has.drew ?_ | refine Has.keep ?_ HN_T.out | refine Has.keep ?_ HN_S.out | refine Has.keep ?_ HN_L.out | refine Has.alloc ?_ _)); fail_if_success (have := True.intro))) (by ((with_reducible repeat (first | exact HO_L.out | exact HO_S.out | exact HO_T.out | refine own_new ?_ (Chg.alloc (Chg.refl _ _) _) | refine own_new ?_ (Chg.drew (Chg.refl _ _)) | refine own_new ?_ HN_T.out | refine own_new ?_ HN_S.out | refine own_new ?_ HN_L.out)); fail_if_success (have := True.intro))) (by ((with_reducible repeat (first | exact HO_L.out | exact HO_S.out | exact HO_T.out | refine own_new ?_ (Chg.alloc (Chg.refl _ _) _) | refine own_new ?_ (Chg.drew (Chg.refl _ _)) | refine own_new ?_ HN_T.out | refine own_new ?_ HN_S.out | refine own_new ?_ HN_L.out)); fail_if_success (have := True.intro))) (by ((with_reducible repeat (first | exact Chg.refl _ _ | refine Chg.drew ?_ | refine Chg.alloc ?_ _ | refine Chg.then_new ?_ HN_T.out | refine Chg.then_new ?_ HN_S.out | refine Chg.then_new ?_ HN_L.out)); fail_if_success (have := True.intro)))
        · go_simp
          refine hK _ _ ?_
          clear hK K
          try simp only [Act.put, List.setIfInBounds_toArray, List.set_cons_zero, List.set_cons_succ]
          refine wpAny_ready (rs := [1]) (by kernel_rfl) (by simp) ?_
          refine (AllReady.cons rfl (fun K hK => ?_) AllReady.nil)
          · go_simp
            with_reducible refine (HS1.out _ AL cL (by ((with_reducible repeat (first | exact Chg.refl _ _ | refine Chg.drew ?_ | refine Chg.alloc ?_ _ | refine Chg.then_new ?_ HN_T.out | refine Chg.then_new ?_ HN_S.out | refine Chg.then_new ?_ HN_L.out)); fail_if_success (have := True.intro))) (by ((with_reducible repeat (first | exact HO_L.out | exact HO_S.out | exact HO_T.out | refine own_new ?_ (Chg.alloc (Chg.refl _ _) _) | refine own_new ?_ (Chg.drew (Chg.refl _ _)) | refine own_new ?_ HN_T.out | refine own_new ?_ HN_S.out | refine own_new ?_ HN_L.out)); fail_if_success (have := True.intro)))).mono ?_
            rintro e wS ⟨AS, cS, rfl, hOS, hNS⟩
            have HO_S := Lib.hid hOS
            have HN_S := Lib.hid hNS
            clear hOS hNS
            refine hK _ _ ?_
            clear hK K
            try simp only [Act.put, List.setIfInBounds_toArray, List.set_cons_zero, List.set_cons_succ]
            refine take_at (i := 2) (d := 61) (v := .agg #[.int .i64 1, .slice AS 32 cS]) rfl rfl (by kernel_rfl) (by kernel_rfl) (by kernel_rfl) (fun _ _ _ h => h) (Or.inl ⟨by go_simp, fun _ => by go_simp⟩) ?_
            simp only [List.setIfInBounds_toArray, List.set_cons_zero, List.set_cons_succ]
            refine wpAny_ready (rs := [13]) (by kernel_rfl) (by simp) ?_
            refine (AllReady.cons rfl (fun K hK => ?_) AllReady.nil)
            · go_simp
              with_reducible refine (HS2.out _ _ (by ((with_reducible repeat (first | exact Chg.refl _ _ | refine Chg.drew ?_ | refine Chg.alloc ?_ _ | refine Chg.then_new ?_ HN_T.out | refine Chg.then_new ?_ HN_S.out | refine Chg.then_new ?_ HN_L.out)); fail_if_success (have := True.intro))) (by ((with_reducible repeat (first | exact Has.new_at _ _ _ _ rfl | exact Has.new_at _ _ _ _ (World.size_alloc _ _) | refine Has.drew ?_ | refine Has.keep ?_ HN_T.out | refine Has.keep ?_ HN_S.out | refine Has.keep ?_ HN_L.out | refine Has.alloc ?_ _)); fail_if_success (have := True.intro)))).mono ?_
              rintro e wT ⟨AT, cT, rfl, hOT, hNT⟩
              have HO_T := Lib.hid hOT
              have HN_T := Lib.hid hNT
              clear hOT hNT
              refine hK _ _ ?_
              clear hK K
              try simp only [Act.put, List.setIfInBounds_toArray, List.set_cons_zero, List.set_cons_succ]
              refine take_at (i := 14) (d := 73) (v := .agg #[.int .i64 0, .slice AT 32 cT]) rfl rfl (by kernel_rfl) (by kernel_rfl) (by kernel_rfl) (fun _ _ _ h => h) (Or.inl ⟨by go_simp, fun _ => by go_simp⟩) ?_
              simp only [List.setIfInBounds_toArray, List.set_cons_zero, List.set_cons_succ]
              refine wpAny_ready (rs := [15]) (by kernel_rfl) (by simp) ?_
              refine (AllReady.cons rfl (fun K hK => ?_) AllReady.nil)
              · go_simp
                refine hK _ _ ?_
                clear hK K
                try simp only [Act.put, List.setIfInBounds_toArray, List.set_cons_zero, List.set_cons_succ]
                refine take_at (i := 16) (d := 9) (v := .slice (some ⟨wT.heap.size, 0, none⟩) 3 3) rfl rfl (by kernel_rfl) (by kernel_rfl) (by kernel_rfl) (fun _ _ _ h => h) (Or.inl ⟨by go_simp, fun _ => by go_simp⟩) ?_
                simp only [List.setIfInBounds_toArray, List.set_cons_zero, List.set_cons_succ]
                refine wpAny_done (by kernel_rfl) ?_ _
                clear f0 f0' f1 f2 f3 f4 f5 f9 hmk
                go_wp2_with fail
                go_meet
                case rel => exact FmX.mk (by ((with_reducible repeat (first | exact Has.new_at _ _ _ _ rfl | exact Has.new_at _ _ _ _ (World.size_alloc _ _) | refine Has.drew ?_)); fail_if_success (have := True.intro))) (by ((with_reducible repeat (first | exact Has.new_at _ _ _ _ rfl | exact Has.new_at _ _ _ _ (World.size_alloc _ _) | refine Has.drew ?_ | refine Has.keep ?_ HN_T.out | refine Has.keep ?_ HN_S.out | refine Has.keep ?_ HN_L.out | refine Has.alloc ?_ _)); fail_if_success (have := True.intro))) (by ((with_reducible repeat (first | exact HO_L.out | exact HO_S.out | exact HO_T.out | refine own_new ?_ (Chg.alloc (Chg.refl _ _) _) | refine own_new ?_ (Chg.drew (Chg.refl _ _)) | refine own_new ?_ HN_T.out | refine own_new ?_ HN_S.out | refine own_new ?_ HN_L.out)); fail_if_success (have := True.intro))) (by ((with_reducible repeat (first | exact HO_L.out | exact HO_S.out | exact HO_T.out | refine own_new ?_ (Chg.alloc (Chg.refl _ _) _) | refine own_new ?_ (Chg.drew (Chg.refl _ _)) | refine own_new ?_ HN_T.out | refine own_new ?_ HN_S.out | refine own_new ?_ HN_L.out)); fail_if_success (have := True.intro))) (by ((with_reducible repeat (first | exact Chg.refl _ _ | refine Chg.drew ?_ | refine Chg.alloc ?_ _ | refine Chg.then_new ?_ HN_T.out | refine Chg.then_new ?_ HN_S.out | refine Chg.then_new ?_ HN_L.out)); fail_if_success (have := True.intro)))
      · go_simp
        refine hK _ _ ?_
        clear hK K
        try simp only [Act.put, List.setIfInBounds_toArray, List.set_cons_zero, List.set_cons_succ]
        refine wpAny_ready (rs := [0]) (by kernel_rfl) (by simp) ?_
        refine (AllReady.cons rfl (fun K hK => ?_) AllReady.nil)
        · go_simp
          with_reducible refine (HLi.out _ (by ((with_reducible repeat (first | exact Chg.refl _ _ | refine Chg.drew ?_ | refine Chg.alloc ?_ _ | refine Chg.then_new ?_ HN_T.out | refine Chg.then_new ?_ HN_S.out | refine Chg.then_new ?_ HN_L.out)); fail_if_success (have := True.intro)))).mono ?_
          rintro e wL ⟨AL, cL, rfl, hOL, hNL⟩
          have HO_L := Lib.hid hOL
          have HN_L := Lib.hid hNL
          clear hOL hNL
          refine hK _ _ ?_
          clear hK K
          try simp only [Act.put, List.setIfInBounds_toArray, List.set_cons_zero, List.set_cons_succ]
          refine wpAny_ready (rs := [1]) (by kernel_rfl) (by simp) ?_
          refine (AllReady.cons rfl (fun K hK => ?_) AllReady.nil)
          · go_simp
            with_reducible refine (HS1.out _ AL cL (by ((with_reducible repeat (first | exact Chg.refl _ _ | refine Chg.drew ?_ | refine Chg.alloc ?_ _ | refine Chg.then_new ?_ HN_T.out | refine Chg.then_new ?_ HN_S.out | refine Chg.then_new ?_ HN_L.out)); fail_if_success (have := True.intro))) (by ((with_reducible repeat (first | exact HO_L.out | exact HO_S.out | exact HO_T.out | refine own_new ?_ (Chg.alloc (Chg.refl _ _) _) | refine own_new ?_ (Chg.drew (Chg.refl _ _)) | refine own_new ?_ HN_T.out | refine own_new ?_ HN_S.out | refine own_new ?_ HN_L.out)); fail_if_success (have := True.intro)))).mono ?_
            rintro e wS ⟨AS, cS, rfl, hOS, hNS⟩
            have HO_S := Lib.hid hOS
            have HN_S := Lib.hid hNS
            clear hOS hNS
            refine hK _ _ ?_
            clear hK K
            try simp only [Act.put, List.setIfInBounds_toArray, List.set_cons_zero, List.set_cons_succ]
            refine take_at (i := 2) (d := 61) (v := .agg #[.int .i64 1, .slice AS 32 cS]) rfl rfl (by kernel_rfl) (by kernel_rfl) (by kernel_rfl) (fun _ _ _ h => h) (Or.inl ⟨by go_simp, fun _ => by go_simp⟩) ?_
            simp only [List.setIfInBounds_toArray, List.set_cons_zero, List.set_cons_succ]
            refine wpAny_ready (rs := [13]) (by kernel_rfl) (by simp) ?_
            refine (AllReady.cons rfl (fun K hK => ?_) AllReady.nil)
            · go_simp
              with_reducible refine (HS2.out _ _ (by ((with_reducible repeat (first | exact Chg.refl _ _ | refine Chg.drew ?_ | refine Chg.alloc ?_ _ | refine Chg.then_new ?_ HN_T.out | refine Chg.then_new ?_ HN_S.out | refine Chg.then_new ?_ HN_L.out)); fail_if_success (have := True.intro))) (by ((with_reducible repeat (first | exact Has.new_at _ _ _ _ rfl | exact Has.new_at _ _ _ _ (World.size_alloc _ _) | refine Has.drew ?_ | refine Has.keep ?_ HN_T.out | refine Has.keep ?_ HN_S.out | refine Has.keep ?_ HN_L.out | refine Has.alloc ?_ _)); fail_if_success (have := True.intro)))).mono ?_
              rintro e wT ⟨AT, cT, rfl, hOT, hNT⟩
              have HO_T := Lib.hid hOT
              have HN_T := Lib.hid hNT
              clear hOT hNT
              refine hK _ _ ?_
              clear hK K
              try simp only [Act.put, List.setIfInBounds_toArray, List.set_cons_zero, List.set_cons_succ]
              refine take_at (i := 14) (d := 73) (v := .agg #[.int .i64 0, .slice AT 32 cT]) rfl rfl (by kernel_rfl) (by kernel_rfl) (by kernel_rfl) (fun _ _ _ h => h) (Or.inl ⟨by go_simp, fun _ => by go_simp⟩) ?_
              simp only [List.setIfInBounds_toArray, List.set_cons_zero, List.set_cons_succ]
              refine wpAny_ready (rs := [15]) (by kernel_rfl) (by simp) ?_
              refine (AllReady.cons rfl (fun K hK => ?_) AllReady.nil)
              · go_simp
                refine hK _ _ ?_
                clear hK K
                try simp only [Act.put, List.setIfInBounds_toArray, List.set_cons_zero, List.set_cons_succ]
                refine take_at (i := 16) (d := 9) (v := .slice (some ⟨wT.heap.size, 0, none⟩) 3 3) rfl rfl (by kernel_rfl) (by kernel_rfl) (by kernel_rfl) (fun _ _ _ h => h) (Or.inl ⟨by go_simp, fun _ => by go_simp⟩) ?_
                simp only [List.setIfInBounds_toArray, List.set_cons_zero, List.set_cons_succ]
                refine wpAny_done (by kernel_rfl) ?_ _
                clear f0 f0' f1 f2 f3 f4 f5 f9 hmk
                go_wp2_with fail
                go_meet
                case rel => exact FmX.mk (by ((with_reducible repeat (first | exact Has.new_at _ _ _ _ rfl | exact Has.new_at _ _ _ _ (World.size_alloc _ _) | refine Has.drew ?_)); fail_if_success (have := True.intro))) (by ((with_reducible repeat (first | exact Has.new_at _ _ _ _ rfl | exact Has.new_at _ _ _ _ (World.size_alloc _ _) | refine Has.drew ?_ | refine Has.keep ?_ HN_T.out | refine Has.keep ?_ HN_S.out | refine Has.keep ?_ HN_L.out | refine Has.alloc ?_ _)); fail_if_success (have := True.intro))) (by ((with_reducible repeat (first | exact HO_L.out | exact HO_S.out | exact HO_T.out | refine own_new ?_ (Chg.alloc (Chg.refl _ _) _) | refine own_new ?_ (Chg.drew (Chg.refl _ _)) | refine own_new ?_ HN_T.out | refine own_new ?_ HN_S.out | refine own_new ?_ HN_L.out)); fail_if_success (have := True.intro))) (by ((with_reducible repeat (first | exact HO_L.out | exact HO_S.out | exact HO_T.out | refine own_new ?_ (Chg.alloc (Chg.refl _ _) _) | refine own_new ?_ (Chg.drew (Chg.refl _ _)) | refine own_new ?_ HN_T.out | refine own_new ?_ HN_S.out | refine own_new ?_ HN_L.out)); fail_if_success (have := True.intro))) (by ((with_reducible repeat (first | exact Chg.refl _ _ | refine Chg.drew ?_ | refine Chg.alloc ?_ _ | refine Chg.then_new ?_ HN_T.out | refine Chg.then_new ?_ HN_S.out | refine Chg.then_new ?_ HN_L.out)); fail_if_success (have := True.intro)))
    · go_simp
      refine hK _ _ ?_
      clear hK K
      try simp only [Act.put, List.setIfInBounds_toArray, List.set_cons_zero, List.set_cons_succ]
      refine wpAny_ready (rs := [0, 3]) (by kernel_rfl) (by simp) ?_
      refine (AllReady.cons rfl (fun K hK => ?_) (AllReady.cons rfl (fun K hK => ?_) AllReady.nil))
      · go_simp
        with_reducible refine (HLi.out _ (by ((with_reducible repeat (first | exact Chg.refl _ _ | refine Chg.drew ?_ | refine Chg.alloc ?_ _ | refine Chg.then_new ?_ HN_T.out | refine Chg.then_new ?_ HN_S.out | refine Chg.then_new ?_ HN_L.out)); fail_if_success (have := True.intro)))).mono ?_
        rintro e wL ⟨AL, cL, rfl, hOL, hNL⟩
        have HO_L := Lib.hid hOL
        have HN_L := Lib.hid hNL
        clear hOL hNL
        refine hK _ _ ?_
        clear hK K
        try simp only [Act.put, List.setIfInBounds_toArray, List.set_cons_zero, List.set_cons_succ]
        refine wpAny_ready (rs := [1, 3]) (by kernel_rfl) (by simp) ?_
        refine (AllReady.cons rfl (fun K hK => ?_) (AllReady.cons rfl (fun K hK => ?_) AllReady.nil))
        · go_simp
          with_reducible refine (HS1.out _ AL cL (by ((with_reducible repeat (first | exact Chg.refl _ _ | refine Chg.drew ?_ | refine Chg.alloc ?_ _ | refine Chg.then_new ?_ HN_T.out | refine Chg.then_new ?_ HN_S.out | refine Chg.then_new ?_ HN_L.out)); fail_if_success (have := True.intro))) (by ((with_reducible repeat (first | exact HO_L.out | exact HO_S.out | exact HO_T.out | refine own_new ?_ (Chg.alloc (Chg.refl _ _) _) | refine own_new ?_ (Chg.drew (Chg.refl _ _)) | refine own_new ?_ HN_T.out | refine own_new ?_ HN_S.out | refine own_new ?_ HN_L.out)); fail_if_success (have := True.intro)))).mono ?_
          rintro e wS ⟨AS, cS, rfl, hOS, hNS⟩
          have HO_S := Lib.hid hOS
          have HN_S := Lib.hid hNS
          clear hOS hNS
          refine hK _ _ ?_
          clear hK K
          try simp only [Act.put, List.setIfInBounds_toArray, List.set_cons_zero, List.set_cons_succ]
          refine take_at (i := 2) (d := 61) (v := .agg #[.int .i64 1, .slice AS 32 cS]) rfl rfl (by kernel_rfl) (by kernel_rfl) (by kernel_rfl) (fun _ _ _ h => h) (Or.inl ⟨by go_simp, fun _ => by go_simp⟩) ?_
          simp only [List.setIfInBounds_toArray, List.set_cons_zero, List.set_cons_succ]
          refine wpAny_ready (rs := [3, 13]) (by kernel_rfl) (by simp) ?_
          refine (AllReady.cons rfl (fun K hK => ?_) (AllReady.cons rfl (fun K hK => ?_) AllReady.nil))
          · go_simp
            refine hK _ _ ?_
            clear hK K
            try simp only [Act.put, List.setIfInBounds_toArray, List.set_cons_zero, List.set_cons_succ]
            refine take_at (i := 4) (d := 63) (v := .agg #[.int .i64 2, .slice (some ⟨wS.heap.size, 0, none⟩) 32 32]) rfl rfl (by kernel_rfl) (by kernel_rfl) (by kernel_rfl) (fun _ _ _ h => h) (Or.inl ⟨by go_simp, fun _ => by go_simp⟩) ?_
            simp only [List.setIfInBounds_toArray, List.set_cons_zero, List.set_cons_succ]
            refine wpAny_ready (rs := [13]) (by kernel_rfl) (by simp) ?_
            refine (AllReady.cons rfl (fun K hK => ?_) AllReady.nil)
            · go_simp
              with_reducible refine (HS2.out _ _ (by ((with_reducible repeat (first | exact Chg.refl _ _ | refine Chg.drew ?_ | refine Chg.alloc ?_ _ | refine Chg.then_new ?_ HN_T.out | refine Chg.then_new ?_ HN_S.out | refine Chg.then_new ?_ HN_L.out)); fail_if_success (have := True.intro))) (by ((with_reducible repeat (first | exact Has.new_at _ _ _ _ rfl | exact Has.new_at _ _ _ _ (World.size_alloc _ _) | refine Has.drew ?_ | refine Has.keep ?_ HN_T.out | refine Has.keep ?_ HN_S.out | refine Has.keep ?_ HN_L.out | refine Has.alloc ?_ _)); fail_if_success (have := True.intro)))).mono ?_
              rintro e wT ⟨AT, cT, rfl, hOT, hNT⟩
              have HO_T := Lib.hid hOT
              have HN_T := Lib.hid hNT
              clear hOT hNT
              refine hK _ _ ?_
              clear hK K
              try simp only [Act.put, List.setIfInBounds_toArray, List.set_cons_zero, List.set_cons_succ]
              refine take_at (i := 14) (d := 73) (v := .agg #[.int .i64 0, .slice AT 32 cT]) rfl rfl (by kernel_rfl) (by kernel_rfl) (by kernel_rfl) (fun _ _ _ h => h) (Or.inl ⟨by go_simp, fun _ => by go_simp⟩) ?_
              simp only [List.setIfInBounds_toArray, List.set_cons_zero, List.set_cons_succ]
              refine wpAny_ready (rs := [15]) (by kernel_rfl) (by simp) ?_
              refine (AllReady.cons rfl (fun K hK => ?_) AllReady.nil)
              · go_simp
                refine hK _ _ ?_
                clear hK K
                try simp only [Act.put, List.setIfInBounds_toArray, List.set_cons_zero, List.set_cons_succ]
                refine take_at (i := 16) (d := 9) (v := .slice (some ⟨wT.heap.size, 0, none⟩) 3 3) rfl rfl (by kernel_rfl) (by kernel_rfl) (by kernel_rfl) (fun _ _ _ h => h) (Or.inl ⟨by go_simp, fun _ => by go_simp⟩) ?_
                simp only [List.setIfInBounds_toArray, List.set_cons_zero, List.set_cons_succ]
                refine wpAny_done (by kernel_rfl) ?_ _
                clear f0 f0' f1 f2 f3 f4 f5 f9 hmk
                go_wp2_with fail
                go_meet
                case rel => exact FmX.mk (by ((with_reducible repeat (first | exact Has.new_at _ _ _ _ rfl | exact Has.new_at _ _ _ _ (World.size_alloc _ _) | refine Has.drew ?_)); fail_if_success (have := True.intro))) (by ((with_reducible repeat (first | exact Has.new_at _ _ _ _ rfl | exact Has.new_at _ _ _ _ (World.size_alloc _ _) | refine Has.drew ?_ | refine Has.keep ?_ HN_T.out | refine Has.keep ?_ HN_S.out | refine Has.keep ?_ HN_L.out | refine Has.alloc ?_ _)); fail_if_success (have := True.intro))) (by ((with_reducible repeat (first | exact HO_L.out | exact HO_S.out | exact HO_T.out | refine own_new ?_ (Chg.alloc (Chg.refl _ _) _) | refine own_new ?_ (Chg.drew (Chg.refl _ _)) | refine own_new ?_ HN_T.out | refine own_new ?_ HN_S.out | refine own_new ?_ HN_L.out)); fail_if_success (have := True.intro))) (by ((with_reducible repeat (first | exact HO_L.out | exact HO_S.out | exact HO_T.out | refine own_new ?_ (Chg.alloc (Chg.refl _ _) _) | refine own_new ?_ (Chg.drew (Chg.refl _ _)) | refine own_new ?_ HN_T.out | refine own_new ?_ HN_S.out | refine own_new ?_ HN_L.out)); fail_if_success (have := True.intro))) (by ((with_reducible repeat (first | exact Chg.refl _ _ | refine Chg.drew ?_ | refine Chg.alloc ?_ _ | refine Chg.then_new ?_ HN_T.out | refine Chg.then_new ?_ HN_S.out | refine Chg.then_new ?_ HN_L.out)); fail_if_success (have := True.intro)))
          · go_simp
            with_reducible refine (HS2.out _ _ (by ((with_reducible repeat (first | exact Chg.refl _ _ | refine Chg.drew ?_ | refine Chg.alloc ?_ _ | refine Chg.then_new ?_ HN_T.out | refine Chg.then_new ?_ HN_S.out | refine Chg.then_new ?_ HN_L.out)); fail_if_success (have := True.intro))) (by ((with_reducible repeat (first | exact Has.new_at _ _ _ _ rfl | exact Has.new_at _ _ _ _ (World.size_alloc _ _) | refine Has.drew ?_ | refine Has.keep ?_ HN_T.out | refine Has.keep ?_ HN_S.out | refine Has.keep ?_ HN_L.out | refine Has.alloc ?_ _)); fail_if_success (have := True.intro)))).mono ?_
            rintro e wT ⟨AT, cT, rfl, hOT, hNT⟩
            have HO_T := Lib.hid hOT
            have HN_T := Lib.hid hNT
            clear hOT hNT
            refine hK _ _ ?_
            clear hK K
            try simp only [Act.put, List.setIfInBounds_toArray, List.set_cons_zero, List.set_cons_succ]
            refine take_at (i := 14) (d := 73) (v := .agg #[.int .i64 0, .slice AT 32 cT]) rfl rfl (by kernel_rfl) (by kernel_rfl) (by kernel_rfl) (fun _ _ _ h => h) (Or.inl ⟨by go_simp, fun _ => by go_simp⟩) ?_
            simp only [List.setIfInBounds_toArray, List.set_cons_zero, List.set_cons_succ]
            refine wpAny_ready (rs := [3]) (by kernel_rfl) (by simp) ?_
            refine (AllReady.cons rfl (fun K hK => ?_) AllReady.nil)
            · go_simp
              refine hK _ _ ?_
              clear hK K
              try simp only [Act.put, List.setIfInBounds_toArray, List.set_cons_zero, List.set_cons_succ]
              refine take_at (i := 4) (d := 63) (v := .agg #[.int .i64 2, .slice (some ⟨wT.heap.size, 0, none⟩) 32 32]) rfl rfl (by kernel_rfl) (by kernel_rfl) (by kernel_rfl) (fun _ _ _ h => h) (Or.inl ⟨by go_simp, fun _ => by go_simp⟩) ?_
              simp only [List.setIfInBounds_toArray, List.set_cons_zero, List.set_cons_succ]
              refine wpAny_ready (rs := [15]) (by kernel_rfl) (by simp) ?_
              refine (AllReady.cons rfl (fun K hK => ?_) AllReady.nil)
              · go_simp
                refine hK _ _ ?_
                clear hK K
                try simp only [Act.put, List.setIfInBounds_toArray, List.set_cons_zero, List.set_cons_succ]
                refine take_at (i := 16) (d := 9) (v := .slice (some ⟨wT.heap.size + 1, 0, none⟩) 3 3) rfl rfl (by kernel_rfl) (by kernel_rfl) (by kernel_rfl) (fun _ _ _ h => h) (Or.inl ⟨by go_simp, fun _ => by go_simp⟩) ?_
                simp only [List.setIfInBounds_toArray, List.set_cons_zero, List.set_cons_succ]
                refine wpAny_done (by kernel_rfl) ?_ _
                clear f0 f0' f1 f2 f3 f4 f5 f9 hmk
                go_wp2_with fail
                go_meet
                case rel => exact FmX.mk (by ((with_reducible repeat (first | exact Has.new_at _ _ _ _ rfl | exact Has.new_at _ _ _ _ (World.size_alloc _ _) | refine Has.drew ?_)); fail_if_success (have := True.intro))) (by ((with_reducible repeat (first | exact Has.new_at _ _ _ _ rfl | exact Has.new_at _ _ _ _ (World.size_alloc _ _) | refine Has.drew ?_ | refine Has.keep ?_ HN_T.out | refine Has.keep ?_ HN_S.out | refine Has.keep ?_ HN_L.out | refine Has.alloc ?_ _)); fail_if_success (have := True.intro))) (by ((with_reducible repeat (first | exact HO_L.out | exact HO_S.out | exact HO_T.out | refine own_new ?_ (Chg.alloc (Chg.refl _ _) _) | refine own_new ?_ (Chg.drew (Chg.refl _ _)) | refine own_new ?_ HN_T.out | refine own_new ?_ HN_S.out | refine own_new ?_ HN_L.out)); fail_if_success (have := True.intro))) (by ((with_reducible repeat (first | exact HO_L.out | exact HO_S.out | exact HO_T.out | refine own_new ?_ (Chg.alloc (Chg.refl _ _) _) | refine own_new ?_ (Chg.drew (Chg.refl _ _)) | refine own_new ?_ HN_T.out | refine own_new ?_ HN_S.out | refine own_new ?_ HN_L.out)); fail_if_success (have := True.intro))) (by ((with_reducible repeat (first | exact Chg.refl _ _ | refine Chg.drew ?_ | refine Chg.alloc ?_ _ | refine Chg.then_new ?_ HN_T.out | refine Chg.then_new ?_ HN_S.out | refine Chg.then_new ?_ HN_L.out)); fail_if_success (have := True.intro)))
        · go_simp
          refine hK _ _ ?_
          clear hK K
          try simp only [Act.put, List.setIfInBounds_toArray, List.set_cons_zero, List.set_cons_succ]
          refine take_at (i := 4) (d := 63) (v := .agg #[.int .i64 2, .slice (some ⟨wL.heap.size, 0, none⟩) 32 32]) rfl rfl (by kernel_rfl) (by kernel_rfl) (by kernel_rfl) (fun _ _ _ h => h) (Or.inl ⟨by go_simp, fun _ => by go_simp⟩) ?_
          simp only [List.setIfInBounds_toArray, List.set_cons_zero, List.set_cons_succ]
          refine wpAny_ready (rs := [1]) (by kernel_rfl) (by simp) ?_
          refine (AllReady.cons rfl (fun K hK => ?_) AllReady.nil)
          · go_simp
            with_reducible refine (HS1.out _ AL cL (by ((with_reducible repeat (first | exact Chg.refl _ _ | refine Chg.drew ?_ | refine Chg.alloc ?_ _ | refine Chg.then_new ?_ HN_T.out | refine Chg.then_new ?_ HN_S.out | refine Chg.then_new ?_ HN_L.out)); fail_if_success (have := True.intro))) (by ((with_reducible repeat (first | exact HO_L.out | exact HO_S.out | exact HO_T.out | refine own_new ?_ (Chg.alloc (Chg.refl _ _) _) | refine own_new ?_ (Chg.drew (Chg.refl _ _)) | refine own_new ?_ HN_T.out | refine own_new ?_ HN_S.out | refine own_new ?_ HN_L.out)); fail_if_success (have := True.intro)))).mono ?_
            rintro e wS ⟨AS, cS, rfl, hOS, hNS⟩
            have HO_S := Lib.hid hOS
            have HN_S := Lib.hid hNS
            clear hOS hNS
            refine hK _ _ ?_
            clear hK K
            try simp only [Act.put, List.setIfInBounds_toArray, List.set_cons_zero, List.set_cons_succ]
            refine take_at (i := 2) (d := 61) (v := .agg #[.int .i64 1, .slice AS 32 cS]) rfl rfl (by kernel_rfl) (by kernel_rfl) (by kernel_rfl) (fun _ _ _ h => h) (Or.inl ⟨by go_simp, fun _ => by go_simp⟩) ?_
            simp only [List.setIfInBounds_toArray, List.set_cons_zero, List.set_cons_succ]
            refine wpAny_ready (rs := [13]) (by kernel_rfl) (by simp) ?_
            refine (AllReady.cons rfl (fun K hK => ?_) AllReady.nil)
            · go_simp
              with_reducible refine (HS2.out _ _ (by ((with_reducible repeat (first | exact Chg.refl _ _ | refine Chg.drew ?_ | refine Chg.alloc ?_ _ | refine Chg.then_new ?_ HN_T.out | refine Chg.then_new ?_ HN_S.out | refine Chg.then_new ?_ HN_L.out)); fail_if_success (have := True.intro))) (by ((with_reducible repeat (first | exact Has.new_at _ _ _ _ rfl | exact Has.new_at _ _ _ _ (World.size_alloc _ _) | refine Has.drew ?_ | refine Has.keep ?_ HN_T.out | refine Has.keep ?_ HN_S.out | refine Has.keep ?_ HN_L.out | refine Has.alloc ?_ _)); fail_if_success (have := True.intro)))).mono ?_
              rintro e wT ⟨AT, cT, rfl, hOT, hNT⟩
              have HO_T := Lib.hid hOT
              have HN_T := Lib.hid hNT
              clear hOT hNT
              refine hK _ _ ?_
              clear hK K
              try simp only [Act.put, List.setIfInBounds_toArray, List.set_cons_zero, List.set_cons_succ]
              refine take_at (i := 14) (d := 73) (v := .agg #[.int .i64 0, .slice AT 32 cT]) rfl rfl (by kernel_rfl) (by kernel_rfl) (by kernel_rfl) (fun _ _ _ h => h) (Or.inl ⟨by go_simp, fun _ => by go_simp⟩) ?_
              simp only [List.setIfInBounds_toArray, List.set_cons_zero, List.set_cons_succ]
              refine wpAny_ready (rs := [15]) (by kernel_rfl) (by simp) ?_
              refine (AllReady.cons rfl (fun K hK => ?_) AllReady.nil)
              · go_simp
                refine hK _ _ ?_
                clear hK K
                try simp only [Act.put, List.setIfInBounds_toArray, List.set_cons_zero, List.set_cons_succ]
                refine take_at (i := 16) (d := 9) (v := .slice (some ⟨wT.heap.size, 0, none⟩) 3 3) rfl rfl (by kernel_rfl) (by kernel_rfl) (by kernel_rfl) (fun _ _ _ h => h) (Or.inl ⟨by go_simp, fun _ => by go_simp⟩) ?_
                simp only [List.setIfInBounds_toArray, List.set_cons_zero, List.set_cons_succ]
                refine wpAny_done (by kernel_rfl) ?_ _
                clear f0 f0' f1 f2 f3 f4 f5 f9 hmk
                go_wp2_with fail
                go_meet
                case rel => exact FmX.mk (by ((with_reducible repeat (first | exact Has.new_at _ _ _ _ rfl | exact Has.new_at _ _ _ _ (World.size_alloc _ _) | refine Has.drew ?_)); fail_if_success (have := True.intro))) (by ((with_reducible repeat (first | exact Has.new_at _ _ _ _ rfl | exact Has.new_at _ _ _ _ (World.size_alloc _ _) | refine Has.drew ?_ | refine Has.keep ?_ HN_T.out | refine Has.keep ?_ HN_S.out | refine Has.keep ?_ HN_L.out | refine Has.alloc ?_ _)); fail_if_success (have := True.intro))) (by ((with_reducible repeat (first | exact HO_L.out | exact HO_S.out | exact HO_T.out | refine own_new ?_ (Chg.alloc (Chg.refl _ _) _) | refine own_new ?_ (Chg.drew (Chg.refl _ _)) | refine own_new ?_ HN_T.out | refine own_new ?_ HN_S.out | refine own_new ?_ HN_L.out)); fail_if_success (have := True.intro))) (by ((with_reducible repeat (first | exact HO_L.out | exact HO_S.out | exact HO_T.out | refine own_new ?_ (Chg.alloc (Chg.refl _ _) _) | refine own_new ?_ (Chg.drew (Chg.refl _ _)) | refine own_new ?_ HN_T.out | refine own_new ?_ HN_S.out | refine own_new ?_ HN_L.out)); fail_if_success (have := True.intro))) (by ((with_reducible repeat (first | exact Chg.refl _ _ | refine Chg.drew ?_ | refine Chg.alloc ?_ _ | refine Chg.then_new ?_ HN_T.out | refine Chg.then_new ?_ HN_S.out | refine Chg.then_new ?_ HN_L.out)); fail_if_success (have := True.intro)))
      · go_simp
        refine hK _ _ ?_
        clear hK K
        try simp only [Act.put, List.setIfInBounds_toArray, List.set_cons_zero, List.set_cons_succ]
        refine take_at (i := 4) (d := 63) (v := .agg #[.int .i64 2, .slice (some ⟨w6.heap.size + 1, 0, none⟩) 32 32]) rfl rfl (by kernel_rfl) (by kernel_rfl) (by kernel_rfl) (fun _ _ _ h => h) (Or.inl ⟨by go_simp, fun _ => by go_simp⟩) ?_
        simp only [List.setIfInBounds_toArray, List.set_cons_zero, List.set_cons_succ]
        refine wpAny_ready (rs := [0]) (by kernel_rfl) (by simp) ?_
        refine (AllReady.cons rfl (fun K hK => ?_) AllReady.nil)
        · go_simp
          with_reducible refine (HLi.out _ (by ((with_reducible repeat (first | exact Chg.refl _ _ | refine Chg.drew ?_ | refine Chg.alloc ?_ _ | refine Chg.then_new ?_ HN_T.out | refine Chg.then_new ?_ HN_S.out | refine Chg.then_new ?_ HN_L.out)); fail_if_success (have := True.intro)))).mono ?_
          rintro e wL ⟨AL, cL, rfl, hOL, hNL⟩
          have HO_L := Lib.hid hOL
          have HN_L := Lib.hid hNL
          clear hOL hNL
          refine hK _ _ ?_
          clear hK K
          try simp only [Act.put, List.setIfInBounds_toArray, List.set_cons_zero, List.set_cons_succ]
          refine wpAny_ready (rs := [1]) (by kernel_rfl) (by simp) ?_
          refine (AllReady.cons rfl (fun K hK => ?_) AllReady.nil)
          · go_simp
            with_reducible refine (HS1.out _ AL cL (by ((with_reducible repeat (first | exact Chg.refl _ _ | refine Chg.drew ?_ | refine Chg.alloc ?_ _ | refine Chg.then_new ?_ HN_T.out | refine Chg.then_new ?_ HN_S.out | refine Chg.then_new ?_ HN_L.out)); fail_if_success (have := True.intro))) (by ((with_reducible repeat (first | exact HO_L.out | exact HO_S.out | exact HO_T.out | refine own_new ?_ (Chg.alloc (Chg.refl _ _) _) | refine own_new ?_ (Chg.drew (Chg.refl _ _)) | refine own_new ?_ HN_T.out | refine own_new ?_ HN_S.out | refine own_new ?_ HN_L.out)); fail_if_success (have := True.intro)))).mono ?_
            rintro e wS ⟨AS, cS, rfl, hOS, hNS⟩
            have HO_S := Lib.hid hOS
            have HN_S := Lib.hid hNS
            clear hOS hNS
            refine hK _ _ ?_
            clear hK K
            try simp only [Act.put, List.setIfInBounds_toArray, List.set_cons_zero, List.set_cons_succ]
            refine take_at (i := 2) (d := 61) (v := .agg #[.int .i64 1, .slice AS 32 cS]) rfl rfl (by kernel_rfl) (by kernel_rfl) (by kernel_rfl) (fun _ _ _ h => h) (Or.inl ⟨by go_simp, fun _ => by go_simp⟩) ?_
            simp only [List.setIfInBounds_toArray, List.set_cons_zero, List.set_cons_succ]
            refine wpAny_ready (rs := [13]) (by kernel_rfl) (by simp) ?_
            refine (AllReady.cons rfl (fun K hK => ?_) AllReady.nil)
            · go_simp
              with_reducible refine (HS2.out _ _ (by ((with_reducible repeat (first | exact Chg.refl _ _ | refine Chg.drew ?_ | refine Chg.alloc ?_ _ | refine Chg.then_new ?_ HN_T.out | refine Chg.then_new ?_ HN_S.out | refine Chg.then_new ?_ HN_L.out)); fail_if_success (have := True.intro))) (by ((with_reducible repeat (first | exact Has.new_at _ _ _ _ rfl | exact Has.new_at _ _ _ _ (World.size_alloc _ _) | refine Has.drew ?_ | refine Has.keep ?_ HN_T.out | refine Has.keep ?_ HN_S.out | refine Has.keep ?_ HN_L.out | refine Has.alloc ?_ _)); fail_if_success (have := True.intro)))).mono ?_
              rintro e wT ⟨AT, cT, rfl, hOT, hNT⟩
              have HO_T := Lib.hid hOT
              have HN_T := Lib.hid hNT
              clear hOT hNT
              refine hK _ _ ?_
              clear hK K
              try simp only [Act.put, List.setIfInBounds_toArray, List.set_cons_zero, List.set_cons_succ]
              refine take_at (i := 14) (d := 73) (v := .agg #[.int .i64 0, .slice AT 32 cT]) rfl rfl (by kernel_rfl) (by kernel_rfl) (by kernel_rfl) (fun _ _ _ h => h) (Or.inl ⟨by go_simp, fun _ => by go_simp⟩) ?_
              simp only [List.setIfInBounds_toArray, List.set_cons_zero, List.set_cons_succ]
              refine wpAny_ready (rs := [15]) (by kernel_rfl) (by simp) ?_
              refine (AllReady.cons rfl (fun K hK => ?_) AllReady.nil)
              · go_simp
                refine hK _ _ ?_
                clear hK K
                try simp only [Act.put, List.setIfInBounds_toArray, List.set_cons_zero, List.set_cons_succ]
                refine take_at (i := 16) (d := 9) (v := .slice (some ⟨wT.heap.size, 0, none⟩) 3 3) rfl rfl (by kernel_rfl) (by kernel_rfl) (by kernel_rfl) (fun _ _ _ h => h) (Or.inl ⟨by go_simp, fun _ => by go_simp⟩) ?_
                simp only [List.setIfInBounds_toArray, List.set_cons_zero, List.set_cons_succ]
                refine wpAny_done (by kernel_rfl) ?_ _
                clear f0 f0' f1 f2 f3 f4 f5 f9 hmk
                go_wp2_with fail
                go_meet
                case rel => exact FmX.mk (by ((with_reducible repeat (first | exact Has.new_at _ _ _ _ rfl | exact Has.new_at _ _ _ _ (World.size_alloc _ _) | refine Has.drew ?_)); fail_if_success (have := True.intro))) (by ((with_reducible repeat (first | exact Has.new_at _ _ _ _ rfl | exact Has.new_at _ _ _ _ (World.size_alloc _ _) | refine Has.drew ?_ | refine Has.keep ?_ HN_T.out | refine Has.keep ?_ HN_S.out | refine Has.keep ?_ HN_L.out | refine Has.alloc ?_ _)); fail_if_success (have := True.intro))) (by ((with_reducible repeat (first | exact HO_L.out | exact HO_S.out | exact HO_T.out | refine own_new ?_ (Chg.alloc (Chg.refl _ _) _) | refine own_new ?_ (Chg.drew (Chg.refl _ _)) | refine own_new ?_ HN_T.out | refine own_new ?_ HN_S.out | refine own_new ?_ HN_L.out)); fail_if_success (have := True.intro))) (by ((with_reducible repeat (first | exact HO_L.out | exact HO_S.out | exact HO_T.out | refine own_new ?_ (Chg.alloc (Chg.refl _ _) _) | refine own_new ?_ (Chg.drew (Chg.refl _ _)) | refine own_new ?_ HN_T.out | refine own_new ?_ HN_S.out | refine own_new ?_ HN_L.out)); fail_if_success (have := True.intro))) (by ((with_reducible repeat (first | exact Chg.refl _ _ | refine Chg.drew ?_ | refine Chg.alloc ?_ _ | refine Chg.then_new ?_ HN_T.out | refine Chg.then_new ?_ HN_S.out | refine Chg.then_new ?_ HN_L.out)); fail_if_success (have := True.intro)))
  case rest =>
  clear f0 f0' f1 f2 f3 f4 f5 f9 hmk HLi HS1 HS2
  obtain ⟨w7, rfl⟩ : ∃ w7, w7 = wc := ⟨_, rfl⟩
  obtain ⟨b, f, S, T, sc, tc, rfl, hb7, hf7, hS7, hT7, hN7⟩ := hcut
  have hR7 : Row w7 f (zs 32) := by have h := hf7; rw [HZr.out] at h; exact h
  have HRw : Hid (Rws w7 (· < w7.heap.size) (some ⟨b, 0, none⟩) (fmR id u)) := (Rws.form hb7 (zs_len 32) hR7 (sector_len _) hS7 (sector_len _) hT7).monoF (fun k hk => by
    rcases hk with hk | hk | hk | hk
    · exact (hS7.lt k hk).2
    · exact (hT7.lt k hk).2
    · rw [hk]; exact hb7.lt
    · rw [hk]; exact hR7.lt)
  have HC7 := Lib.hid (HC6.out.new hN7)
  have HN7 := Lib.hid (HN6.out.then_new hN7)
  clear hb7 hf7 hS7 hT7 hN7 hR7 HZr Hsb HC4 HC5 HN3 HN4 HN5
  obtain ⟨D, hD⟩ : ∃ D, D = doneI P (fmR id u) N := ⟨_, rfl⟩
  have HIm : Hid (∀ wx, New w7 wx → Calls Try.prog 20 #[.pointer (some ⟨g, 0, none⟩)] wx fun e w' => ∃ A c, e = .returned (.slice A 512 c) ∧ w'.ownsRow wx.heap.size 5 1 (.slice A 512 c) 512 (D.map bV) ∧ New wx w') := fun wx hx => by rw [hD]; exact Image_any g _ _ wx (HC7.out.new hx)
  have HDn : Hid (∀ (wx : World) (bI : Nat) (M : Int), M = (N : Int) → New w7 wx → Row wx bI P → Calls Try.prog 25 #[.slice (some ⟨bI, 0, none⟩) 512 512, .slice (some ⟨b, 0, none⟩) 3 3, .int .i64 M] wx fun e w' => ∃ A c, e = .returned (.slice A 512 c) ∧ w'.ownsRow wx.heap.size 5 1 (.slice A 512 c) 512 (D.map bV) ∧ New wx w') := fun wx bI M hM hx hR => by
    rw [hD, hM]
    exact rDone_any (some ⟨bI, 0, none⟩) 512 (some ⟨b, 0, none⟩) 3 3 N (· < wx.heap.size) P (fmR id u) wx ((hR.arr HPl.out).mono fun k hk => by rw [hk]; exact hR.lt) (fun h => by cases h) (fun k hk => hk) HPl.out HPs.out ((HRw.out.new hx (fun k hk => hk)).monoF fun k hk => Nat.lt_of_lt_of_le hk hx.size) rfl (by omega) (fmR_fine hi1.2 (by omega))
  have HDe := Lib.hid hD
  clear hD
  have HPW := HPw.out
  rcases HEN.out with ⟨h1, h2, h3, h4⟩ | ⟨h1, h2, h3⟩
  case inl => exact absurd h1 (by omega)
  case inr =>
   subst h2 h3
   have t1 : decide (0 ≤ pw) = true := decide_eq_true (by omega)
   have t2 : decide (pw < 3) = false := decide_eq_false (by omega)
   clear HPW
   clear h1 HEN
   all_goals
    go_upto_region 15 with (fail)
    go_cut [106] (fun s106 wx => s106 = .bool false ∧ New w7 wx)
    case first =>
      refine wp_region_any (by kernel_rfl) ?_
      change wpAny _ _ _ _ _ _ _ (World.drew _)
      refine take_at (i := 0) (d := 82) (v := .pointer (some ⟨g, 0, none⟩)) rfl rfl (by kernel_rfl) (by kernel_rfl) (by kernel_rfl) (fun _ _ _ h => h) (Or.inl ⟨by go_simp, fun _ => by go_simp⟩) ?_
      simp only [List.setIfInBounds_toArray, List.set_cons_zero, List.set_cons_succ]
      refine take_at (i := 3) (d := 85) (v := .slice A n c) rfl rfl (by kernel_rfl) (by kernel_rfl) (by kernel_rfl) (fun _ _ _ h => h) (Or.inl ⟨by go_simp, fun _ => by go_simp⟩) ?_
      simp only [List.setIfInBounds_toArray, List.set_cons_zero, List.set_cons_succ]
      refine take_at (i := 5) (d := 87) (v := .slice (some ⟨b, 0, none⟩) 3 3) rfl rfl (by kernel_rfl) (by kernel_rfl) (by kernel_rfl) (fun _ _ _ h => h) (Or.inl ⟨by go_simp, fun _ => by go_simp⟩) ?_
      simp only [List.setIfInBounds_toArray, List.set_cons_zero, List.set_cons_succ]
      refine take_at (i := 6) (d := 88) (v := .int .i64 3) rfl rfl (by kernel_rfl) (by kernel_rfl) (by kernel_rfl) (fun _ _ _ h => h) (Or.inl ⟨by go_simp, fun _ => by go_simp⟩) ?_
      simp only [List.setIfInBounds_toArray, List.set_cons_zero, List.set_cons_succ]
      refine wpAny_ready (rs := [1]) (by kernel_rfl) (by simp) ?_
      refine (AllReady.cons rfl (fun K hK => ?_) AllReady.nil)
      · go_simp
        with_reducible refine (HIm.out _ (by ((with_reducible repeat (first | exact Chg.refl _ _ | refine Chg.drew ?_ | refine Chg.alloc ?_ _ | refine Chg.then_new ?_ HN_D.out | refine Chg.then_new ?_ HN_I.out | refine Chg.then_new ?_ HN_G.out)); fail_if_success (have := True.intro)))).mono ?_
        rintro e wG ⟨AG, cG, rfl, hOG, hNG⟩
        have hsG := own_str hOG
        have HOG := Lib.hid hOG
        have HN_G := Lib.hid hNG
        clear hOG hNG
        refine hK _ _ ?_
        clear hK K
        try simp only [Act.put, List.setIfInBounds_toArray, List.set_cons_zero, List.set_cons_succ]
        refine wpAny_ready (rs := [2, 4]) (by kernel_rfl) (by simp) ?_
        refine (AllReady.cons rfl (fun K hK => ?_) (AllReady.cons rfl (fun K hK => ?_) AllReady.nil))
        · go_simp
          refine hK _ _ ?_
          clear hK K
          try simp only [Act.put, List.setIfInBounds_toArray, List.set_cons_zero, List.set_cons_succ]
          refine wpAny_ready (rs := [4]) (by kernel_rfl) (by simp) ?_
          refine (AllReady.cons rfl (fun K hK => ?_) AllReady.nil)
          · go_simp
            with_reducible refine (HIg.out _ (HN7.out.then_new (by ((with_reducible repeat (first | exact Chg.refl _ _ | refine Chg.drew ?_ | refine Chg.alloc ?_ _ | refine Chg.then_new ?_ HN_D.out | refine Chg.then_new ?_ HN_I.out | refine Chg.then_new ?_ HN_G.out)); fail_if_success (have := True.intro))))).mono ?_
            rintro e wI ⟨bI, rfl, hRI, hNI⟩
            have hsK := own_str (own_new HOG.out hNI)
            have HOGI := Lib.hid (own_new HOG.out hNI)
            have HRI := Lib.hid hRI
            have HN_I := Lib.hid hNI
            clear hRI hNI
            refine hK _ _ ?_
            clear hK K
            try simp only [Act.put, List.setIfInBounds_toArray, List.set_cons_zero, List.set_cons_succ]
            refine wpAny_ready (rs := [7]) (by kernel_rfl) (by simp) ?_
            refine (AllReady.cons rfl (fun K hK => ?_) AllReady.nil)
            · go_simp
              with_reducible refine (HDn.out wI bI _ (by first | rfl | decide) (by ((with_reducible repeat (first | exact Chg.refl _ _ | refine Chg.drew ?_ | refine Chg.alloc ?_ _ | refine Chg.then_new ?_ HN_D.out | refine Chg.then_new ?_ HN_I.out | refine Chg.then_new ?_ HN_G.out)); fail_if_success (have := True.intro))) HRI.out).mono ?_
              rintro e wD ⟨AD, cD, rfl, hOD, hND⟩
              have hsD := own_str hOD
              have hsL := own_str (own_new HOGI.out hND)
              have HOD := Lib.hid hOD
              have HN_D := Lib.hid hND
              clear hOD hND
              refine hK _ _ ?_
              clear hK K
              try simp only [Act.put, List.setIfInBounds_toArray, List.set_cons_zero, List.set_cons_succ]
              refine wpAny_ready (rs := [8]) (by kernel_rfl) (by simp) ?_
              refine (AllReady.cons rfl (fun K hK => ?_) AllReady.nil)
              · go_simp
                refine hK _ _ ?_
                clear hK K
                try simp only [Act.put, List.setIfInBounds_toArray, List.set_cons_zero, List.set_cons_succ]
                refine take_at (i := 9) (d := 91) (v := .bool false) rfl rfl (by kernel_rfl) (by kernel_rfl) (by kernel_rfl) (fun _ _ _ h => h) (Or.inl ⟨by go_simp, fun _ => by go_simp⟩) ?_
                simp only [List.setIfInBounds_toArray, List.set_cons_zero, List.set_cons_succ]
                refine take_at (i := 10) (d := 92) (v := .bool false) rfl rfl (by kernel_rfl) (by kernel_rfl) (by kernel_rfl) (fun _ _ _ h => h) (Or.inl ⟨by go_simp, fun _ => by go_simp⟩) ?_
                simp only [List.setIfInBounds_toArray, List.set_cons_zero, List.set_cons_succ]
                refine take_at (i := 11) (d := 93) (v := .int .i64 0) rfl rfl (by kernel_rfl) (by kernel_rfl) (by kernel_rfl) (fun _ _ _ h => h) (Or.inl ⟨by go_simp, fun _ => by go_simp⟩) ?_
                simp only [List.setIfInBounds_toArray, List.set_cons_zero, List.set_cons_succ]
                refine take_at (i := 12) (d := 94) (v := .bool true) rfl rfl (by kernel_rfl) (by kernel_rfl) (by kernel_rfl) (fun _ _ _ h => h) (Or.inl ⟨by go_simp, fun _ => by go_simp⟩) ?_
                simp only [List.setIfInBounds_toArray, List.set_cons_zero, List.set_cons_succ]
                refine take_at (i := 13) (d := 95) (v := .int .i64 3) rfl rfl (by kernel_rfl) (by kernel_rfl) (by kernel_rfl) (fun _ _ _ h => h) (Or.inl ⟨by go_simp, fun _ => by go_simp⟩) ?_
                simp only [List.setIfInBounds_toArray, List.set_cons_zero, List.set_cons_succ]
                refine take_at (i := 14) (d := 96) (v := .bool true) rfl rfl (by kernel_rfl) (by kernel_rfl) (by kernel_rfl) (fun _ _ _ h => h) (Or.inl ⟨by go_simp, fun _ => by go_simp⟩) ?_
                simp only [List.setIfInBounds_toArray, List.set_cons_zero, List.set_cons_succ]
                refine take_at (i := 15) (d := 97) (v := .bool false) rfl rfl (by kernel_rfl) (by kernel_rfl) (by kernel_rfl) (fun _ _ _ h => h) (Or.inl ⟨by go_simp, fun _ => by go_simp⟩) ?_
                simp only [List.setIfInBounds_toArray, List.set_cons_zero, List.set_cons_succ]
                refine take_at (i := 16) (d := 98) (v := .bool false) rfl rfl (by kernel_rfl) (by kernel_rfl) (by kernel_rfl) (fun _ _ _ h => h) (Or.inl ⟨by go_simp, fun _ => by go_simp⟩) ?_
                simp only [List.setIfInBounds_toArray, List.set_cons_zero, List.set_cons_succ]
                refine take_at (i := 17) (d := 99) (v := .bool false) rfl rfl (by kernel_rfl) (by kernel_rfl) (by kernel_rfl) (fun _ _ _ h => h) (Or.inl ⟨by go_simp, fun _ => by go_simp⟩) ?_
                simp only [List.setIfInBounds_toArray, List.set_cons_zero, List.set_cons_succ]
                refine take_at (i := 18) (d := 100) (v := .int .i64 3) rfl rfl (by kernel_rfl) (by kernel_rfl) (by kernel_rfl) (fun _ _ _ h => h) (Or.inl ⟨by go_simp, fun _ => by go_simp⟩) ?_
                simp only [List.setIfInBounds_toArray, List.set_cons_zero, List.set_cons_succ]
                refine take_at (i := 19) (d := 101) (v := .bool false) rfl rfl (by kernel_rfl) (by kernel_rfl) (by kernel_rfl) (fun _ _ _ h => h) (Or.inl ⟨by go_simp, fun _ => by go_simp⟩) ?_
                simp only [List.setIfInBounds_toArray, List.set_cons_zero, List.set_cons_succ]
                refine take_at (i := 20) (d := 102) (v := .bool false) rfl rfl (by kernel_rfl) (by kernel_rfl) (by kernel_rfl) (fun _ _ _ h => h) (Or.inl ⟨by go_simp, fun _ => by go_simp⟩) ?_
                simp only [List.setIfInBounds_toArray, List.set_cons_zero, List.set_cons_succ]
                refine take_at (i := 21) (d := 103) (v := undef) rfl rfl (by kernel_rfl) (by kernel_rfl) (by kernel_rfl) (fun _ _ _ h => h) (Or.inr ⟨by go_simp, rfl⟩) ?_
                simp only [List.setIfInBounds_toArray, List.set_cons_zero, List.set_cons_succ]
                refine take_at (i := 22) (d := 104) (v := undef) rfl rfl (by kernel_rfl) (by kernel_rfl) (by kernel_rfl) (fun _ _ _ h => h) (Or.inr ⟨by go_simp, rfl⟩) ?_
                simp only [List.setIfInBounds_toArray, List.set_cons_zero, List.set_cons_succ]
                refine take_at (i := 23) (d := 105) (v := .bool false) rfl rfl (by kernel_rfl) (by kernel_rfl) (by kernel_rfl) (fun _ _ _ h => h) (Or.inl ⟨by go_simp, fun _ => by go_simp⟩) ?_
                simp only [List.setIfInBounds_toArray, List.set_cons_zero, List.set_cons_succ]
                refine take_at (i := 24) (d := 106) (v := .bool false) rfl rfl (by kernel_rfl) (by kernel_rfl) (by kernel_rfl) (fun _ _ _ h => h) (Or.inl ⟨by go_simp, fun _ => by go_simp⟩) ?_
                simp only [List.setIfInBounds_toArray, List.set_cons_zero, List.set_cons_succ]
                refine wpAny_done (by kernel_rfl) ?_ _
                go_wp2_with fail
                go_meet
                case rel => exact ⟨rfl, by ((with_reducible repeat (first | exact Chg.refl _ _ | refine Chg.drew ?_ | refine Chg.alloc ?_ _ | refine Chg.then_new ?_ HN_D.out | refine Chg.then_new ?_ HN_I.out | refine Chg.then_new ?_ HN_G.out)); fail_if_success (have := True.intro))⟩
        · go_simp
          with_reducible refine (HIg.out _ (HN7.out.then_new (by ((with_reducible repeat (first | exact Chg.refl _ _ | refine Chg.drew ?_ | refine Chg.alloc ?_ _ | refine Chg.then_new ?_ HN_D.out | refine Chg.then_new ?_ HN_I.out | refine Chg.then_new ?_ HN_G.out)); fail_if_success (have := True.intro))))).mono ?_
          rintro e wI ⟨bI, rfl, hRI, hNI⟩
          have hsK := own_str (own_new HOG.out hNI)
          have HOGI := Lib.hid (own_new HOG.out hNI)
          have HRI := Lib.hid hRI
          have HN_I := Lib.hid hNI
          clear hRI hNI
          refine hK _ _ ?_
          clear hK K
          try simp only [Act.put, List.setIfInBounds_toArray, List.set_cons_zero, List.set_cons_succ]
          refine wpAny_ready (rs := [2, 7]) (by kernel_rfl) (by simp) ?_
          refine (AllReady.cons rfl (fun K hK => ?_) (AllReady.cons rfl (fun K hK => ?_) AllReady.nil))
          · go_simp
            refine hK _ _ ?_
            clear hK K
            try simp only [Act.put, List.setIfInBounds_toArray, List.set_cons_zero, List.set_cons_succ]
            refine wpAny_ready (rs := [7]) (by kernel_rfl) (by simp) ?_
            refine (AllReady.cons rfl (fun K hK => ?_) AllReady.nil)
            · go_simp
              with_reducible refine (HDn.out wI bI _ (by first | rfl | decide) (by ((with_reducible repeat (first | exact Chg.refl _ _ | refine Chg.drew ?_ | refine Chg.alloc ?_ _ | refine Chg.then_new ?_ HN_D.out | refine Chg.then_new ?_ HN_I.out | refine Chg.then_new ?_ HN_G.out)); fail_if_success (have := True.intro))) HRI.out).mono ?_
              rintro e wD ⟨AD, cD, rfl, hOD, hND⟩
              have hsD := own_str hOD
              have hsL := own_str (own_new HOGI.out hND)
              have HOD := Lib.hid hOD
              have HN_D := Lib.hid hND
              clear hOD hND
              refine hK _ _ ?_
              clear hK K
              try simp only [Act.put, List.setIfInBounds_toArray, List.set_cons_zero, List.set_cons_succ]
              refine wpAny_ready (rs := [8]) (by kernel_rfl) (by simp) ?_
              refine (AllReady.cons rfl (fun K hK => ?_) AllReady.nil)
              · go_simp
                refine hK _ _ ?_
                clear hK K
                try simp only [Act.put, List.setIfInBounds_toArray, List.set_cons_zero, List.set_cons_succ]
                refine take_at (i := 9) (d := 91) (v := .bool false) rfl rfl (by kernel_rfl) (by kernel_rfl) (by kernel_rfl) (fun _ _ _ h => h) (Or.inl ⟨by go_simp, fun _ => by go_simp⟩) ?_
                simp only [List.setIfInBounds_toArray, List.set_cons_zero, List.set_cons_succ]
                refine take_at (i := 10) (d := 92) (v := .bool false) rfl rfl (by kernel_rfl) (by kernel_rfl) (by kernel_rfl) (fun _ _ _ h => h) (Or.inl ⟨by go_simp, fun _ => by go_simp⟩) ?_
                simp only [List.setIfInBounds_toArray, List.set_cons_zero, List.set_cons_succ]
                refine take_at (i := 11) (d := 93) (v := .int .i64 0) rfl rfl (by kernel_rfl) (by kernel_rfl) (by kernel_rfl) (fun _ _ _ h => h) (Or.inl ⟨by go_simp, fun _ => by go_simp⟩) ?_
                simp only [List.setIfInBounds_toArray, List.set_cons_zero, List.set_cons_succ]
                refine take_at (i := 12) (d := 94) (v := .bool true) rfl rfl (by kernel_rfl) (by kernel_rfl) (by kernel_rfl) (fun _ _ _ h => h) (Or.inl ⟨by go_simp, fun _ => by go_simp⟩) ?_
                simp only [List.setIfInBounds_toArray, List.set_cons_zero, List.set_cons_succ]
                refine take_at (i := 13) (d := 95) (v := .int .i64 3) rfl rfl (by kernel_rfl) (by kernel_rfl) (by kernel_rfl) (fun _ _ _ h => h) (Or.inl ⟨by go_simp, fun _ => by go_simp⟩) ?_
                simp only [List.setIfInBounds_toArray, List.set_cons_zero, List.set_cons_succ]
                refine take_at (i := 14) (d := 96) (v := .bool true) rfl rfl (by kernel_rfl) (by kernel_rfl) (by kernel_rfl) (fun _ _ _ h => h) (Or.inl ⟨by go_simp, fun _ => by go_simp⟩) ?_
                simp only [List.setIfInBounds_toArray, List.set_cons_zero, List.set_cons_succ]
                refine take_at (i := 15) (d := 97) (v := .bool false) rfl rfl (by kernel_rfl) (by kernel_rfl) (by kernel_rfl) (fun _ _ _ h => h) (Or.inl ⟨by go_simp, fun _ => by go_simp⟩) ?_
                simp only [List.setIfInBounds_toArray, List.set_cons_zero, List.set_cons_succ]
                refine take_at (i := 16) (d := 98) (v := .bool false) rfl rfl (by kernel_rfl) (by kernel_rfl) (by kernel_rfl) (fun _ _ _ h => h) (Or.inl ⟨by go_simp, fun _ => by go_simp⟩) ?_
                simp only [List.setIfInBounds_toArray, List.set_cons_zero, List.set_cons_succ]
                refine take_at (i := 17) (d := 99) (v := .bool false) rfl rfl (by kernel_rfl) (by kernel_rfl) (by kernel_rfl) (fun _ _ _ h => h) (Or.inl ⟨by go_simp, fun _ => by go_simp⟩) ?_
                simp only [List.setIfInBounds_toArray, List.set_cons_zero, List.set_cons_succ]
                refine take_at (i := 18) (d := 100) (v := .int .i64 3) rfl rfl (by kernel_rfl) (by kernel_rfl) (by kernel_rfl) (fun _ _ _ h => h) (Or.inl ⟨by go_simp, fun _ => by go_simp⟩) ?_
                simp only [List.setIfInBounds_toArray, List.set_cons_zero, List.set_cons_succ]
                refine take_at (i := 19) (d := 101) (v := .bool false) rfl rfl (by kernel_rfl) (by kernel_rfl) (by kernel_rfl) (fun _ _ _ h => h) (Or.inl ⟨by go_simp, fun _ => by go_simp⟩) ?_
                simp only [List.setIfInBounds_toArray, List.set_cons_zero, List.set_cons_succ]
                refine take_at (i := 20) (d := 102) (v := .bool false) rfl rfl (by kernel_rfl) (by kernel_rfl) (by kernel_rfl) (fun _ _ _ h => h) (Or.inl ⟨by go_simp, fun _ => by go_simp⟩) ?_
                simp only [List.setIfInBounds_toArray, List.set_cons_zero, List.set_cons_succ]
                refine take_at (i := 21) (d := 103) (v := undef) rfl rfl (by kernel_rfl) (by kernel_rfl) (by kernel_rfl) (fun _ _ _ h => h) (Or.inr ⟨by go_simp, rfl⟩) ?_
                simp only [List.setIfInBounds_toArray, List.set_cons_zero, List.set_cons_succ]
                refine take_at (i := 22) (d := 104) (v := undef) rfl rfl (by kernel_rfl) (by kernel_rfl) (by kernel_rfl) (fun _ _ _ h => h) (Or.inr ⟨by go_simp, rfl⟩) ?_
                simp only [List.setIfInBounds_toArray, List.set_cons_zero, List.set_cons_succ]
                refine take_at (i := 23) (d := 105) (v := .bool false) rfl rfl (by kernel_rfl) (by kernel_rfl) (by kernel_rfl) (fun _ _ _ h => h) (Or.inl ⟨by go_simp, fun _ => by go_simp⟩) ?_
                simp only [List.setIfInBounds_toArray, List.set_cons_zero, List.set_cons_succ]
                refine take_at (i := 24) (d := 106) (v := .bool false) rfl rfl (by kernel_rfl) (by kernel_rfl) (by kernel_rfl) (fun _ _ _ h => h) (Or.inl ⟨by go_simp, fun _ => by go_simp⟩) ?_
                simp only [List.setIfInBounds_toArray, List.set_cons_zero, List.set_cons_succ]
                refine wpAny_done (by kernel_rfl) ?_ _
                go_wp2_with fail
                go_meet
                case rel => exact ⟨rfl, by ((with_reducible repeat (first | exact Chg.refl _ _ | refine Chg.drew ?_ | refine Chg.alloc ?_ _ | refine Chg.then_new ?_ HN_D.out | refine Chg.then_new ?_ HN_I.out | refine Chg.then_new ?_ HN_G.out)); fail_if_success (have := True.intro))⟩
          · go_simp
            with_reducible refine (HDn.out wI bI _ (by first | rfl | decide) (by ((with_reducible repeat (first | exact Chg.refl _ _ | refine Chg.drew ?_ | refine Chg.alloc ?_ _ | refine Chg.then_new ?_ HN_D.out | refine Chg.then_new ?_ HN_I.out | refine Chg.then_new ?_ HN_G.out)); fail_if_success (have := True.intro))) HRI.out).mono ?_
            rintro e wD ⟨AD, cD, rfl, hOD, hND⟩
            have hsD := own_str hOD
            have hsL := own_str (own_new HOGI.out hND)
            have HOD := Lib.hid hOD
            have HN_D := Lib.hid hND
            clear hOD hND
            refine hK _ _ ?_
            clear hK K
            try simp only [Act.put, List.setIfInBounds_toArray, List.set_cons_zero, List.set_cons_succ]
            refine wpAny_ready (rs := [2, 8]) (by kernel_rfl) (by simp) ?_
            refine (AllReady.cons rfl (fun K hK => ?_) (AllReady.cons rfl (fun K hK => ?_) AllReady.nil))
            · go_simp
              refine hK _ _ ?_
              clear hK K
              try simp only [Act.put, List.setIfInBounds_toArray, List.set_cons_zero, List.set_cons_succ]
              refine wpAny_ready (rs := [8]) (by kernel_rfl) (by simp) ?_
              refine (AllReady.cons rfl (fun K hK => ?_) AllReady.nil)
              · go_simp
                refine hK _ _ ?_
                clear hK K
                try simp only [Act.put, List.setIfInBounds_toArray, List.set_cons_zero, List.set_cons_succ]
                refine take_at (i := 9) (d := 91) (v := .bool false) rfl rfl (by kernel_rfl) (by kernel_rfl) (by kernel_rfl) (fun _ _ _ h => h) (Or.inl ⟨by go_simp, fun _ => by go_simp⟩) ?_
                simp only [List.setIfInBounds_toArray, List.set_cons_zero, List.set_cons_succ]
                refine take_at (i := 10) (d := 92) (v := .bool false) rfl rfl (by kernel_rfl) (by kernel_rfl) (by kernel_rfl) (fun _ _ _ h => h) (Or.inl ⟨by go_simp, fun _ => by go_simp⟩) ?_
                simp only [List.setIfInBounds_toArray, List.set_cons_zero, List.set_cons_succ]
                refine take_at (i := 11) (d := 93) (v := .int .i64 0) rfl rfl (by kernel_rfl) (by kernel_rfl) (by kernel_rfl) (fun _ _ _ h => h) (Or.inl ⟨by go_simp, fun _ => by go_simp⟩) ?_
                simp only [List.setIfInBounds_toArray, List.set_cons_zero, List.set_cons_succ]
                refine take_at (i := 12) (d := 94) (v := .bool true) rfl rfl (by kernel_rfl) (by kernel_rfl) (by kernel_rfl) (fun _ _ _ h => h) (Or.inl ⟨by go_simp, fun _ => by go_simp⟩) ?_
                simp only [List.setIfInBounds_toArray, List.set_cons_zero, List.set_cons_succ]
                refine take_at (i := 13) (d := 95) (v := .int .i64 3) rfl rfl (by kernel_rfl) (by kernel_rfl) (by kernel_rfl) (fun _ _ _ h => h) (Or.inl ⟨by go_simp, fun _ => by go_simp⟩) ?_
                simp only [List.setIfInBounds_toArray, List.set_cons_zero, List.set_cons_succ]
                refine take_at (i := 14) (d := 96) (v := .bool true) rfl rfl (by kernel_rfl) (by kernel_rfl) (by kernel_rfl) (fun _ _ _ h => h) (Or.inl ⟨by go_simp, fun _ => by go_simp⟩) ?_
                simp only [List.setIfInBounds_toArray, List.set_cons_zero, List.set_cons_succ]
                refine take_at (i := 15) (d := 97) (v := .bool false) rfl rfl (by kernel_rfl) (by kernel_rfl) (by kernel_rfl) (fun _ _ _ h => h) (Or.inl ⟨by go_simp, fun _ => by go_simp⟩) ?_
                simp only [List.setIfInBounds_toArray, List.set_cons_zero, List.set_cons_succ]
                refine take_at (i := 16) (d := 98) (v := .bool false) rfl rfl (by kernel_rfl) (by kernel_rfl) (by kernel_rfl) (fun _ _ _ h => h) (Or.inl ⟨by go_simp, fun _ => by go_simp⟩) ?_
                simp only [List.setIfInBounds_toArray, List.set_cons_zero, List.set_cons_succ]
                refine take_at (i := 17) (d := 99) (v := .bool false) rfl rfl (by kernel_rfl) (by kernel_rfl) (by kernel_rfl) (fun _ _ _ h => h) (Or.inl ⟨by go_simp, fun _ => by go_simp⟩) ?_
                simp only [List.setIfInBounds_toArray, List.set_cons_zero, List.set_cons_succ]
                refine take_at (i := 18) (d := 100) (v := .int .i64 3) rfl rfl (by kernel_rfl) (by kernel_rfl) (by kernel_rfl) (fun _ _ _ h => h) (Or.inl ⟨by go_simp, fun _ => by go_simp⟩) ?_
                simp only [List.setIfInBounds_toArray, List.set_cons_zero, List.set_cons_succ]
                refine take_at (i := 19) (d := 101) (v := .bool false) rfl rfl (by kernel_rfl) (by kernel_rfl) (by kernel_rfl) (fun _ _ _ h => h) (Or.inl ⟨by go_simp, fun _ => by go_simp⟩) ?_
                simp only [List.setIfInBounds_toArray, List.set_cons_zero, List.set_cons_succ]
                refine take_at (i := 20) (d := 102) (v := .bool false) rfl rfl (by kernel_rfl) (by kernel_rfl) (by kernel_rfl) (fun _ _ _ h => h) (Or.inl ⟨by go_simp, fun _ => by go_simp⟩) ?_
                simp only [List.setIfInBounds_toArray, List.set_cons_zero, List.set_cons_succ]
                refine take_at (i := 21) (d := 103) (v := undef) rfl rfl (by kernel_rfl) (by kernel_rfl) (by kernel_rfl) (fun _ _ _ h => h) (Or.inr ⟨by go_simp, rfl⟩) ?_
                simp only [List.setIfInBounds_toArray, List.set_cons_zero, List.set_cons_succ]
                refine take_at (i := 22) (d := 104) (v := undef) rfl rfl (by kernel_rfl) (by kernel_rfl) (by kernel_rfl) (fun _ _ _ h => h) (Or.inr ⟨by go_simp, rfl⟩) ?_
                simp only [List.setIfInBounds_toArray, List.set_cons_zero, List.set_cons_succ]
                refine take_at (i := 23) (d := 105) (v := .bool false) rfl rfl (by kernel_rfl) (by kernel_rfl) (by kernel_rfl) (fun _ _ _ h => h) (Or.inl ⟨by go_simp, fun _ => by go_simp⟩) ?_
                simp only [List.setIfInBounds_toArray, List.set_cons_zero, List.set_cons_succ]
                refine take_at (i := 24) (d := 106) (v := .bool false) rfl rfl (by kernel_rfl) (by kernel_rfl) (by kernel_rfl) (fun _ _ _ h => h) (Or.inl ⟨by go_simp, fun _ => by go_simp⟩) ?_
                simp only [List.setIfInBounds_toArray, List.set_cons_zero, List.set_cons_succ]
                refine wpAny_done (by kernel_rfl) ?_ _
                go_wp2_with fail
                go_meet
                case rel => exact ⟨rfl, by ((with_reducible repeat (first | exact Chg.refl _ _ | refine Chg.drew ?_ | refine Chg.alloc ?_ _ | refine Chg.then_new ?_ HN_D.out | refine Chg.then_new ?_ HN_I.out | refine Chg.then_new ?_ HN_G.out)); fail_if_success (have := True.intro))⟩
            · go_simp
              refine hK _ _ ?_
              clear hK K
              try simp only [Act.put, List.setIfInBounds_toArray, List.set_cons_zero, List.set_cons_succ]
              refine wpAny_ready (rs := [2]) (by kernel_rfl) (by simp) ?_
              refine (AllReady.cons rfl (fun K hK => ?_) AllReady.nil)
              · go_simp
                refine hK _ _ ?_
                clear hK K
                try simp only [Act.put, List.setIfInBounds_toArray, List.set_cons_zero, List.set_cons_succ]
                refine take_at (i := 9) (d := 91) (v := .bool false) rfl rfl (by kernel_rfl) (by kernel_rfl) (by kernel_rfl) (fun _ _ _ h => h) (Or.inl ⟨by go_simp, fun _ => by go_simp⟩) ?_
                simp only [List.setIfInBounds_toArray, List.set_cons_zero, List.set_cons_succ]
                refine take_at (i := 10) (d := 92) (v := .bool false) rfl rfl (by kernel_rfl) (by kernel_rfl) (by kernel_rfl) (fun _ _ _ h => h) (Or.inl ⟨by go_simp, fun _ => by go_simp⟩) ?_
                simp only [List.setIfInBounds_toArray, List.set_cons_zero, List.set_cons_succ]
                refine take_at (i := 11) (d := 93) (v := .int .i64 0) rfl rfl (by kernel_rfl) (by kernel_rfl) (by kernel_rfl) (fun _ _ _ h => h) (Or.inl ⟨by go_simp, fun _ => by go_simp⟩) ?_
                simp only [List.setIfInBounds_toArray, List.set_cons_zero, List.set_cons_succ]
                refine take_at (i := 12) (d := 94) (v := .bool true) rfl rfl (by kernel_rfl) (by kernel_rfl) (by kernel_rfl) (fun _ _ _ h => h) (Or.inl ⟨by go_simp, fun _ => by go_simp⟩) ?_
                simp only [List.setIfInBounds_toArray, List.set_cons_zero, List.set_cons_succ]
                refine take_at (i := 13) (d := 95) (v := .int .i64 3) rfl rfl (by kernel_rfl) (by kernel_rfl) (by kernel_rfl) (fun _ _ _ h => h) (Or.inl ⟨by go_simp, fun _ => by go_simp⟩) ?_
                simp only [List.setIfInBounds_toArray, List.set_cons_zero, List.set_cons_succ]
                refine take_at (i := 14) (d := 96) (v := .bool true) rfl rfl (by kernel_rfl) (by kernel_rfl) (by kernel_rfl) (fun _ _ _ h => h) (Or.inl ⟨by go_simp, fun _ => by go_simp⟩) ?_
                simp only [List.setIfInBounds_toArray, List.set_cons_zero, List.set_cons_succ]
                refine take_at (i := 15) (d := 97) (v := .bool false) rfl rfl (by kernel_rfl) (by kernel_rfl) (by kernel_rfl) (fun _ _ _ h => h) (Or.inl ⟨by go_simp, fun _ => by go_simp⟩) ?_
                simp only [List.setIfInBounds_toArray, List.set_cons_zero, List.set_cons_succ]
                refine take_at (i := 16) (d := 98) (v := .bool false) rfl rfl (by kernel_rfl) (by kernel_rfl) (by kernel_rfl) (fun _ _ _ h => h) (Or.inl ⟨by go_simp, fun _ => by go_simp⟩) ?_
                simp only [List.setIfInBounds_toArray, List.set_cons_zero, List.set_cons_succ]
                refine take_at (i := 17) (d := 99) (v := .bool false) rfl rfl (by kernel_rfl) (by kernel_rfl) (by kernel_rfl) (fun _ _ _ h => h) (Or.inl ⟨by go_simp, fun _ => by go_simp⟩) ?_
                simp only [List.setIfInBounds_toArray, List.set_cons_zero, List.set_cons_succ]
                refine take_at (i := 18) (d := 100) (v := .int .i64 3) rfl rfl (by kernel_rfl) (by kernel_rfl) (by kernel_rfl) (fun _ _ _ h => h) (Or.inl ⟨by go_simp, fun _ => by go_simp⟩) ?_
                simp only [List.setIfInBounds_toArray, List.set_cons_zero, List.set_cons_succ]
                refine take_at (i := 19) (d := 101) (v := .bool false) rfl rfl (by kernel_rfl) (by kernel_rfl) (by kernel_rfl) (fun _ _ _ h => h) (Or.inl ⟨by go_simp, fun _ => by go_simp⟩) ?_
                simp only [List.setIfInBounds_toArray, List.set_cons_zero, List.set_cons_succ]
                refine take_at (i := 20) (d := 102) (v := .bool false) rfl rfl (by kernel_rfl) (by kernel_rfl) (by kernel_rfl) (fun _ _ _ h => h) (Or.inl ⟨by go_simp, fun _ => by go_simp⟩) ?_
                simp only [List.setIfInBounds_toArray, List.set_cons_zero, List.set_cons_succ]
                refine take_at (i := 21) (d := 103) (v := undef) rfl rfl (by kernel_rfl) (by kernel_rfl) (by kernel_rfl) (fun _ _ _ h => h) (Or.inr ⟨by go_simp, rfl⟩) ?_
                simp only [List.setIfInBounds_toArray, List.set_cons_zero, List.set_cons_succ]
                refine take_at (i := 22) (d := 104) (v := undef) rfl rfl (by kernel_rfl) (by kernel_rfl) (by kernel_rfl) (fun _ _ _ h => h) (Or.inr ⟨by go_simp, rfl⟩) ?_
                simp only [List.setIfInBounds_toArray, List.set_cons_zero, List.set_cons_succ]
                refine take_at (i := 23) (d := 105) (v := .bool false) rfl rfl (by kernel_rfl) (by kernel_rfl) (by kernel_rfl) (fun _ _ _ h => h) (Or.inl ⟨by go_simp, fun _ => by go_simp⟩) ?_
                simp only [List.setIfInBounds_toArray, List.set_cons_zero, List.set_cons_succ]
                refine take_at (i := 24) (d := 106) (v := .bool false) rfl rfl (by kernel_rfl) (by kernel_rfl) (by kernel_rfl) (fun _ _ _ h => h) (Or.inl ⟨by go_simp, fun _ => by go_simp⟩) ?_
                simp only [List.setIfInBounds_toArray, List.set_cons_zero, List.set_cons_succ]
                refine wpAny_done (by kernel_rfl) ?_ _
                go_wp2_with fail
                go_meet
                case rel => exact ⟨rfl, by ((with_reducible repeat (first | exact Chg.refl _ _ | refine Chg.drew ?_ | refine Chg.alloc ?_ _ | refine Chg.then_new ?_ HN_D.out | refine Chg.then_new ?_ HN_I.out | refine Chg.then_new ?_ HN_G.out)); fail_if_success (have := True.intro))⟩
    case rest =>
    obtain ⟨rfl, hN8⟩ := hcut
    have HC8 := Lib.hid (HC7.out.new hN8)
    have HN8 := Lib.hid (HN7.out.then_new hN8)
    clear hN8
    obtain ⟨r1, r2⟩ := fm_done (B := P) HPl.out hi1 hu1
    have Hr1 := Lib.hid r1
    have Hr2 := Lib.hid r2
    clear r1 r2
    go_wp2_with fail
    with_reducible refine (pRead_any g _ _ wc HC8.out).mono ?_
    rintro e w9 ⟨⟨A9, c9, rfl, hO9⟩, hN9⟩
    rw [Hr1.out, Hr2.out]
    have HN9 := Lib.hid (HN8.out.then_new hN9)
    clear hO9 hN9
    simp only [List.length_nil]
    go_wp2_with fail
    go_ret
    exact ⟨rfl, HN9.out.alloc _⟩
end Go.Proofs.Ytjkpijinpfimiaa
