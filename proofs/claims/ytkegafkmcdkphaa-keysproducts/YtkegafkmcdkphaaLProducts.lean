/-
  The law KeysProducts, walked.
-/
import Derived.Test.YtkegafkmcdkphaaKyW
import Derived.Test.YtkegafkmcdkphaaKyT
import Derived.Deep.RegionHeldLaw
namespace Go.Proofs.Ytkegafkmcdkphaa
open Go.RowKit
theorem Kys.two {w : World} {g : Nat} {t : TypeId} {k l : Ky} (h : Has w g t #[.int .i64 k.o, .int .i64 k.t, .int .i64 k.c, .int .i64 k.v, .int .i64 l.o, .int .i64 l.t, .int .i64 l.c, .int .i64 l.v]) : Kys w (· = g) (some ⟨g, 0, none⟩) 2 (fun i => if i = 0 then k else l) := fun i hi => by
  rcases (show i = 0 ∨ i = 1 by omega) with rfl | rfl
  · exact ⟨_, rfl, rfl, (h.cell 0).trans rfl, (h.cell 1).trans rfl, (h.cell 2).trans rfl, (h.cell 3).trans rfl⟩
  · exact ⟨_, rfl, rfl, (h.cell 4).trans rfl, (h.cell 5).trans rfl, (h.cell 6).trans rfl, (h.cell 7).trans rfl⟩
theorem levI_three {k : Ky} (h : levI k = 3) : KRight k ∧ lev k = 3 := by
  unfold levI at h
  split at h
  · next hr => exact ⟨rightB_yes hr, by omega⟩
  · omega
theorem pro_all {o t c v : Int} (h : levI ⟨o, t, c, v⟩ = 3) : levI ⟨o, 0, 0, v⟩ = 1 ∧ frB ⟨o, t, c, v⟩ 2 (fun i => if i = 0 then ⟨o, 0, 0, v⟩ else ⟨0, 0, 0, v⟩) = true ∧ fromB ⟨o, 0, 0, v⟩ ⟨o, t, c, v⟩ = false := by
  obtain ⟨hr, hl⟩ := levI_three h
  rcases lev_ways hr with ⟨e, a, b, d⟩ | ⟨e, a, b, d⟩ | ⟨e, a, b, d⟩ | ⟨e, a, b, d⟩ <;> simp only at a b d <;> try omega
  have hr' := hr
  unfold KRight at hr'
  simp only at hr'
  have h1 : KRight ⟨o, 0, 0, v⟩ := by unfold KRight; simp; omega
  have h0 : KRight ⟨0, 0, 0, v⟩ := by unfold KRight; simp; omega
  have l1 : lev ⟨o, 0, 0, v⟩ = 1 := lev_1 (k := ⟨o, 0, 0, v⟩) a rfl
  have l0 : lev ⟨0, 0, 0, v⟩ = 0 := lev_0 rfl
  refine ⟨(bat_right a).2 (rightB_of h1), frB_yes ⟨hr, fun j hj => ?_⟩, fromB_not fun hf => ?_⟩
  · rcases (show j = 0 ∨ j = 1 by omega) with rfl | rfl
    · exact (fromB_iff _ _).2 ⟨hr, h1, by simp only [if_true]; omega, rfl, fun _ => rfl, fun hh => by simp only [if_true] at hh; omega, fun hh => by simp only [if_true] at hh; omega⟩
    · exact (fromB_iff _ _).2 ⟨hr, h0, by simp only [if_neg (show ¬ (1 : Nat) = 0 by omega)]; omega, rfl, fun hh => by simp only [if_neg (show ¬ (1 : Nat) = 0 by omega)] at hh; omega, fun hh => by simp only [if_neg (show ¬ (1 : Nat) = 0 by omega)] at hh; omega, fun hh => by simp only [if_neg (show ¬ (1 : Nat) = 0 by omega)] at hh; omega⟩
  · have := hf.2.2.1
    omega
theorem pro_other {o t c v op ver : Int} (h : levI ⟨o, t, c, v⟩ = 3) (hb : levI ⟨op, 0, 0, ver⟩ = 1) : fromB ⟨o, t, c, v⟩ ⟨op, 0, 0, ver⟩ = ((op == o) && (ver == v)) := by
  obtain ⟨hr, hl⟩ := levI_three h
  have hb1 : KRight ⟨op, 0, 0, ver⟩ ∧ lev ⟨op, 0, 0, ver⟩ = 1 := by
    unfold levI at hb
    split at hb
    · next hr => exact ⟨rightB_yes hr, by omega⟩
    · omega
  rw [Bool.eq_iff_iff, fromB_iff, Bool.and_eq_true, beq_iff_eq, beq_iff_eq]
  constructor
  · intro hf
    exact ⟨(hf.2.2.2.2.1 (by omega)).symm, hf.2.2.2.1.symm⟩
  · rintro ⟨rfl, rfl⟩
    exact ⟨hr, hb1.1, by omega, rfl, fun _ => rfl, fun hh => by omega, fun hh => by omega⟩
set_option maxRecDepth 100000 in
set_option maxHeartbeats 4000000 in
theorem products_walk (x0 x1 x2 x3 x4 x5 x6 x7 x9 x10 x11 x12 : Int) (x8 x13 : Bool) (op : Int) (_hop : (Lit.int .i64 op).wf = true) (ver : Int) (_hver : (Lit.int .i64 ver).wf = true) (w : World) : Calls Try.prog 7 #[PrV x0 x1 x2 x3 x4 x5 x6 x7 x9 x10 x11 x12 x8 x13, .int .i64 op, .int .i64 ver] w fun e w' => e = .returned (.bool true) ∧ New w w' := by
  have HPr := Lib.hid (fun w => Product_any x0 x1 x2 x3 x4 x5 x6 x7 x9 x10 x11 x12 x8 x13 w)
  have HBa := Lib.hid (fun w => Batch_any op ver w)
  have HOw := Lib.hid (fun w => Batch_any x1 x4 w)
  have HLv := Lib.hid (Level_any ⟨x1, x0, x3, x4⟩)
  unfold proK proE at HPr
  unfold batK batE at HBa HOw
  by_cases h3 : levI ⟨x1, x0, x3, x4⟩ = 3
  · have Hall := Lib.hid (pro_all h3)
    rw [h3] at HPr HLv
    rw [Hall.out.1] at HOw
    change Hid (∀ w, Calls Try.prog 21 _ w fun e w' => e = .returned (.tuple #[.agg #[.int .i64 x1, .int .i64 0, .int .i64 0, .int .i64 x4], .int .i64 0]) ∧ New w w') at HOw
    by_cases h1 : levI ⟨op, 0, 0, ver⟩ = 1
    · have Hoth := Lib.hid (pro_other h3 h1)
      rw [h1] at HBa
      clear h1 h3
      obtain ⟨b0, q0⟩ : ∃ b0, (op == x1) = b0 := ⟨_, rfl⟩
      obtain ⟨b1, q1⟩ : ∃ b1, (ver == x4) = b1 := ⟨_, rfl⟩
      rw [q0, q1] at Hoth
      cases b0 with
      | true =>
        change Hid (∀ w, Calls Try.prog 20 _ w fun e w' => e = .returned (.tuple #[.agg #[.int .i64 x1, .int .i64 x0, .int .i64 x3, .int .i64 x4], .int .i64 0]) ∧ New w w') at HPr
        change Hid (∀ w, Calls Try.prog 21 _ w fun e w' => e = .returned (.tuple #[.agg #[.int .i64 op, .int .i64 0, .int .i64 0, .int .i64 ver], .int .i64 0]) ∧ New w w') at HBa
        go_enter Try.func7, Try.ntmps7
        go_wp2_with fail
        with_reducible refine (awake_any _).mono ?_
        rintro e w1 ⟨rfl, hN⟩
        have HP_1 := Lib.hid ((Has.new_at w 41 #[.int .i64 x0, .int .i64 x1, .int .i64 x2, .int .i64 x3, .int .i64 x4, .int .i64 x5, .int .i64 x6, .int .i64 x7, .bool x8, .int .i64 x9, .int .i64 x10, .int .i64 x11, .int .i64 x12, .bool x13] (w.heap.size) (by simp)).keep hN)
        have HN_1 := Lib.hid (((Chg.refl (fun _ => False) w).alloc (.cells #[.int .i64 x0, .int .i64 x1, .int .i64 x2, .int .i64 x3, .int .i64 x4, .int .i64 x5, .int .i64 x6, .int .i64 x7, .bool x8, .int .i64 x9, .int .i64 x10, .int .i64 x11, .int .i64 x12, .bool x13] 41)).then_new hN)
        clear hN
        have cP0 : w1.cell? ⟨w.heap.size, 0, none⟩ = some (.int .i64 x0) := (HP_1.out.cell 0).trans rfl
        have cP1 : w1.cell? ⟨w.heap.size, 1, none⟩ = some (.int .i64 x1) := (HP_1.out.cell 1).trans rfl
        have cP2 : w1.cell? ⟨w.heap.size, 2, none⟩ = some (.int .i64 x2) := (HP_1.out.cell 2).trans rfl
        have cP3 : w1.cell? ⟨w.heap.size, 3, none⟩ = some (.int .i64 x3) := (HP_1.out.cell 3).trans rfl
        have cP4 : w1.cell? ⟨w.heap.size, 4, none⟩ = some (.int .i64 x4) := (HP_1.out.cell 4).trans rfl
        have cP5 : w1.cell? ⟨w.heap.size, 5, none⟩ = some (.int .i64 x5) := (HP_1.out.cell 5).trans rfl
        have cP6 : w1.cell? ⟨w.heap.size, 6, none⟩ = some (.int .i64 x6) := (HP_1.out.cell 6).trans rfl
        have cP7 : w1.cell? ⟨w.heap.size, 7, none⟩ = some (.int .i64 x7) := (HP_1.out.cell 7).trans rfl
        have cP8 : w1.cell? ⟨w.heap.size, 8, none⟩ = some (.bool x8) := (HP_1.out.cell 8).trans rfl
        have cP9 : w1.cell? ⟨w.heap.size, 9, none⟩ = some (.int .i64 x9) := (HP_1.out.cell 9).trans rfl
        have cP10 : w1.cell? ⟨w.heap.size, 10, none⟩ = some (.int .i64 x10) := (HP_1.out.cell 10).trans rfl
        have cP11 : w1.cell? ⟨w.heap.size, 11, none⟩ = some (.int .i64 x11) := (HP_1.out.cell 11).trans rfl
        have cP12 : w1.cell? ⟨w.heap.size, 12, none⟩ = some (.int .i64 x12) := (HP_1.out.cell 12).trans rfl
        have cP13 : w1.cell? ⟨w.heap.size, 13, none⟩ = some (.bool x13) := (HP_1.out.cell 13).trans rfl
        have lP := HP_1.out.lt
        go_wp2_with fail
        with_reducible refine (HPr.out _).mono ?_
        rintro e w2 ⟨rfl, hN⟩
        have HP_2 := Lib.hid (HP_1.out.keep hN)
        have HN_2 := Lib.hid (HN_1.out.then_new hN)
        clear HP_1 HN_1 cP0 cP1 cP2 cP3 cP4 cP5 cP6 cP7 cP8 cP9 cP10 cP11 cP12 cP13 lP hN
        have cP0 : w2.cell? ⟨w.heap.size, 0, none⟩ = some (.int .i64 x0) := (HP_2.out.cell 0).trans rfl
        have cP1 : w2.cell? ⟨w.heap.size, 1, none⟩ = some (.int .i64 x1) := (HP_2.out.cell 1).trans rfl
        have cP2 : w2.cell? ⟨w.heap.size, 2, none⟩ = some (.int .i64 x2) := (HP_2.out.cell 2).trans rfl
        have cP3 : w2.cell? ⟨w.heap.size, 3, none⟩ = some (.int .i64 x3) := (HP_2.out.cell 3).trans rfl
        have cP4 : w2.cell? ⟨w.heap.size, 4, none⟩ = some (.int .i64 x4) := (HP_2.out.cell 4).trans rfl
        have cP5 : w2.cell? ⟨w.heap.size, 5, none⟩ = some (.int .i64 x5) := (HP_2.out.cell 5).trans rfl
        have cP6 : w2.cell? ⟨w.heap.size, 6, none⟩ = some (.int .i64 x6) := (HP_2.out.cell 6).trans rfl
        have cP7 : w2.cell? ⟨w.heap.size, 7, none⟩ = some (.int .i64 x7) := (HP_2.out.cell 7).trans rfl
        have cP8 : w2.cell? ⟨w.heap.size, 8, none⟩ = some (.bool x8) := (HP_2.out.cell 8).trans rfl
        have cP9 : w2.cell? ⟨w.heap.size, 9, none⟩ = some (.int .i64 x9) := (HP_2.out.cell 9).trans rfl
        have cP10 : w2.cell? ⟨w.heap.size, 10, none⟩ = some (.int .i64 x10) := (HP_2.out.cell 10).trans rfl
        have cP11 : w2.cell? ⟨w.heap.size, 11, none⟩ = some (.int .i64 x11) := (HP_2.out.cell 11).trans rfl
        have cP12 : w2.cell? ⟨w.heap.size, 12, none⟩ = some (.int .i64 x12) := (HP_2.out.cell 12).trans rfl
        have cP13 : w2.cell? ⟨w.heap.size, 13, none⟩ = some (.bool x13) := (HP_2.out.cell 13).trans rfl
        have lP := HP_2.out.lt
        go_wp2_with fail
        with_reducible refine (HBa.out _).mono ?_
        rintro e w3 ⟨rfl, hN⟩
        have HP_3 := Lib.hid ((HP_2.out.alloc (.cells #[.int .i64 x1, .int .i64 x0, .int .i64 x3, .int .i64 x4] 23)).keep hN)
        have HK_3 := Lib.hid ((Has.new_at w2 23 #[.int .i64 x1, .int .i64 x0, .int .i64 x3, .int .i64 x4] (w2.heap.size) (by simp)).keep hN)
        have HN_3 := Lib.hid ((HN_2.out.alloc (.cells #[.int .i64 x1, .int .i64 x0, .int .i64 x3, .int .i64 x4] 23)).then_new hN)
        clear HP_2 HN_2 cP0 cP1 cP2 cP3 cP4 cP5 cP6 cP7 cP8 cP9 cP10 cP11 cP12 cP13 lP hN
        have cP0 : w3.cell? ⟨w.heap.size, 0, none⟩ = some (.int .i64 x0) := (HP_3.out.cell 0).trans rfl
        have cP1 : w3.cell? ⟨w.heap.size, 1, none⟩ = some (.int .i64 x1) := (HP_3.out.cell 1).trans rfl
        have cP2 : w3.cell? ⟨w.heap.size, 2, none⟩ = some (.int .i64 x2) := (HP_3.out.cell 2).trans rfl
        have cP3 : w3.cell? ⟨w.heap.size, 3, none⟩ = some (.int .i64 x3) := (HP_3.out.cell 3).trans rfl
        have cP4 : w3.cell? ⟨w.heap.size, 4, none⟩ = some (.int .i64 x4) := (HP_3.out.cell 4).trans rfl
        have cP5 : w3.cell? ⟨w.heap.size, 5, none⟩ = some (.int .i64 x5) := (HP_3.out.cell 5).trans rfl
        have cP6 : w3.cell? ⟨w.heap.size, 6, none⟩ = some (.int .i64 x6) := (HP_3.out.cell 6).trans rfl
        have cP7 : w3.cell? ⟨w.heap.size, 7, none⟩ = some (.int .i64 x7) := (HP_3.out.cell 7).trans rfl
        have cP8 : w3.cell? ⟨w.heap.size, 8, none⟩ = some (.bool x8) := (HP_3.out.cell 8).trans rfl
        have cP9 : w3.cell? ⟨w.heap.size, 9, none⟩ = some (.int .i64 x9) := (HP_3.out.cell 9).trans rfl
        have cP10 : w3.cell? ⟨w.heap.size, 10, none⟩ = some (.int .i64 x10) := (HP_3.out.cell 10).trans rfl
        have cP11 : w3.cell? ⟨w.heap.size, 11, none⟩ = some (.int .i64 x11) := (HP_3.out.cell 11).trans rfl
        have cP12 : w3.cell? ⟨w.heap.size, 12, none⟩ = some (.int .i64 x12) := (HP_3.out.cell 12).trans rfl
        have cP13 : w3.cell? ⟨w.heap.size, 13, none⟩ = some (.bool x13) := (HP_3.out.cell 13).trans rfl
        have lP := HP_3.out.lt
        have cK0 : w3.cell? ⟨w2.heap.size, 0, none⟩ = some (.int .i64 x1) := (HK_3.out.cell 0).trans rfl
        have cK1 : w3.cell? ⟨w2.heap.size, 1, none⟩ = some (.int .i64 x0) := (HK_3.out.cell 1).trans rfl
        have cK2 : w3.cell? ⟨w2.heap.size, 2, none⟩ = some (.int .i64 x3) := (HK_3.out.cell 2).trans rfl
        have cK3 : w3.cell? ⟨w2.heap.size, 3, none⟩ = some (.int .i64 x4) := (HK_3.out.cell 3).trans rfl
        have lK := HK_3.out.lt
        go_wp2_with fail
        with_reducible refine (HOw.out _).mono ?_
        rintro e w4 ⟨rfl, hN⟩
        have HP_4 := Lib.hid ((HP_3.out.alloc (.cells #[.int .i64 op, .int .i64 0, .int .i64 0, .int .i64 ver] 23)).keep hN)
        have HK_4 := Lib.hid ((HK_3.out.alloc (.cells #[.int .i64 op, .int .i64 0, .int .i64 0, .int .i64 ver] 23)).keep hN)
        have HB_4 := Lib.hid ((Has.new_at w3 23 #[.int .i64 op, .int .i64 0, .int .i64 0, .int .i64 ver] (w3.heap.size) (by simp)).keep hN)
        have HN_4 := Lib.hid ((HN_3.out.alloc (.cells #[.int .i64 op, .int .i64 0, .int .i64 0, .int .i64 ver] 23)).then_new hN)
        clear HP_3 HK_3 HN_3 cP0 cP1 cP2 cP3 cP4 cP5 cP6 cP7 cP8 cP9 cP10 cP11 cP12 cP13 lP cK0 cK1 cK2 cK3 lK hN
        have cP0 : w4.cell? ⟨w.heap.size, 0, none⟩ = some (.int .i64 x0) := (HP_4.out.cell 0).trans rfl
        have cP1 : w4.cell? ⟨w.heap.size, 1, none⟩ = some (.int .i64 x1) := (HP_4.out.cell 1).trans rfl
        have cP2 : w4.cell? ⟨w.heap.size, 2, none⟩ = some (.int .i64 x2) := (HP_4.out.cell 2).trans rfl
        have cP3 : w4.cell? ⟨w.heap.size, 3, none⟩ = some (.int .i64 x3) := (HP_4.out.cell 3).trans rfl
        have cP4 : w4.cell? ⟨w.heap.size, 4, none⟩ = some (.int .i64 x4) := (HP_4.out.cell 4).trans rfl
        have cP5 : w4.cell? ⟨w.heap.size, 5, none⟩ = some (.int .i64 x5) := (HP_4.out.cell 5).trans rfl
        have cP6 : w4.cell? ⟨w.heap.size, 6, none⟩ = some (.int .i64 x6) := (HP_4.out.cell 6).trans rfl
        have cP7 : w4.cell? ⟨w.heap.size, 7, none⟩ = some (.int .i64 x7) := (HP_4.out.cell 7).trans rfl
        have cP8 : w4.cell? ⟨w.heap.size, 8, none⟩ = some (.bool x8) := (HP_4.out.cell 8).trans rfl
        have cP9 : w4.cell? ⟨w.heap.size, 9, none⟩ = some (.int .i64 x9) := (HP_4.out.cell 9).trans rfl
        have cP10 : w4.cell? ⟨w.heap.size, 10, none⟩ = some (.int .i64 x10) := (HP_4.out.cell 10).trans rfl
        have cP11 : w4.cell? ⟨w.heap.size, 11, none⟩ = some (.int .i64 x11) := (HP_4.out.cell 11).trans rfl
        have cP12 : w4.cell? ⟨w.heap.size, 12, none⟩ = some (.int .i64 x12) := (HP_4.out.cell 12).trans rfl
        have cP13 : w4.cell? ⟨w.heap.size, 13, none⟩ = some (.bool x13) := (HP_4.out.cell 13).trans rfl
        have lP := HP_4.out.lt
        have cK0 : w4.cell? ⟨w2.heap.size, 0, none⟩ = some (.int .i64 x1) := (HK_4.out.cell 0).trans rfl
        have cK1 : w4.cell? ⟨w2.heap.size, 1, none⟩ = some (.int .i64 x0) := (HK_4.out.cell 1).trans rfl
        have cK2 : w4.cell? ⟨w2.heap.size, 2, none⟩ = some (.int .i64 x3) := (HK_4.out.cell 2).trans rfl
        have cK3 : w4.cell? ⟨w2.heap.size, 3, none⟩ = some (.int .i64 x4) := (HK_4.out.cell 3).trans rfl
        have lK := HK_4.out.lt
        have cB0 : w4.cell? ⟨w3.heap.size, 0, none⟩ = some (.int .i64 op) := (HB_4.out.cell 0).trans rfl
        have cB1 : w4.cell? ⟨w3.heap.size, 1, none⟩ = some (.int .i64 0) := (HB_4.out.cell 1).trans rfl
        have cB2 : w4.cell? ⟨w3.heap.size, 2, none⟩ = some (.int .i64 0) := (HB_4.out.cell 2).trans rfl
        have cB3 : w4.cell? ⟨w3.heap.size, 3, none⟩ = some (.int .i64 ver) := (HB_4.out.cell 3).trans rfl
        have lB := HB_4.out.lt
        go_wp2_with fail
        with_reducible refine (From_any ⟨x1, x0, x3, x4⟩ _ 2 2 _ _ _ (Kys.two (k := ⟨x1, 0, 0, x4⟩) (l := ⟨0, 0, 0, x4⟩) (Has.new_at (w4.alloc (.cells #[.int .i64 x1, .int .i64 0, .int .i64 0, .int .i64 x4] 23)) 23 _ (w4.heap.size + 1) (by simp))) (fun k hk => by rw [hk]; simp) (by omega)).mono ?_
        rintro e w5 ⟨rfl, hN⟩
        rw [Hall.out.2.1]
        have HP_5 := Lib.hid (((HP_4.out.alloc (.cells #[.int .i64 x1, .int .i64 0, .int .i64 0, .int .i64 x4] 23)).alloc (.cells #[.int .i64 x1, .int .i64 0, .int .i64 0, .int .i64 x4, .int .i64 0, .int .i64 0, .int .i64 0, .int .i64 x4] 23)).keep hN)
        have HK_5 := Lib.hid (((HK_4.out.alloc (.cells #[.int .i64 x1, .int .i64 0, .int .i64 0, .int .i64 x4] 23)).alloc (.cells #[.int .i64 x1, .int .i64 0, .int .i64 0, .int .i64 x4, .int .i64 0, .int .i64 0, .int .i64 0, .int .i64 x4] 23)).keep hN)
        have HB_5 := Lib.hid (((HB_4.out.alloc (.cells #[.int .i64 x1, .int .i64 0, .int .i64 0, .int .i64 x4] 23)).alloc (.cells #[.int .i64 x1, .int .i64 0, .int .i64 0, .int .i64 x4, .int .i64 0, .int .i64 0, .int .i64 0, .int .i64 x4] 23)).keep hN)
        have HO_5 := Lib.hid (((Has.new_at w4 23 #[.int .i64 x1, .int .i64 0, .int .i64 0, .int .i64 x4] (w4.heap.size) (by simp)).alloc (.cells #[.int .i64 x1, .int .i64 0, .int .i64 0, .int .i64 x4, .int .i64 0, .int .i64 0, .int .i64 0, .int .i64 x4] 23)).keep hN)
        have HN_5 := Lib.hid (((HN_4.out.alloc (.cells #[.int .i64 x1, .int .i64 0, .int .i64 0, .int .i64 x4] 23)).alloc (.cells #[.int .i64 x1, .int .i64 0, .int .i64 0, .int .i64 x4, .int .i64 0, .int .i64 0, .int .i64 0, .int .i64 x4] 23)).then_new hN)
        clear HP_4 HK_4 HB_4 HN_4 cP0 cP1 cP2 cP3 cP4 cP5 cP6 cP7 cP8 cP9 cP10 cP11 cP12 cP13 lP cK0 cK1 cK2 cK3 lK cB0 cB1 cB2 cB3 lB hN
        have cP0 : w5.cell? ⟨w.heap.size, 0, none⟩ = some (.int .i64 x0) := (HP_5.out.cell 0).trans rfl
        have cP1 : w5.cell? ⟨w.heap.size, 1, none⟩ = some (.int .i64 x1) := (HP_5.out.cell 1).trans rfl
        have cP2 : w5.cell? ⟨w.heap.size, 2, none⟩ = some (.int .i64 x2) := (HP_5.out.cell 2).trans rfl
        have cP3 : w5.cell? ⟨w.heap.size, 3, none⟩ = some (.int .i64 x3) := (HP_5.out.cell 3).trans rfl
        have cP4 : w5.cell? ⟨w.heap.size, 4, none⟩ = some (.int .i64 x4) := (HP_5.out.cell 4).trans rfl
        have cP5 : w5.cell? ⟨w.heap.size, 5, none⟩ = some (.int .i64 x5) := (HP_5.out.cell 5).trans rfl
        have cP6 : w5.cell? ⟨w.heap.size, 6, none⟩ = some (.int .i64 x6) := (HP_5.out.cell 6).trans rfl
        have cP7 : w5.cell? ⟨w.heap.size, 7, none⟩ = some (.int .i64 x7) := (HP_5.out.cell 7).trans rfl
        have cP8 : w5.cell? ⟨w.heap.size, 8, none⟩ = some (.bool x8) := (HP_5.out.cell 8).trans rfl
        have cP9 : w5.cell? ⟨w.heap.size, 9, none⟩ = some (.int .i64 x9) := (HP_5.out.cell 9).trans rfl
        have cP10 : w5.cell? ⟨w.heap.size, 10, none⟩ = some (.int .i64 x10) := (HP_5.out.cell 10).trans rfl
        have cP11 : w5.cell? ⟨w.heap.size, 11, none⟩ = some (.int .i64 x11) := (HP_5.out.cell 11).trans rfl
        have cP12 : w5.cell? ⟨w.heap.size, 12, none⟩ = some (.int .i64 x12) := (HP_5.out.cell 12).trans rfl
        have cP13 : w5.cell? ⟨w.heap.size, 13, none⟩ = some (.bool x13) := (HP_5.out.cell 13).trans rfl
        have lP := HP_5.out.lt
        have cK0 : w5.cell? ⟨w2.heap.size, 0, none⟩ = some (.int .i64 x1) := (HK_5.out.cell 0).trans rfl
        have cK1 : w5.cell? ⟨w2.heap.size, 1, none⟩ = some (.int .i64 x0) := (HK_5.out.cell 1).trans rfl
        have cK2 : w5.cell? ⟨w2.heap.size, 2, none⟩ = some (.int .i64 x3) := (HK_5.out.cell 2).trans rfl
        have cK3 : w5.cell? ⟨w2.heap.size, 3, none⟩ = some (.int .i64 x4) := (HK_5.out.cell 3).trans rfl
        have lK := HK_5.out.lt
        have cB0 : w5.cell? ⟨w3.heap.size, 0, none⟩ = some (.int .i64 op) := (HB_5.out.cell 0).trans rfl
        have cB1 : w5.cell? ⟨w3.heap.size, 1, none⟩ = some (.int .i64 0) := (HB_5.out.cell 1).trans rfl
        have cB2 : w5.cell? ⟨w3.heap.size, 2, none⟩ = some (.int .i64 0) := (HB_5.out.cell 2).trans rfl
        have cB3 : w5.cell? ⟨w3.heap.size, 3, none⟩ = some (.int .i64 ver) := (HB_5.out.cell 3).trans rfl
        have lB := HB_5.out.lt
        have cO0 : w5.cell? ⟨w4.heap.size, 0, none⟩ = some (.int .i64 x1) := (HO_5.out.cell 0).trans rfl
        have cO1 : w5.cell? ⟨w4.heap.size, 1, none⟩ = some (.int .i64 0) := (HO_5.out.cell 1).trans rfl
        have cO2 : w5.cell? ⟨w4.heap.size, 2, none⟩ = some (.int .i64 0) := (HO_5.out.cell 2).trans rfl
        have cO3 : w5.cell? ⟨w4.heap.size, 3, none⟩ = some (.int .i64 x4) := (HO_5.out.cell 3).trans rfl
        have lO := HO_5.out.lt
        go_wp2_with fail
        with_reducible refine (HLv.out _).mono ?_
        rintro e w6 ⟨rfl, hN⟩
        have HP_6 := Lib.hid (HP_5.out.keep hN)
        have HK_6 := Lib.hid (HK_5.out.keep hN)
        have HB_6 := Lib.hid (HB_5.out.keep hN)
        have HO_6 := Lib.hid (HO_5.out.keep hN)
        have HN_6 := Lib.hid (HN_5.out.then_new hN)
        clear HP_5 HK_5 HB_5 HO_5 HN_5 cP0 cP1 cP2 cP3 cP4 cP5 cP6 cP7 cP8 cP9 cP10 cP11 cP12 cP13 lP cK0 cK1 cK2 cK3 lK cB0 cB1 cB2 cB3 lB cO0 cO1 cO2 cO3 lO hN
        have cP0 : w6.cell? ⟨w.heap.size, 0, none⟩ = some (.int .i64 x0) := (HP_6.out.cell 0).trans rfl
        have cP1 : w6.cell? ⟨w.heap.size, 1, none⟩ = some (.int .i64 x1) := (HP_6.out.cell 1).trans rfl
        have cP2 : w6.cell? ⟨w.heap.size, 2, none⟩ = some (.int .i64 x2) := (HP_6.out.cell 2).trans rfl
        have cP3 : w6.cell? ⟨w.heap.size, 3, none⟩ = some (.int .i64 x3) := (HP_6.out.cell 3).trans rfl
        have cP4 : w6.cell? ⟨w.heap.size, 4, none⟩ = some (.int .i64 x4) := (HP_6.out.cell 4).trans rfl
        have cP5 : w6.cell? ⟨w.heap.size, 5, none⟩ = some (.int .i64 x5) := (HP_6.out.cell 5).trans rfl
        have cP6 : w6.cell? ⟨w.heap.size, 6, none⟩ = some (.int .i64 x6) := (HP_6.out.cell 6).trans rfl
        have cP7 : w6.cell? ⟨w.heap.size, 7, none⟩ = some (.int .i64 x7) := (HP_6.out.cell 7).trans rfl
        have cP8 : w6.cell? ⟨w.heap.size, 8, none⟩ = some (.bool x8) := (HP_6.out.cell 8).trans rfl
        have cP9 : w6.cell? ⟨w.heap.size, 9, none⟩ = some (.int .i64 x9) := (HP_6.out.cell 9).trans rfl
        have cP10 : w6.cell? ⟨w.heap.size, 10, none⟩ = some (.int .i64 x10) := (HP_6.out.cell 10).trans rfl
        have cP11 : w6.cell? ⟨w.heap.size, 11, none⟩ = some (.int .i64 x11) := (HP_6.out.cell 11).trans rfl
        have cP12 : w6.cell? ⟨w.heap.size, 12, none⟩ = some (.int .i64 x12) := (HP_6.out.cell 12).trans rfl
        have cP13 : w6.cell? ⟨w.heap.size, 13, none⟩ = some (.bool x13) := (HP_6.out.cell 13).trans rfl
        have lP := HP_6.out.lt
        have cK0 : w6.cell? ⟨w2.heap.size, 0, none⟩ = some (.int .i64 x1) := (HK_6.out.cell 0).trans rfl
        have cK1 : w6.cell? ⟨w2.heap.size, 1, none⟩ = some (.int .i64 x0) := (HK_6.out.cell 1).trans rfl
        have cK2 : w6.cell? ⟨w2.heap.size, 2, none⟩ = some (.int .i64 x3) := (HK_6.out.cell 2).trans rfl
        have cK3 : w6.cell? ⟨w2.heap.size, 3, none⟩ = some (.int .i64 x4) := (HK_6.out.cell 3).trans rfl
        have lK := HK_6.out.lt
        have cB0 : w6.cell? ⟨w3.heap.size, 0, none⟩ = some (.int .i64 op) := (HB_6.out.cell 0).trans rfl
        have cB1 : w6.cell? ⟨w3.heap.size, 1, none⟩ = some (.int .i64 0) := (HB_6.out.cell 1).trans rfl
        have cB2 : w6.cell? ⟨w3.heap.size, 2, none⟩ = some (.int .i64 0) := (HB_6.out.cell 2).trans rfl
        have cB3 : w6.cell? ⟨w3.heap.size, 3, none⟩ = some (.int .i64 ver) := (HB_6.out.cell 3).trans rfl
        have lB := HB_6.out.lt
        have cO0 : w6.cell? ⟨w4.heap.size, 0, none⟩ = some (.int .i64 x1) := (HO_6.out.cell 0).trans rfl
        have cO1 : w6.cell? ⟨w4.heap.size, 1, none⟩ = some (.int .i64 0) := (HO_6.out.cell 1).trans rfl
        have cO2 : w6.cell? ⟨w4.heap.size, 2, none⟩ = some (.int .i64 0) := (HO_6.out.cell 2).trans rfl
        have cO3 : w6.cell? ⟨w4.heap.size, 3, none⟩ = some (.int .i64 x4) := (HO_6.out.cell 3).trans rfl
        have lO := HO_6.out.lt
        go_wp2_with fail
        with_reducible refine (From_any ⟨x1, 0, 0, x4⟩ _ 1 1 _ _ _ (Kys.one (k := ⟨x1, x0, x3, x4⟩) (Has.new w6 23 _)) (fun k hk => by rw [hk]; simp) (by omega)).mono ?_
        rintro e w7 ⟨rfl, hN⟩
        rw [frB_one, Hall.out.2.2]
        have HP_7 := Lib.hid ((HP_6.out.alloc (.cells #[.int .i64 x1, .int .i64 x0, .int .i64 x3, .int .i64 x4] 23)).keep hN)
        have HK_7 := Lib.hid ((HK_6.out.alloc (.cells #[.int .i64 x1, .int .i64 x0, .int .i64 x3, .int .i64 x4] 23)).keep hN)
        have HB_7 := Lib.hid ((HB_6.out.alloc (.cells #[.int .i64 x1, .int .i64 x0, .int .i64 x3, .int .i64 x4] 23)).keep hN)
        have HO_7 := Lib.hid ((HO_6.out.alloc (.cells #[.int .i64 x1, .int .i64 x0, .int .i64 x3, .int .i64 x4] 23)).keep hN)
        have HN_7 := Lib.hid ((HN_6.out.alloc (.cells #[.int .i64 x1, .int .i64 x0, .int .i64 x3, .int .i64 x4] 23)).then_new hN)
        clear HP_6 HK_6 HB_6 HO_6 HN_6 cP0 cP1 cP2 cP3 cP4 cP5 cP6 cP7 cP8 cP9 cP10 cP11 cP12 cP13 lP cK0 cK1 cK2 cK3 lK cB0 cB1 cB2 cB3 lB cO0 cO1 cO2 cO3 lO hN
        have cP0 : w7.cell? ⟨w.heap.size, 0, none⟩ = some (.int .i64 x0) := (HP_7.out.cell 0).trans rfl
        have cP1 : w7.cell? ⟨w.heap.size, 1, none⟩ = some (.int .i64 x1) := (HP_7.out.cell 1).trans rfl
        have cP2 : w7.cell? ⟨w.heap.size, 2, none⟩ = some (.int .i64 x2) := (HP_7.out.cell 2).trans rfl
        have cP3 : w7.cell? ⟨w.heap.size, 3, none⟩ = some (.int .i64 x3) := (HP_7.out.cell 3).trans rfl
        have cP4 : w7.cell? ⟨w.heap.size, 4, none⟩ = some (.int .i64 x4) := (HP_7.out.cell 4).trans rfl
        have cP5 : w7.cell? ⟨w.heap.size, 5, none⟩ = some (.int .i64 x5) := (HP_7.out.cell 5).trans rfl
        have cP6 : w7.cell? ⟨w.heap.size, 6, none⟩ = some (.int .i64 x6) := (HP_7.out.cell 6).trans rfl
        have cP7 : w7.cell? ⟨w.heap.size, 7, none⟩ = some (.int .i64 x7) := (HP_7.out.cell 7).trans rfl
        have cP8 : w7.cell? ⟨w.heap.size, 8, none⟩ = some (.bool x8) := (HP_7.out.cell 8).trans rfl
        have cP9 : w7.cell? ⟨w.heap.size, 9, none⟩ = some (.int .i64 x9) := (HP_7.out.cell 9).trans rfl
        have cP10 : w7.cell? ⟨w.heap.size, 10, none⟩ = some (.int .i64 x10) := (HP_7.out.cell 10).trans rfl
        have cP11 : w7.cell? ⟨w.heap.size, 11, none⟩ = some (.int .i64 x11) := (HP_7.out.cell 11).trans rfl
        have cP12 : w7.cell? ⟨w.heap.size, 12, none⟩ = some (.int .i64 x12) := (HP_7.out.cell 12).trans rfl
        have cP13 : w7.cell? ⟨w.heap.size, 13, none⟩ = some (.bool x13) := (HP_7.out.cell 13).trans rfl
        have lP := HP_7.out.lt
        have cK0 : w7.cell? ⟨w2.heap.size, 0, none⟩ = some (.int .i64 x1) := (HK_7.out.cell 0).trans rfl
        have cK1 : w7.cell? ⟨w2.heap.size, 1, none⟩ = some (.int .i64 x0) := (HK_7.out.cell 1).trans rfl
        have cK2 : w7.cell? ⟨w2.heap.size, 2, none⟩ = some (.int .i64 x3) := (HK_7.out.cell 2).trans rfl
        have cK3 : w7.cell? ⟨w2.heap.size, 3, none⟩ = some (.int .i64 x4) := (HK_7.out.cell 3).trans rfl
        have lK := HK_7.out.lt
        have cB0 : w7.cell? ⟨w3.heap.size, 0, none⟩ = some (.int .i64 op) := (HB_7.out.cell 0).trans rfl
        have cB1 : w7.cell? ⟨w3.heap.size, 1, none⟩ = some (.int .i64 0) := (HB_7.out.cell 1).trans rfl
        have cB2 : w7.cell? ⟨w3.heap.size, 2, none⟩ = some (.int .i64 0) := (HB_7.out.cell 2).trans rfl
        have cB3 : w7.cell? ⟨w3.heap.size, 3, none⟩ = some (.int .i64 ver) := (HB_7.out.cell 3).trans rfl
        have lB := HB_7.out.lt
        have cO0 : w7.cell? ⟨w4.heap.size, 0, none⟩ = some (.int .i64 x1) := (HO_7.out.cell 0).trans rfl
        have cO1 : w7.cell? ⟨w4.heap.size, 1, none⟩ = some (.int .i64 0) := (HO_7.out.cell 1).trans rfl
        have cO2 : w7.cell? ⟨w4.heap.size, 2, none⟩ = some (.int .i64 0) := (HO_7.out.cell 2).trans rfl
        have cO3 : w7.cell? ⟨w4.heap.size, 3, none⟩ = some (.int .i64 x4) := (HO_7.out.cell 3).trans rfl
        have lO := HO_7.out.lt
        have HK : Hid (∀ wx, New w7 wx → (wx.cell? ⟨w.heap.size, 1, none⟩ = some (.int .i64 x1) ∧ wx.cell? ⟨w.heap.size, 4, none⟩ = some (.int .i64 x4) ∧ wx.cell? ⟨w2.heap.size, 0, none⟩ = some (.int .i64 x1) ∧ wx.cell? ⟨w2.heap.size, 1, none⟩ = some (.int .i64 x0) ∧ wx.cell? ⟨w2.heap.size, 2, none⟩ = some (.int .i64 x3) ∧ wx.cell? ⟨w2.heap.size, 3, none⟩ = some (.int .i64 x4) ∧ wx.cell? ⟨w3.heap.size, 0, none⟩ = some (.int .i64 op) ∧ wx.cell? ⟨w3.heap.size, 1, none⟩ = some (.int .i64 0) ∧ wx.cell? ⟨w3.heap.size, 2, none⟩ = some (.int .i64 0) ∧ wx.cell? ⟨w3.heap.size, 3, none⟩ = some (.int .i64 ver))) := fun wx h => ⟨((HP_7.out.keep h).cell 1).trans rfl, ((HP_7.out.keep h).cell 4).trans rfl, ((HK_7.out.keep h).cell 0).trans rfl, ((HK_7.out.keep h).cell 1).trans rfl, ((HK_7.out.keep h).cell 2).trans rfl, ((HK_7.out.keep h).cell 3).trans rfl, ((HB_7.out.keep h).cell 0).trans rfl, ((HB_7.out.keep h).cell 1).trans rfl, ((HB_7.out.keep h).cell 2).trans rfl, ((HB_7.out.keep h).cell 3).trans rfl⟩
        go_wp2_with fail
        go_region_held_law (fun wx => wx.cell? ⟨w.heap.size, 1, none⟩ = some (.int .i64 x1) ∧ wx.cell? ⟨w.heap.size, 4, none⟩ = some (.int .i64 x4) ∧ wx.cell? ⟨w2.heap.size, 0, none⟩ = some (.int .i64 x1) ∧ wx.cell? ⟨w2.heap.size, 1, none⟩ = some (.int .i64 x0) ∧ wx.cell? ⟨w2.heap.size, 2, none⟩ = some (.int .i64 x3) ∧ wx.cell? ⟨w2.heap.size, 3, none⟩ = some (.int .i64 x4) ∧ wx.cell? ⟨w3.heap.size, 0, none⟩ = some (.int .i64 op) ∧ wx.cell? ⟨w3.heap.size, 1, none⟩ = some (.int .i64 0) ∧ wx.cell? ⟨w3.heap.size, 2, none⟩ = some (.int .i64 0) ∧ wx.cell? ⟨w3.heap.size, 3, none⟩ = some (.int .i64 ver))
          (with_reducible refine HK.out _ ?_; exact (by ((with_reducible repeat (first | exact Chg.refl _ _ | refine Chg.drew ?_ | refine Chg.alloc ?_ _ | refine Chg.then_new ?_ HN_A.out)))))
          (first
            | (go_at_call 18
               with_reducible refine (From_any ⟨x1, x0, x3, x4⟩ _ 1 1 _ _ _ (Kys.one (k := ⟨op, 0, 0, ver⟩) (Has.drew (Has.new w7 23 _))) (fun k hk => by rw [hk]; simp) (by omega)).mono ?_
               rintro e wA ⟨rfl, hNA⟩
               rw [frB_one, Hoth.out]
               have HN_A := Lib.hid hNA
               clear hNA))
        all_goals
          go_wp2_with fail
          go_ret
          refine ⟨?_, ?_⟩
          · cases b1 <;> rfl
          · exact Chg.then_new HN_7.out (Chg.then_new (Chg.drew ((Chg.refl _ _).alloc _)) HN_A.out)
      | false =>
        change Hid (∀ w, Calls Try.prog 20 _ w fun e w' => e = .returned (.tuple #[.agg #[.int .i64 x1, .int .i64 x0, .int .i64 x3, .int .i64 x4], .int .i64 0]) ∧ New w w') at HPr
        change Hid (∀ w, Calls Try.prog 21 _ w fun e w' => e = .returned (.tuple #[.agg #[.int .i64 op, .int .i64 0, .int .i64 0, .int .i64 ver], .int .i64 0]) ∧ New w w') at HBa
        go_enter Try.func7, Try.ntmps7
        go_wp2_with fail
        with_reducible refine (awake_any _).mono ?_
        rintro e w1 ⟨rfl, hN⟩
        have HP_1 := Lib.hid ((Has.new_at w 41 #[.int .i64 x0, .int .i64 x1, .int .i64 x2, .int .i64 x3, .int .i64 x4, .int .i64 x5, .int .i64 x6, .int .i64 x7, .bool x8, .int .i64 x9, .int .i64 x10, .int .i64 x11, .int .i64 x12, .bool x13] (w.heap.size) (by simp)).keep hN)
        have HN_1 := Lib.hid (((Chg.refl (fun _ => False) w).alloc (.cells #[.int .i64 x0, .int .i64 x1, .int .i64 x2, .int .i64 x3, .int .i64 x4, .int .i64 x5, .int .i64 x6, .int .i64 x7, .bool x8, .int .i64 x9, .int .i64 x10, .int .i64 x11, .int .i64 x12, .bool x13] 41)).then_new hN)
        clear hN
        have cP0 : w1.cell? ⟨w.heap.size, 0, none⟩ = some (.int .i64 x0) := (HP_1.out.cell 0).trans rfl
        have cP1 : w1.cell? ⟨w.heap.size, 1, none⟩ = some (.int .i64 x1) := (HP_1.out.cell 1).trans rfl
        have cP2 : w1.cell? ⟨w.heap.size, 2, none⟩ = some (.int .i64 x2) := (HP_1.out.cell 2).trans rfl
        have cP3 : w1.cell? ⟨w.heap.size, 3, none⟩ = some (.int .i64 x3) := (HP_1.out.cell 3).trans rfl
        have cP4 : w1.cell? ⟨w.heap.size, 4, none⟩ = some (.int .i64 x4) := (HP_1.out.cell 4).trans rfl
        have cP5 : w1.cell? ⟨w.heap.size, 5, none⟩ = some (.int .i64 x5) := (HP_1.out.cell 5).trans rfl
        have cP6 : w1.cell? ⟨w.heap.size, 6, none⟩ = some (.int .i64 x6) := (HP_1.out.cell 6).trans rfl
        have cP7 : w1.cell? ⟨w.heap.size, 7, none⟩ = some (.int .i64 x7) := (HP_1.out.cell 7).trans rfl
        have cP8 : w1.cell? ⟨w.heap.size, 8, none⟩ = some (.bool x8) := (HP_1.out.cell 8).trans rfl
        have cP9 : w1.cell? ⟨w.heap.size, 9, none⟩ = some (.int .i64 x9) := (HP_1.out.cell 9).trans rfl
        have cP10 : w1.cell? ⟨w.heap.size, 10, none⟩ = some (.int .i64 x10) := (HP_1.out.cell 10).trans rfl
        have cP11 : w1.cell? ⟨w.heap.size, 11, none⟩ = some (.int .i64 x11) := (HP_1.out.cell 11).trans rfl
        have cP12 : w1.cell? ⟨w.heap.size, 12, none⟩ = some (.int .i64 x12) := (HP_1.out.cell 12).trans rfl
        have cP13 : w1.cell? ⟨w.heap.size, 13, none⟩ = some (.bool x13) := (HP_1.out.cell 13).trans rfl
        have lP := HP_1.out.lt
        go_wp2_with fail
        with_reducible refine (HPr.out _).mono ?_
        rintro e w2 ⟨rfl, hN⟩
        have HP_2 := Lib.hid (HP_1.out.keep hN)
        have HN_2 := Lib.hid (HN_1.out.then_new hN)
        clear HP_1 HN_1 cP0 cP1 cP2 cP3 cP4 cP5 cP6 cP7 cP8 cP9 cP10 cP11 cP12 cP13 lP hN
        have cP0 : w2.cell? ⟨w.heap.size, 0, none⟩ = some (.int .i64 x0) := (HP_2.out.cell 0).trans rfl
        have cP1 : w2.cell? ⟨w.heap.size, 1, none⟩ = some (.int .i64 x1) := (HP_2.out.cell 1).trans rfl
        have cP2 : w2.cell? ⟨w.heap.size, 2, none⟩ = some (.int .i64 x2) := (HP_2.out.cell 2).trans rfl
        have cP3 : w2.cell? ⟨w.heap.size, 3, none⟩ = some (.int .i64 x3) := (HP_2.out.cell 3).trans rfl
        have cP4 : w2.cell? ⟨w.heap.size, 4, none⟩ = some (.int .i64 x4) := (HP_2.out.cell 4).trans rfl
        have cP5 : w2.cell? ⟨w.heap.size, 5, none⟩ = some (.int .i64 x5) := (HP_2.out.cell 5).trans rfl
        have cP6 : w2.cell? ⟨w.heap.size, 6, none⟩ = some (.int .i64 x6) := (HP_2.out.cell 6).trans rfl
        have cP7 : w2.cell? ⟨w.heap.size, 7, none⟩ = some (.int .i64 x7) := (HP_2.out.cell 7).trans rfl
        have cP8 : w2.cell? ⟨w.heap.size, 8, none⟩ = some (.bool x8) := (HP_2.out.cell 8).trans rfl
        have cP9 : w2.cell? ⟨w.heap.size, 9, none⟩ = some (.int .i64 x9) := (HP_2.out.cell 9).trans rfl
        have cP10 : w2.cell? ⟨w.heap.size, 10, none⟩ = some (.int .i64 x10) := (HP_2.out.cell 10).trans rfl
        have cP11 : w2.cell? ⟨w.heap.size, 11, none⟩ = some (.int .i64 x11) := (HP_2.out.cell 11).trans rfl
        have cP12 : w2.cell? ⟨w.heap.size, 12, none⟩ = some (.int .i64 x12) := (HP_2.out.cell 12).trans rfl
        have cP13 : w2.cell? ⟨w.heap.size, 13, none⟩ = some (.bool x13) := (HP_2.out.cell 13).trans rfl
        have lP := HP_2.out.lt
        go_wp2_with fail
        with_reducible refine (HBa.out _).mono ?_
        rintro e w3 ⟨rfl, hN⟩
        have HP_3 := Lib.hid ((HP_2.out.alloc (.cells #[.int .i64 x1, .int .i64 x0, .int .i64 x3, .int .i64 x4] 23)).keep hN)
        have HK_3 := Lib.hid ((Has.new_at w2 23 #[.int .i64 x1, .int .i64 x0, .int .i64 x3, .int .i64 x4] (w2.heap.size) (by simp)).keep hN)
        have HN_3 := Lib.hid ((HN_2.out.alloc (.cells #[.int .i64 x1, .int .i64 x0, .int .i64 x3, .int .i64 x4] 23)).then_new hN)
        clear HP_2 HN_2 cP0 cP1 cP2 cP3 cP4 cP5 cP6 cP7 cP8 cP9 cP10 cP11 cP12 cP13 lP hN
        have cP0 : w3.cell? ⟨w.heap.size, 0, none⟩ = some (.int .i64 x0) := (HP_3.out.cell 0).trans rfl
        have cP1 : w3.cell? ⟨w.heap.size, 1, none⟩ = some (.int .i64 x1) := (HP_3.out.cell 1).trans rfl
        have cP2 : w3.cell? ⟨w.heap.size, 2, none⟩ = some (.int .i64 x2) := (HP_3.out.cell 2).trans rfl
        have cP3 : w3.cell? ⟨w.heap.size, 3, none⟩ = some (.int .i64 x3) := (HP_3.out.cell 3).trans rfl
        have cP4 : w3.cell? ⟨w.heap.size, 4, none⟩ = some (.int .i64 x4) := (HP_3.out.cell 4).trans rfl
        have cP5 : w3.cell? ⟨w.heap.size, 5, none⟩ = some (.int .i64 x5) := (HP_3.out.cell 5).trans rfl
        have cP6 : w3.cell? ⟨w.heap.size, 6, none⟩ = some (.int .i64 x6) := (HP_3.out.cell 6).trans rfl
        have cP7 : w3.cell? ⟨w.heap.size, 7, none⟩ = some (.int .i64 x7) := (HP_3.out.cell 7).trans rfl
        have cP8 : w3.cell? ⟨w.heap.size, 8, none⟩ = some (.bool x8) := (HP_3.out.cell 8).trans rfl
        have cP9 : w3.cell? ⟨w.heap.size, 9, none⟩ = some (.int .i64 x9) := (HP_3.out.cell 9).trans rfl
        have cP10 : w3.cell? ⟨w.heap.size, 10, none⟩ = some (.int .i64 x10) := (HP_3.out.cell 10).trans rfl
        have cP11 : w3.cell? ⟨w.heap.size, 11, none⟩ = some (.int .i64 x11) := (HP_3.out.cell 11).trans rfl
        have cP12 : w3.cell? ⟨w.heap.size, 12, none⟩ = some (.int .i64 x12) := (HP_3.out.cell 12).trans rfl
        have cP13 : w3.cell? ⟨w.heap.size, 13, none⟩ = some (.bool x13) := (HP_3.out.cell 13).trans rfl
        have lP := HP_3.out.lt
        have cK0 : w3.cell? ⟨w2.heap.size, 0, none⟩ = some (.int .i64 x1) := (HK_3.out.cell 0).trans rfl
        have cK1 : w3.cell? ⟨w2.heap.size, 1, none⟩ = some (.int .i64 x0) := (HK_3.out.cell 1).trans rfl
        have cK2 : w3.cell? ⟨w2.heap.size, 2, none⟩ = some (.int .i64 x3) := (HK_3.out.cell 2).trans rfl
        have cK3 : w3.cell? ⟨w2.heap.size, 3, none⟩ = some (.int .i64 x4) := (HK_3.out.cell 3).trans rfl
        have lK := HK_3.out.lt
        go_wp2_with fail
        with_reducible refine (HOw.out _).mono ?_
        rintro e w4 ⟨rfl, hN⟩
        have HP_4 := Lib.hid ((HP_3.out.alloc (.cells #[.int .i64 op, .int .i64 0, .int .i64 0, .int .i64 ver] 23)).keep hN)
        have HK_4 := Lib.hid ((HK_3.out.alloc (.cells #[.int .i64 op, .int .i64 0, .int .i64 0, .int .i64 ver] 23)).keep hN)
        have HB_4 := Lib.hid ((Has.new_at w3 23 #[.int .i64 op, .int .i64 0, .int .i64 0, .int .i64 ver] (w3.heap.size) (by simp)).keep hN)
        have HN_4 := Lib.hid ((HN_3.out.alloc (.cells #[.int .i64 op, .int .i64 0, .int .i64 0, .int .i64 ver] 23)).then_new hN)
        clear HP_3 HK_3 HN_3 cP0 cP1 cP2 cP3 cP4 cP5 cP6 cP7 cP8 cP9 cP10 cP11 cP12 cP13 lP cK0 cK1 cK2 cK3 lK hN
        have cP0 : w4.cell? ⟨w.heap.size, 0, none⟩ = some (.int .i64 x0) := (HP_4.out.cell 0).trans rfl
        have cP1 : w4.cell? ⟨w.heap.size, 1, none⟩ = some (.int .i64 x1) := (HP_4.out.cell 1).trans rfl
        have cP2 : w4.cell? ⟨w.heap.size, 2, none⟩ = some (.int .i64 x2) := (HP_4.out.cell 2).trans rfl
        have cP3 : w4.cell? ⟨w.heap.size, 3, none⟩ = some (.int .i64 x3) := (HP_4.out.cell 3).trans rfl
        have cP4 : w4.cell? ⟨w.heap.size, 4, none⟩ = some (.int .i64 x4) := (HP_4.out.cell 4).trans rfl
        have cP5 : w4.cell? ⟨w.heap.size, 5, none⟩ = some (.int .i64 x5) := (HP_4.out.cell 5).trans rfl
        have cP6 : w4.cell? ⟨w.heap.size, 6, none⟩ = some (.int .i64 x6) := (HP_4.out.cell 6).trans rfl
        have cP7 : w4.cell? ⟨w.heap.size, 7, none⟩ = some (.int .i64 x7) := (HP_4.out.cell 7).trans rfl
        have cP8 : w4.cell? ⟨w.heap.size, 8, none⟩ = some (.bool x8) := (HP_4.out.cell 8).trans rfl
        have cP9 : w4.cell? ⟨w.heap.size, 9, none⟩ = some (.int .i64 x9) := (HP_4.out.cell 9).trans rfl
        have cP10 : w4.cell? ⟨w.heap.size, 10, none⟩ = some (.int .i64 x10) := (HP_4.out.cell 10).trans rfl
        have cP11 : w4.cell? ⟨w.heap.size, 11, none⟩ = some (.int .i64 x11) := (HP_4.out.cell 11).trans rfl
        have cP12 : w4.cell? ⟨w.heap.size, 12, none⟩ = some (.int .i64 x12) := (HP_4.out.cell 12).trans rfl
        have cP13 : w4.cell? ⟨w.heap.size, 13, none⟩ = some (.bool x13) := (HP_4.out.cell 13).trans rfl
        have lP := HP_4.out.lt
        have cK0 : w4.cell? ⟨w2.heap.size, 0, none⟩ = some (.int .i64 x1) := (HK_4.out.cell 0).trans rfl
        have cK1 : w4.cell? ⟨w2.heap.size, 1, none⟩ = some (.int .i64 x0) := (HK_4.out.cell 1).trans rfl
        have cK2 : w4.cell? ⟨w2.heap.size, 2, none⟩ = some (.int .i64 x3) := (HK_4.out.cell 2).trans rfl
        have cK3 : w4.cell? ⟨w2.heap.size, 3, none⟩ = some (.int .i64 x4) := (HK_4.out.cell 3).trans rfl
        have lK := HK_4.out.lt
        have cB0 : w4.cell? ⟨w3.heap.size, 0, none⟩ = some (.int .i64 op) := (HB_4.out.cell 0).trans rfl
        have cB1 : w4.cell? ⟨w3.heap.size, 1, none⟩ = some (.int .i64 0) := (HB_4.out.cell 1).trans rfl
        have cB2 : w4.cell? ⟨w3.heap.size, 2, none⟩ = some (.int .i64 0) := (HB_4.out.cell 2).trans rfl
        have cB3 : w4.cell? ⟨w3.heap.size, 3, none⟩ = some (.int .i64 ver) := (HB_4.out.cell 3).trans rfl
        have lB := HB_4.out.lt
        go_wp2_with fail
        with_reducible refine (From_any ⟨x1, x0, x3, x4⟩ _ 2 2 _ _ _ (Kys.two (k := ⟨x1, 0, 0, x4⟩) (l := ⟨0, 0, 0, x4⟩) (Has.new_at (w4.alloc (.cells #[.int .i64 x1, .int .i64 0, .int .i64 0, .int .i64 x4] 23)) 23 _ (w4.heap.size + 1) (by simp))) (fun k hk => by rw [hk]; simp) (by omega)).mono ?_
        rintro e w5 ⟨rfl, hN⟩
        rw [Hall.out.2.1]
        have HP_5 := Lib.hid (((HP_4.out.alloc (.cells #[.int .i64 x1, .int .i64 0, .int .i64 0, .int .i64 x4] 23)).alloc (.cells #[.int .i64 x1, .int .i64 0, .int .i64 0, .int .i64 x4, .int .i64 0, .int .i64 0, .int .i64 0, .int .i64 x4] 23)).keep hN)
        have HK_5 := Lib.hid (((HK_4.out.alloc (.cells #[.int .i64 x1, .int .i64 0, .int .i64 0, .int .i64 x4] 23)).alloc (.cells #[.int .i64 x1, .int .i64 0, .int .i64 0, .int .i64 x4, .int .i64 0, .int .i64 0, .int .i64 0, .int .i64 x4] 23)).keep hN)
        have HB_5 := Lib.hid (((HB_4.out.alloc (.cells #[.int .i64 x1, .int .i64 0, .int .i64 0, .int .i64 x4] 23)).alloc (.cells #[.int .i64 x1, .int .i64 0, .int .i64 0, .int .i64 x4, .int .i64 0, .int .i64 0, .int .i64 0, .int .i64 x4] 23)).keep hN)
        have HO_5 := Lib.hid (((Has.new_at w4 23 #[.int .i64 x1, .int .i64 0, .int .i64 0, .int .i64 x4] (w4.heap.size) (by simp)).alloc (.cells #[.int .i64 x1, .int .i64 0, .int .i64 0, .int .i64 x4, .int .i64 0, .int .i64 0, .int .i64 0, .int .i64 x4] 23)).keep hN)
        have HN_5 := Lib.hid (((HN_4.out.alloc (.cells #[.int .i64 x1, .int .i64 0, .int .i64 0, .int .i64 x4] 23)).alloc (.cells #[.int .i64 x1, .int .i64 0, .int .i64 0, .int .i64 x4, .int .i64 0, .int .i64 0, .int .i64 0, .int .i64 x4] 23)).then_new hN)
        clear HP_4 HK_4 HB_4 HN_4 cP0 cP1 cP2 cP3 cP4 cP5 cP6 cP7 cP8 cP9 cP10 cP11 cP12 cP13 lP cK0 cK1 cK2 cK3 lK cB0 cB1 cB2 cB3 lB hN
        have cP0 : w5.cell? ⟨w.heap.size, 0, none⟩ = some (.int .i64 x0) := (HP_5.out.cell 0).trans rfl
        have cP1 : w5.cell? ⟨w.heap.size, 1, none⟩ = some (.int .i64 x1) := (HP_5.out.cell 1).trans rfl
        have cP2 : w5.cell? ⟨w.heap.size, 2, none⟩ = some (.int .i64 x2) := (HP_5.out.cell 2).trans rfl
        have cP3 : w5.cell? ⟨w.heap.size, 3, none⟩ = some (.int .i64 x3) := (HP_5.out.cell 3).trans rfl
        have cP4 : w5.cell? ⟨w.heap.size, 4, none⟩ = some (.int .i64 x4) := (HP_5.out.cell 4).trans rfl
        have cP5 : w5.cell? ⟨w.heap.size, 5, none⟩ = some (.int .i64 x5) := (HP_5.out.cell 5).trans rfl
        have cP6 : w5.cell? ⟨w.heap.size, 6, none⟩ = some (.int .i64 x6) := (HP_5.out.cell 6).trans rfl
        have cP7 : w5.cell? ⟨w.heap.size, 7, none⟩ = some (.int .i64 x7) := (HP_5.out.cell 7).trans rfl
        have cP8 : w5.cell? ⟨w.heap.size, 8, none⟩ = some (.bool x8) := (HP_5.out.cell 8).trans rfl
        have cP9 : w5.cell? ⟨w.heap.size, 9, none⟩ = some (.int .i64 x9) := (HP_5.out.cell 9).trans rfl
        have cP10 : w5.cell? ⟨w.heap.size, 10, none⟩ = some (.int .i64 x10) := (HP_5.out.cell 10).trans rfl
        have cP11 : w5.cell? ⟨w.heap.size, 11, none⟩ = some (.int .i64 x11) := (HP_5.out.cell 11).trans rfl
        have cP12 : w5.cell? ⟨w.heap.size, 12, none⟩ = some (.int .i64 x12) := (HP_5.out.cell 12).trans rfl
        have cP13 : w5.cell? ⟨w.heap.size, 13, none⟩ = some (.bool x13) := (HP_5.out.cell 13).trans rfl
        have lP := HP_5.out.lt
        have cK0 : w5.cell? ⟨w2.heap.size, 0, none⟩ = some (.int .i64 x1) := (HK_5.out.cell 0).trans rfl
        have cK1 : w5.cell? ⟨w2.heap.size, 1, none⟩ = some (.int .i64 x0) := (HK_5.out.cell 1).trans rfl
        have cK2 : w5.cell? ⟨w2.heap.size, 2, none⟩ = some (.int .i64 x3) := (HK_5.out.cell 2).trans rfl
        have cK3 : w5.cell? ⟨w2.heap.size, 3, none⟩ = some (.int .i64 x4) := (HK_5.out.cell 3).trans rfl
        have lK := HK_5.out.lt
        have cB0 : w5.cell? ⟨w3.heap.size, 0, none⟩ = some (.int .i64 op) := (HB_5.out.cell 0).trans rfl
        have cB1 : w5.cell? ⟨w3.heap.size, 1, none⟩ = some (.int .i64 0) := (HB_5.out.cell 1).trans rfl
        have cB2 : w5.cell? ⟨w3.heap.size, 2, none⟩ = some (.int .i64 0) := (HB_5.out.cell 2).trans rfl
        have cB3 : w5.cell? ⟨w3.heap.size, 3, none⟩ = some (.int .i64 ver) := (HB_5.out.cell 3).trans rfl
        have lB := HB_5.out.lt
        have cO0 : w5.cell? ⟨w4.heap.size, 0, none⟩ = some (.int .i64 x1) := (HO_5.out.cell 0).trans rfl
        have cO1 : w5.cell? ⟨w4.heap.size, 1, none⟩ = some (.int .i64 0) := (HO_5.out.cell 1).trans rfl
        have cO2 : w5.cell? ⟨w4.heap.size, 2, none⟩ = some (.int .i64 0) := (HO_5.out.cell 2).trans rfl
        have cO3 : w5.cell? ⟨w4.heap.size, 3, none⟩ = some (.int .i64 x4) := (HO_5.out.cell 3).trans rfl
        have lO := HO_5.out.lt
        go_wp2_with fail
        with_reducible refine (HLv.out _).mono ?_
        rintro e w6 ⟨rfl, hN⟩
        have HP_6 := Lib.hid (HP_5.out.keep hN)
        have HK_6 := Lib.hid (HK_5.out.keep hN)
        have HB_6 := Lib.hid (HB_5.out.keep hN)
        have HO_6 := Lib.hid (HO_5.out.keep hN)
        have HN_6 := Lib.hid (HN_5.out.then_new hN)
        clear HP_5 HK_5 HB_5 HO_5 HN_5 cP0 cP1 cP2 cP3 cP4 cP5 cP6 cP7 cP8 cP9 cP10 cP11 cP12 cP13 lP cK0 cK1 cK2 cK3 lK cB0 cB1 cB2 cB3 lB cO0 cO1 cO2 cO3 lO hN
        have cP0 : w6.cell? ⟨w.heap.size, 0, none⟩ = some (.int .i64 x0) := (HP_6.out.cell 0).trans rfl
        have cP1 : w6.cell? ⟨w.heap.size, 1, none⟩ = some (.int .i64 x1) := (HP_6.out.cell 1).trans rfl
        have cP2 : w6.cell? ⟨w.heap.size, 2, none⟩ = some (.int .i64 x2) := (HP_6.out.cell 2).trans rfl
        have cP3 : w6.cell? ⟨w.heap.size, 3, none⟩ = some (.int .i64 x3) := (HP_6.out.cell 3).trans rfl
        have cP4 : w6.cell? ⟨w.heap.size, 4, none⟩ = some (.int .i64 x4) := (HP_6.out.cell 4).trans rfl
        have cP5 : w6.cell? ⟨w.heap.size, 5, none⟩ = some (.int .i64 x5) := (HP_6.out.cell 5).trans rfl
        have cP6 : w6.cell? ⟨w.heap.size, 6, none⟩ = some (.int .i64 x6) := (HP_6.out.cell 6).trans rfl
        have cP7 : w6.cell? ⟨w.heap.size, 7, none⟩ = some (.int .i64 x7) := (HP_6.out.cell 7).trans rfl
        have cP8 : w6.cell? ⟨w.heap.size, 8, none⟩ = some (.bool x8) := (HP_6.out.cell 8).trans rfl
        have cP9 : w6.cell? ⟨w.heap.size, 9, none⟩ = some (.int .i64 x9) := (HP_6.out.cell 9).trans rfl
        have cP10 : w6.cell? ⟨w.heap.size, 10, none⟩ = some (.int .i64 x10) := (HP_6.out.cell 10).trans rfl
        have cP11 : w6.cell? ⟨w.heap.size, 11, none⟩ = some (.int .i64 x11) := (HP_6.out.cell 11).trans rfl
        have cP12 : w6.cell? ⟨w.heap.size, 12, none⟩ = some (.int .i64 x12) := (HP_6.out.cell 12).trans rfl
        have cP13 : w6.cell? ⟨w.heap.size, 13, none⟩ = some (.bool x13) := (HP_6.out.cell 13).trans rfl
        have lP := HP_6.out.lt
        have cK0 : w6.cell? ⟨w2.heap.size, 0, none⟩ = some (.int .i64 x1) := (HK_6.out.cell 0).trans rfl
        have cK1 : w6.cell? ⟨w2.heap.size, 1, none⟩ = some (.int .i64 x0) := (HK_6.out.cell 1).trans rfl
        have cK2 : w6.cell? ⟨w2.heap.size, 2, none⟩ = some (.int .i64 x3) := (HK_6.out.cell 2).trans rfl
        have cK3 : w6.cell? ⟨w2.heap.size, 3, none⟩ = some (.int .i64 x4) := (HK_6.out.cell 3).trans rfl
        have lK := HK_6.out.lt
        have cB0 : w6.cell? ⟨w3.heap.size, 0, none⟩ = some (.int .i64 op) := (HB_6.out.cell 0).trans rfl
        have cB1 : w6.cell? ⟨w3.heap.size, 1, none⟩ = some (.int .i64 0) := (HB_6.out.cell 1).trans rfl
        have cB2 : w6.cell? ⟨w3.heap.size, 2, none⟩ = some (.int .i64 0) := (HB_6.out.cell 2).trans rfl
        have cB3 : w6.cell? ⟨w3.heap.size, 3, none⟩ = some (.int .i64 ver) := (HB_6.out.cell 3).trans rfl
        have lB := HB_6.out.lt
        have cO0 : w6.cell? ⟨w4.heap.size, 0, none⟩ = some (.int .i64 x1) := (HO_6.out.cell 0).trans rfl
        have cO1 : w6.cell? ⟨w4.heap.size, 1, none⟩ = some (.int .i64 0) := (HO_6.out.cell 1).trans rfl
        have cO2 : w6.cell? ⟨w4.heap.size, 2, none⟩ = some (.int .i64 0) := (HO_6.out.cell 2).trans rfl
        have cO3 : w6.cell? ⟨w4.heap.size, 3, none⟩ = some (.int .i64 x4) := (HO_6.out.cell 3).trans rfl
        have lO := HO_6.out.lt
        go_wp2_with fail
        with_reducible refine (From_any ⟨x1, 0, 0, x4⟩ _ 1 1 _ _ _ (Kys.one (k := ⟨x1, x0, x3, x4⟩) (Has.new w6 23 _)) (fun k hk => by rw [hk]; simp) (by omega)).mono ?_
        rintro e w7 ⟨rfl, hN⟩
        rw [frB_one, Hall.out.2.2]
        have HP_7 := Lib.hid ((HP_6.out.alloc (.cells #[.int .i64 x1, .int .i64 x0, .int .i64 x3, .int .i64 x4] 23)).keep hN)
        have HK_7 := Lib.hid ((HK_6.out.alloc (.cells #[.int .i64 x1, .int .i64 x0, .int .i64 x3, .int .i64 x4] 23)).keep hN)
        have HB_7 := Lib.hid ((HB_6.out.alloc (.cells #[.int .i64 x1, .int .i64 x0, .int .i64 x3, .int .i64 x4] 23)).keep hN)
        have HO_7 := Lib.hid ((HO_6.out.alloc (.cells #[.int .i64 x1, .int .i64 x0, .int .i64 x3, .int .i64 x4] 23)).keep hN)
        have HN_7 := Lib.hid ((HN_6.out.alloc (.cells #[.int .i64 x1, .int .i64 x0, .int .i64 x3, .int .i64 x4] 23)).then_new hN)
        clear HP_6 HK_6 HB_6 HO_6 HN_6 cP0 cP1 cP2 cP3 cP4 cP5 cP6 cP7 cP8 cP9 cP10 cP11 cP12 cP13 lP cK0 cK1 cK2 cK3 lK cB0 cB1 cB2 cB3 lB cO0 cO1 cO2 cO3 lO hN
        have cP0 : w7.cell? ⟨w.heap.size, 0, none⟩ = some (.int .i64 x0) := (HP_7.out.cell 0).trans rfl
        have cP1 : w7.cell? ⟨w.heap.size, 1, none⟩ = some (.int .i64 x1) := (HP_7.out.cell 1).trans rfl
        have cP2 : w7.cell? ⟨w.heap.size, 2, none⟩ = some (.int .i64 x2) := (HP_7.out.cell 2).trans rfl
        have cP3 : w7.cell? ⟨w.heap.size, 3, none⟩ = some (.int .i64 x3) := (HP_7.out.cell 3).trans rfl
        have cP4 : w7.cell? ⟨w.heap.size, 4, none⟩ = some (.int .i64 x4) := (HP_7.out.cell 4).trans rfl
        have cP5 : w7.cell? ⟨w.heap.size, 5, none⟩ = some (.int .i64 x5) := (HP_7.out.cell 5).trans rfl
        have cP6 : w7.cell? ⟨w.heap.size, 6, none⟩ = some (.int .i64 x6) := (HP_7.out.cell 6).trans rfl
        have cP7 : w7.cell? ⟨w.heap.size, 7, none⟩ = some (.int .i64 x7) := (HP_7.out.cell 7).trans rfl
        have cP8 : w7.cell? ⟨w.heap.size, 8, none⟩ = some (.bool x8) := (HP_7.out.cell 8).trans rfl
        have cP9 : w7.cell? ⟨w.heap.size, 9, none⟩ = some (.int .i64 x9) := (HP_7.out.cell 9).trans rfl
        have cP10 : w7.cell? ⟨w.heap.size, 10, none⟩ = some (.int .i64 x10) := (HP_7.out.cell 10).trans rfl
        have cP11 : w7.cell? ⟨w.heap.size, 11, none⟩ = some (.int .i64 x11) := (HP_7.out.cell 11).trans rfl
        have cP12 : w7.cell? ⟨w.heap.size, 12, none⟩ = some (.int .i64 x12) := (HP_7.out.cell 12).trans rfl
        have cP13 : w7.cell? ⟨w.heap.size, 13, none⟩ = some (.bool x13) := (HP_7.out.cell 13).trans rfl
        have lP := HP_7.out.lt
        have cK0 : w7.cell? ⟨w2.heap.size, 0, none⟩ = some (.int .i64 x1) := (HK_7.out.cell 0).trans rfl
        have cK1 : w7.cell? ⟨w2.heap.size, 1, none⟩ = some (.int .i64 x0) := (HK_7.out.cell 1).trans rfl
        have cK2 : w7.cell? ⟨w2.heap.size, 2, none⟩ = some (.int .i64 x3) := (HK_7.out.cell 2).trans rfl
        have cK3 : w7.cell? ⟨w2.heap.size, 3, none⟩ = some (.int .i64 x4) := (HK_7.out.cell 3).trans rfl
        have lK := HK_7.out.lt
        have cB0 : w7.cell? ⟨w3.heap.size, 0, none⟩ = some (.int .i64 op) := (HB_7.out.cell 0).trans rfl
        have cB1 : w7.cell? ⟨w3.heap.size, 1, none⟩ = some (.int .i64 0) := (HB_7.out.cell 1).trans rfl
        have cB2 : w7.cell? ⟨w3.heap.size, 2, none⟩ = some (.int .i64 0) := (HB_7.out.cell 2).trans rfl
        have cB3 : w7.cell? ⟨w3.heap.size, 3, none⟩ = some (.int .i64 ver) := (HB_7.out.cell 3).trans rfl
        have lB := HB_7.out.lt
        have cO0 : w7.cell? ⟨w4.heap.size, 0, none⟩ = some (.int .i64 x1) := (HO_7.out.cell 0).trans rfl
        have cO1 : w7.cell? ⟨w4.heap.size, 1, none⟩ = some (.int .i64 0) := (HO_7.out.cell 1).trans rfl
        have cO2 : w7.cell? ⟨w4.heap.size, 2, none⟩ = some (.int .i64 0) := (HO_7.out.cell 2).trans rfl
        have cO3 : w7.cell? ⟨w4.heap.size, 3, none⟩ = some (.int .i64 x4) := (HO_7.out.cell 3).trans rfl
        have lO := HO_7.out.lt
        have HK : Hid (∀ wx, New w7 wx → (wx.cell? ⟨w.heap.size, 1, none⟩ = some (.int .i64 x1) ∧ wx.cell? ⟨w.heap.size, 4, none⟩ = some (.int .i64 x4) ∧ wx.cell? ⟨w2.heap.size, 0, none⟩ = some (.int .i64 x1) ∧ wx.cell? ⟨w2.heap.size, 1, none⟩ = some (.int .i64 x0) ∧ wx.cell? ⟨w2.heap.size, 2, none⟩ = some (.int .i64 x3) ∧ wx.cell? ⟨w2.heap.size, 3, none⟩ = some (.int .i64 x4) ∧ wx.cell? ⟨w3.heap.size, 0, none⟩ = some (.int .i64 op) ∧ wx.cell? ⟨w3.heap.size, 1, none⟩ = some (.int .i64 0) ∧ wx.cell? ⟨w3.heap.size, 2, none⟩ = some (.int .i64 0) ∧ wx.cell? ⟨w3.heap.size, 3, none⟩ = some (.int .i64 ver))) := fun wx h => ⟨((HP_7.out.keep h).cell 1).trans rfl, ((HP_7.out.keep h).cell 4).trans rfl, ((HK_7.out.keep h).cell 0).trans rfl, ((HK_7.out.keep h).cell 1).trans rfl, ((HK_7.out.keep h).cell 2).trans rfl, ((HK_7.out.keep h).cell 3).trans rfl, ((HB_7.out.keep h).cell 0).trans rfl, ((HB_7.out.keep h).cell 1).trans rfl, ((HB_7.out.keep h).cell 2).trans rfl, ((HB_7.out.keep h).cell 3).trans rfl⟩
        go_wp2_with fail
        first
        | (go_region_with (first
            | (go_at_call 18
               with_reducible refine (From_any ⟨x1, x0, x3, x4⟩ _ 1 1 _ _ _ (Kys.one (k := ⟨op, 0, 0, ver⟩) (Has.drew (Has.new w7 23 _))) (fun k hk => by rw [hk]; simp) (by omega)).mono ?_
               rintro e wA ⟨rfl, hNA⟩
               rw [frB_one, Hoth.out]
               have HN_A := Lib.hid hNA
               have kA : wA.cell? ⟨w.heap.size, 1, none⟩ = some (.int .i64 x1) := ((HP_7.out.keep (Chg.then_new (Chg.drew ((Chg.refl _ _).alloc _)) hNA)).cell 1).trans rfl
               clear hNA)))
        | fail
        all_goals
          go_wp2_with fail
          go_ret
          refine ⟨?_, ?_⟩
          · cases b1 <;> rfl
          · exact Chg.then_new HN_7.out (Chg.then_new (Chg.drew ((Chg.refl _ _).alloc _)) HN_A.out)
    · simp only [if_neg h1] at HBa
      clear h1 h3
      change Hid (∀ w, Calls Try.prog 20 _ w fun e w' => e = .returned (.tuple #[.agg #[.int .i64 x1, .int .i64 x0, .int .i64 x3, .int .i64 x4], .int .i64 0]) ∧ New w w') at HPr
      change Hid (∀ w, Calls Try.prog 21 _ w fun e w' => e = .returned (.tuple #[.agg #[.int .i64 0, .int .i64 0, .int .i64 0, .int .i64 0], .int .i64 2]) ∧ New w w') at HBa
      go_enter Try.func7, Try.ntmps7
      go_wp2_with fail
      with_reducible refine (awake_any _).mono ?_
      rintro e w1 ⟨rfl, hN⟩
      have HP_1 := Lib.hid ((Has.new_at w 41 #[.int .i64 x0, .int .i64 x1, .int .i64 x2, .int .i64 x3, .int .i64 x4, .int .i64 x5, .int .i64 x6, .int .i64 x7, .bool x8, .int .i64 x9, .int .i64 x10, .int .i64 x11, .int .i64 x12, .bool x13] (w.heap.size) (by simp)).keep hN)
      have HN_1 := Lib.hid (((Chg.refl (fun _ => False) w).alloc (.cells #[.int .i64 x0, .int .i64 x1, .int .i64 x2, .int .i64 x3, .int .i64 x4, .int .i64 x5, .int .i64 x6, .int .i64 x7, .bool x8, .int .i64 x9, .int .i64 x10, .int .i64 x11, .int .i64 x12, .bool x13] 41)).then_new hN)
      clear hN
      have cP0 : w1.cell? ⟨w.heap.size, 0, none⟩ = some (.int .i64 x0) := (HP_1.out.cell 0).trans rfl
      have cP1 : w1.cell? ⟨w.heap.size, 1, none⟩ = some (.int .i64 x1) := (HP_1.out.cell 1).trans rfl
      have cP2 : w1.cell? ⟨w.heap.size, 2, none⟩ = some (.int .i64 x2) := (HP_1.out.cell 2).trans rfl
      have cP3 : w1.cell? ⟨w.heap.size, 3, none⟩ = some (.int .i64 x3) := (HP_1.out.cell 3).trans rfl
      have cP4 : w1.cell? ⟨w.heap.size, 4, none⟩ = some (.int .i64 x4) := (HP_1.out.cell 4).trans rfl
      have cP5 : w1.cell? ⟨w.heap.size, 5, none⟩ = some (.int .i64 x5) := (HP_1.out.cell 5).trans rfl
      have cP6 : w1.cell? ⟨w.heap.size, 6, none⟩ = some (.int .i64 x6) := (HP_1.out.cell 6).trans rfl
      have cP7 : w1.cell? ⟨w.heap.size, 7, none⟩ = some (.int .i64 x7) := (HP_1.out.cell 7).trans rfl
      have cP8 : w1.cell? ⟨w.heap.size, 8, none⟩ = some (.bool x8) := (HP_1.out.cell 8).trans rfl
      have cP9 : w1.cell? ⟨w.heap.size, 9, none⟩ = some (.int .i64 x9) := (HP_1.out.cell 9).trans rfl
      have cP10 : w1.cell? ⟨w.heap.size, 10, none⟩ = some (.int .i64 x10) := (HP_1.out.cell 10).trans rfl
      have cP11 : w1.cell? ⟨w.heap.size, 11, none⟩ = some (.int .i64 x11) := (HP_1.out.cell 11).trans rfl
      have cP12 : w1.cell? ⟨w.heap.size, 12, none⟩ = some (.int .i64 x12) := (HP_1.out.cell 12).trans rfl
      have cP13 : w1.cell? ⟨w.heap.size, 13, none⟩ = some (.bool x13) := (HP_1.out.cell 13).trans rfl
      have lP := HP_1.out.lt
      go_wp2_with fail
      with_reducible refine (HPr.out _).mono ?_
      rintro e w2 ⟨rfl, hN⟩
      have HP_2 := Lib.hid (HP_1.out.keep hN)
      have HN_2 := Lib.hid (HN_1.out.then_new hN)
      clear HP_1 HN_1 cP0 cP1 cP2 cP3 cP4 cP5 cP6 cP7 cP8 cP9 cP10 cP11 cP12 cP13 lP hN
      have cP0 : w2.cell? ⟨w.heap.size, 0, none⟩ = some (.int .i64 x0) := (HP_2.out.cell 0).trans rfl
      have cP1 : w2.cell? ⟨w.heap.size, 1, none⟩ = some (.int .i64 x1) := (HP_2.out.cell 1).trans rfl
      have cP2 : w2.cell? ⟨w.heap.size, 2, none⟩ = some (.int .i64 x2) := (HP_2.out.cell 2).trans rfl
      have cP3 : w2.cell? ⟨w.heap.size, 3, none⟩ = some (.int .i64 x3) := (HP_2.out.cell 3).trans rfl
      have cP4 : w2.cell? ⟨w.heap.size, 4, none⟩ = some (.int .i64 x4) := (HP_2.out.cell 4).trans rfl
      have cP5 : w2.cell? ⟨w.heap.size, 5, none⟩ = some (.int .i64 x5) := (HP_2.out.cell 5).trans rfl
      have cP6 : w2.cell? ⟨w.heap.size, 6, none⟩ = some (.int .i64 x6) := (HP_2.out.cell 6).trans rfl
      have cP7 : w2.cell? ⟨w.heap.size, 7, none⟩ = some (.int .i64 x7) := (HP_2.out.cell 7).trans rfl
      have cP8 : w2.cell? ⟨w.heap.size, 8, none⟩ = some (.bool x8) := (HP_2.out.cell 8).trans rfl
      have cP9 : w2.cell? ⟨w.heap.size, 9, none⟩ = some (.int .i64 x9) := (HP_2.out.cell 9).trans rfl
      have cP10 : w2.cell? ⟨w.heap.size, 10, none⟩ = some (.int .i64 x10) := (HP_2.out.cell 10).trans rfl
      have cP11 : w2.cell? ⟨w.heap.size, 11, none⟩ = some (.int .i64 x11) := (HP_2.out.cell 11).trans rfl
      have cP12 : w2.cell? ⟨w.heap.size, 12, none⟩ = some (.int .i64 x12) := (HP_2.out.cell 12).trans rfl
      have cP13 : w2.cell? ⟨w.heap.size, 13, none⟩ = some (.bool x13) := (HP_2.out.cell 13).trans rfl
      have lP := HP_2.out.lt
      go_wp2_with fail
      with_reducible refine (HBa.out _).mono ?_
      rintro e w3 ⟨rfl, hN⟩
      have HP_3 := Lib.hid ((HP_2.out.alloc (.cells #[.int .i64 x1, .int .i64 x0, .int .i64 x3, .int .i64 x4] 23)).keep hN)
      have HK_3 := Lib.hid ((Has.new_at w2 23 #[.int .i64 x1, .int .i64 x0, .int .i64 x3, .int .i64 x4] (w2.heap.size) (by simp)).keep hN)
      have HN_3 := Lib.hid ((HN_2.out.alloc (.cells #[.int .i64 x1, .int .i64 x0, .int .i64 x3, .int .i64 x4] 23)).then_new hN)
      clear HP_2 HN_2 cP0 cP1 cP2 cP3 cP4 cP5 cP6 cP7 cP8 cP9 cP10 cP11 cP12 cP13 lP hN
      have cP0 : w3.cell? ⟨w.heap.size, 0, none⟩ = some (.int .i64 x0) := (HP_3.out.cell 0).trans rfl
      have cP1 : w3.cell? ⟨w.heap.size, 1, none⟩ = some (.int .i64 x1) := (HP_3.out.cell 1).trans rfl
      have cP2 : w3.cell? ⟨w.heap.size, 2, none⟩ = some (.int .i64 x2) := (HP_3.out.cell 2).trans rfl
      have cP3 : w3.cell? ⟨w.heap.size, 3, none⟩ = some (.int .i64 x3) := (HP_3.out.cell 3).trans rfl
      have cP4 : w3.cell? ⟨w.heap.size, 4, none⟩ = some (.int .i64 x4) := (HP_3.out.cell 4).trans rfl
      have cP5 : w3.cell? ⟨w.heap.size, 5, none⟩ = some (.int .i64 x5) := (HP_3.out.cell 5).trans rfl
      have cP6 : w3.cell? ⟨w.heap.size, 6, none⟩ = some (.int .i64 x6) := (HP_3.out.cell 6).trans rfl
      have cP7 : w3.cell? ⟨w.heap.size, 7, none⟩ = some (.int .i64 x7) := (HP_3.out.cell 7).trans rfl
      have cP8 : w3.cell? ⟨w.heap.size, 8, none⟩ = some (.bool x8) := (HP_3.out.cell 8).trans rfl
      have cP9 : w3.cell? ⟨w.heap.size, 9, none⟩ = some (.int .i64 x9) := (HP_3.out.cell 9).trans rfl
      have cP10 : w3.cell? ⟨w.heap.size, 10, none⟩ = some (.int .i64 x10) := (HP_3.out.cell 10).trans rfl
      have cP11 : w3.cell? ⟨w.heap.size, 11, none⟩ = some (.int .i64 x11) := (HP_3.out.cell 11).trans rfl
      have cP12 : w3.cell? ⟨w.heap.size, 12, none⟩ = some (.int .i64 x12) := (HP_3.out.cell 12).trans rfl
      have cP13 : w3.cell? ⟨w.heap.size, 13, none⟩ = some (.bool x13) := (HP_3.out.cell 13).trans rfl
      have lP := HP_3.out.lt
      have cK0 : w3.cell? ⟨w2.heap.size, 0, none⟩ = some (.int .i64 x1) := (HK_3.out.cell 0).trans rfl
      have cK1 : w3.cell? ⟨w2.heap.size, 1, none⟩ = some (.int .i64 x0) := (HK_3.out.cell 1).trans rfl
      have cK2 : w3.cell? ⟨w2.heap.size, 2, none⟩ = some (.int .i64 x3) := (HK_3.out.cell 2).trans rfl
      have cK3 : w3.cell? ⟨w2.heap.size, 3, none⟩ = some (.int .i64 x4) := (HK_3.out.cell 3).trans rfl
      have lK := HK_3.out.lt
      go_wp2_with fail
      with_reducible refine (HOw.out _).mono ?_
      rintro e w4 ⟨rfl, hN⟩
      have HP_4 := Lib.hid ((HP_3.out.alloc (.cells #[.int .i64 0, .int .i64 0, .int .i64 0, .int .i64 0] 23)).keep hN)
      have HK_4 := Lib.hid ((HK_3.out.alloc (.cells #[.int .i64 0, .int .i64 0, .int .i64 0, .int .i64 0] 23)).keep hN)
      have HB_4 := Lib.hid ((Has.new_at w3 23 #[.int .i64 0, .int .i64 0, .int .i64 0, .int .i64 0] (w3.heap.size) (by simp)).keep hN)
      have HN_4 := Lib.hid ((HN_3.out.alloc (.cells #[.int .i64 0, .int .i64 0, .int .i64 0, .int .i64 0] 23)).then_new hN)
      clear HP_3 HK_3 HN_3 cP0 cP1 cP2 cP3 cP4 cP5 cP6 cP7 cP8 cP9 cP10 cP11 cP12 cP13 lP cK0 cK1 cK2 cK3 lK hN
      have cP0 : w4.cell? ⟨w.heap.size, 0, none⟩ = some (.int .i64 x0) := (HP_4.out.cell 0).trans rfl
      have cP1 : w4.cell? ⟨w.heap.size, 1, none⟩ = some (.int .i64 x1) := (HP_4.out.cell 1).trans rfl
      have cP2 : w4.cell? ⟨w.heap.size, 2, none⟩ = some (.int .i64 x2) := (HP_4.out.cell 2).trans rfl
      have cP3 : w4.cell? ⟨w.heap.size, 3, none⟩ = some (.int .i64 x3) := (HP_4.out.cell 3).trans rfl
      have cP4 : w4.cell? ⟨w.heap.size, 4, none⟩ = some (.int .i64 x4) := (HP_4.out.cell 4).trans rfl
      have cP5 : w4.cell? ⟨w.heap.size, 5, none⟩ = some (.int .i64 x5) := (HP_4.out.cell 5).trans rfl
      have cP6 : w4.cell? ⟨w.heap.size, 6, none⟩ = some (.int .i64 x6) := (HP_4.out.cell 6).trans rfl
      have cP7 : w4.cell? ⟨w.heap.size, 7, none⟩ = some (.int .i64 x7) := (HP_4.out.cell 7).trans rfl
      have cP8 : w4.cell? ⟨w.heap.size, 8, none⟩ = some (.bool x8) := (HP_4.out.cell 8).trans rfl
      have cP9 : w4.cell? ⟨w.heap.size, 9, none⟩ = some (.int .i64 x9) := (HP_4.out.cell 9).trans rfl
      have cP10 : w4.cell? ⟨w.heap.size, 10, none⟩ = some (.int .i64 x10) := (HP_4.out.cell 10).trans rfl
      have cP11 : w4.cell? ⟨w.heap.size, 11, none⟩ = some (.int .i64 x11) := (HP_4.out.cell 11).trans rfl
      have cP12 : w4.cell? ⟨w.heap.size, 12, none⟩ = some (.int .i64 x12) := (HP_4.out.cell 12).trans rfl
      have cP13 : w4.cell? ⟨w.heap.size, 13, none⟩ = some (.bool x13) := (HP_4.out.cell 13).trans rfl
      have lP := HP_4.out.lt
      have cK0 : w4.cell? ⟨w2.heap.size, 0, none⟩ = some (.int .i64 x1) := (HK_4.out.cell 0).trans rfl
      have cK1 : w4.cell? ⟨w2.heap.size, 1, none⟩ = some (.int .i64 x0) := (HK_4.out.cell 1).trans rfl
      have cK2 : w4.cell? ⟨w2.heap.size, 2, none⟩ = some (.int .i64 x3) := (HK_4.out.cell 2).trans rfl
      have cK3 : w4.cell? ⟨w2.heap.size, 3, none⟩ = some (.int .i64 x4) := (HK_4.out.cell 3).trans rfl
      have lK := HK_4.out.lt
      have cB0 : w4.cell? ⟨w3.heap.size, 0, none⟩ = some (.int .i64 0) := (HB_4.out.cell 0).trans rfl
      have cB1 : w4.cell? ⟨w3.heap.size, 1, none⟩ = some (.int .i64 0) := (HB_4.out.cell 1).trans rfl
      have cB2 : w4.cell? ⟨w3.heap.size, 2, none⟩ = some (.int .i64 0) := (HB_4.out.cell 2).trans rfl
      have cB3 : w4.cell? ⟨w3.heap.size, 3, none⟩ = some (.int .i64 0) := (HB_4.out.cell 3).trans rfl
      have lB := HB_4.out.lt
      go_wp2_with fail
      with_reducible refine (From_any ⟨x1, x0, x3, x4⟩ _ 2 2 _ _ _ (Kys.two (k := ⟨x1, 0, 0, x4⟩) (l := ⟨0, 0, 0, x4⟩) (Has.new_at (w4.alloc (.cells #[.int .i64 x1, .int .i64 0, .int .i64 0, .int .i64 x4] 23)) 23 _ (w4.heap.size + 1) (by simp))) (fun k hk => by rw [hk]; simp) (by omega)).mono ?_
      rintro e w5 ⟨rfl, hN⟩
      rw [Hall.out.2.1]
      have HP_5 := Lib.hid (((HP_4.out.alloc (.cells #[.int .i64 x1, .int .i64 0, .int .i64 0, .int .i64 x4] 23)).alloc (.cells #[.int .i64 x1, .int .i64 0, .int .i64 0, .int .i64 x4, .int .i64 0, .int .i64 0, .int .i64 0, .int .i64 x4] 23)).keep hN)
      have HK_5 := Lib.hid (((HK_4.out.alloc (.cells #[.int .i64 x1, .int .i64 0, .int .i64 0, .int .i64 x4] 23)).alloc (.cells #[.int .i64 x1, .int .i64 0, .int .i64 0, .int .i64 x4, .int .i64 0, .int .i64 0, .int .i64 0, .int .i64 x4] 23)).keep hN)
      have HB_5 := Lib.hid (((HB_4.out.alloc (.cells #[.int .i64 x1, .int .i64 0, .int .i64 0, .int .i64 x4] 23)).alloc (.cells #[.int .i64 x1, .int .i64 0, .int .i64 0, .int .i64 x4, .int .i64 0, .int .i64 0, .int .i64 0, .int .i64 x4] 23)).keep hN)
      have HO_5 := Lib.hid (((Has.new_at w4 23 #[.int .i64 x1, .int .i64 0, .int .i64 0, .int .i64 x4] (w4.heap.size) (by simp)).alloc (.cells #[.int .i64 x1, .int .i64 0, .int .i64 0, .int .i64 x4, .int .i64 0, .int .i64 0, .int .i64 0, .int .i64 x4] 23)).keep hN)
      have HN_5 := Lib.hid (((HN_4.out.alloc (.cells #[.int .i64 x1, .int .i64 0, .int .i64 0, .int .i64 x4] 23)).alloc (.cells #[.int .i64 x1, .int .i64 0, .int .i64 0, .int .i64 x4, .int .i64 0, .int .i64 0, .int .i64 0, .int .i64 x4] 23)).then_new hN)
      clear HP_4 HK_4 HB_4 HN_4 cP0 cP1 cP2 cP3 cP4 cP5 cP6 cP7 cP8 cP9 cP10 cP11 cP12 cP13 lP cK0 cK1 cK2 cK3 lK cB0 cB1 cB2 cB3 lB hN
      have cP0 : w5.cell? ⟨w.heap.size, 0, none⟩ = some (.int .i64 x0) := (HP_5.out.cell 0).trans rfl
      have cP1 : w5.cell? ⟨w.heap.size, 1, none⟩ = some (.int .i64 x1) := (HP_5.out.cell 1).trans rfl
      have cP2 : w5.cell? ⟨w.heap.size, 2, none⟩ = some (.int .i64 x2) := (HP_5.out.cell 2).trans rfl
      have cP3 : w5.cell? ⟨w.heap.size, 3, none⟩ = some (.int .i64 x3) := (HP_5.out.cell 3).trans rfl
      have cP4 : w5.cell? ⟨w.heap.size, 4, none⟩ = some (.int .i64 x4) := (HP_5.out.cell 4).trans rfl
      have cP5 : w5.cell? ⟨w.heap.size, 5, none⟩ = some (.int .i64 x5) := (HP_5.out.cell 5).trans rfl
      have cP6 : w5.cell? ⟨w.heap.size, 6, none⟩ = some (.int .i64 x6) := (HP_5.out.cell 6).trans rfl
      have cP7 : w5.cell? ⟨w.heap.size, 7, none⟩ = some (.int .i64 x7) := (HP_5.out.cell 7).trans rfl
      have cP8 : w5.cell? ⟨w.heap.size, 8, none⟩ = some (.bool x8) := (HP_5.out.cell 8).trans rfl
      have cP9 : w5.cell? ⟨w.heap.size, 9, none⟩ = some (.int .i64 x9) := (HP_5.out.cell 9).trans rfl
      have cP10 : w5.cell? ⟨w.heap.size, 10, none⟩ = some (.int .i64 x10) := (HP_5.out.cell 10).trans rfl
      have cP11 : w5.cell? ⟨w.heap.size, 11, none⟩ = some (.int .i64 x11) := (HP_5.out.cell 11).trans rfl
      have cP12 : w5.cell? ⟨w.heap.size, 12, none⟩ = some (.int .i64 x12) := (HP_5.out.cell 12).trans rfl
      have cP13 : w5.cell? ⟨w.heap.size, 13, none⟩ = some (.bool x13) := (HP_5.out.cell 13).trans rfl
      have lP := HP_5.out.lt
      have cK0 : w5.cell? ⟨w2.heap.size, 0, none⟩ = some (.int .i64 x1) := (HK_5.out.cell 0).trans rfl
      have cK1 : w5.cell? ⟨w2.heap.size, 1, none⟩ = some (.int .i64 x0) := (HK_5.out.cell 1).trans rfl
      have cK2 : w5.cell? ⟨w2.heap.size, 2, none⟩ = some (.int .i64 x3) := (HK_5.out.cell 2).trans rfl
      have cK3 : w5.cell? ⟨w2.heap.size, 3, none⟩ = some (.int .i64 x4) := (HK_5.out.cell 3).trans rfl
      have lK := HK_5.out.lt
      have cB0 : w5.cell? ⟨w3.heap.size, 0, none⟩ = some (.int .i64 0) := (HB_5.out.cell 0).trans rfl
      have cB1 : w5.cell? ⟨w3.heap.size, 1, none⟩ = some (.int .i64 0) := (HB_5.out.cell 1).trans rfl
      have cB2 : w5.cell? ⟨w3.heap.size, 2, none⟩ = some (.int .i64 0) := (HB_5.out.cell 2).trans rfl
      have cB3 : w5.cell? ⟨w3.heap.size, 3, none⟩ = some (.int .i64 0) := (HB_5.out.cell 3).trans rfl
      have lB := HB_5.out.lt
      have cO0 : w5.cell? ⟨w4.heap.size, 0, none⟩ = some (.int .i64 x1) := (HO_5.out.cell 0).trans rfl
      have cO1 : w5.cell? ⟨w4.heap.size, 1, none⟩ = some (.int .i64 0) := (HO_5.out.cell 1).trans rfl
      have cO2 : w5.cell? ⟨w4.heap.size, 2, none⟩ = some (.int .i64 0) := (HO_5.out.cell 2).trans rfl
      have cO3 : w5.cell? ⟨w4.heap.size, 3, none⟩ = some (.int .i64 x4) := (HO_5.out.cell 3).trans rfl
      have lO := HO_5.out.lt
      go_wp2_with fail
      with_reducible refine (HLv.out _).mono ?_
      rintro e w6 ⟨rfl, hN⟩
      have HP_6 := Lib.hid (HP_5.out.keep hN)
      have HK_6 := Lib.hid (HK_5.out.keep hN)
      have HB_6 := Lib.hid (HB_5.out.keep hN)
      have HO_6 := Lib.hid (HO_5.out.keep hN)
      have HN_6 := Lib.hid (HN_5.out.then_new hN)
      clear HP_5 HK_5 HB_5 HO_5 HN_5 cP0 cP1 cP2 cP3 cP4 cP5 cP6 cP7 cP8 cP9 cP10 cP11 cP12 cP13 lP cK0 cK1 cK2 cK3 lK cB0 cB1 cB2 cB3 lB cO0 cO1 cO2 cO3 lO hN
      have cP0 : w6.cell? ⟨w.heap.size, 0, none⟩ = some (.int .i64 x0) := (HP_6.out.cell 0).trans rfl
      have cP1 : w6.cell? ⟨w.heap.size, 1, none⟩ = some (.int .i64 x1) := (HP_6.out.cell 1).trans rfl
      have cP2 : w6.cell? ⟨w.heap.size, 2, none⟩ = some (.int .i64 x2) := (HP_6.out.cell 2).trans rfl
      have cP3 : w6.cell? ⟨w.heap.size, 3, none⟩ = some (.int .i64 x3) := (HP_6.out.cell 3).trans rfl
      have cP4 : w6.cell? ⟨w.heap.size, 4, none⟩ = some (.int .i64 x4) := (HP_6.out.cell 4).trans rfl
      have cP5 : w6.cell? ⟨w.heap.size, 5, none⟩ = some (.int .i64 x5) := (HP_6.out.cell 5).trans rfl
      have cP6 : w6.cell? ⟨w.heap.size, 6, none⟩ = some (.int .i64 x6) := (HP_6.out.cell 6).trans rfl
      have cP7 : w6.cell? ⟨w.heap.size, 7, none⟩ = some (.int .i64 x7) := (HP_6.out.cell 7).trans rfl
      have cP8 : w6.cell? ⟨w.heap.size, 8, none⟩ = some (.bool x8) := (HP_6.out.cell 8).trans rfl
      have cP9 : w6.cell? ⟨w.heap.size, 9, none⟩ = some (.int .i64 x9) := (HP_6.out.cell 9).trans rfl
      have cP10 : w6.cell? ⟨w.heap.size, 10, none⟩ = some (.int .i64 x10) := (HP_6.out.cell 10).trans rfl
      have cP11 : w6.cell? ⟨w.heap.size, 11, none⟩ = some (.int .i64 x11) := (HP_6.out.cell 11).trans rfl
      have cP12 : w6.cell? ⟨w.heap.size, 12, none⟩ = some (.int .i64 x12) := (HP_6.out.cell 12).trans rfl
      have cP13 : w6.cell? ⟨w.heap.size, 13, none⟩ = some (.bool x13) := (HP_6.out.cell 13).trans rfl
      have lP := HP_6.out.lt
      have cK0 : w6.cell? ⟨w2.heap.size, 0, none⟩ = some (.int .i64 x1) := (HK_6.out.cell 0).trans rfl
      have cK1 : w6.cell? ⟨w2.heap.size, 1, none⟩ = some (.int .i64 x0) := (HK_6.out.cell 1).trans rfl
      have cK2 : w6.cell? ⟨w2.heap.size, 2, none⟩ = some (.int .i64 x3) := (HK_6.out.cell 2).trans rfl
      have cK3 : w6.cell? ⟨w2.heap.size, 3, none⟩ = some (.int .i64 x4) := (HK_6.out.cell 3).trans rfl
      have lK := HK_6.out.lt
      have cB0 : w6.cell? ⟨w3.heap.size, 0, none⟩ = some (.int .i64 0) := (HB_6.out.cell 0).trans rfl
      have cB1 : w6.cell? ⟨w3.heap.size, 1, none⟩ = some (.int .i64 0) := (HB_6.out.cell 1).trans rfl
      have cB2 : w6.cell? ⟨w3.heap.size, 2, none⟩ = some (.int .i64 0) := (HB_6.out.cell 2).trans rfl
      have cB3 : w6.cell? ⟨w3.heap.size, 3, none⟩ = some (.int .i64 0) := (HB_6.out.cell 3).trans rfl
      have lB := HB_6.out.lt
      have cO0 : w6.cell? ⟨w4.heap.size, 0, none⟩ = some (.int .i64 x1) := (HO_6.out.cell 0).trans rfl
      have cO1 : w6.cell? ⟨w4.heap.size, 1, none⟩ = some (.int .i64 0) := (HO_6.out.cell 1).trans rfl
      have cO2 : w6.cell? ⟨w4.heap.size, 2, none⟩ = some (.int .i64 0) := (HO_6.out.cell 2).trans rfl
      have cO3 : w6.cell? ⟨w4.heap.size, 3, none⟩ = some (.int .i64 x4) := (HO_6.out.cell 3).trans rfl
      have lO := HO_6.out.lt
      go_wp2_with fail
      with_reducible refine (From_any ⟨x1, 0, 0, x4⟩ _ 1 1 _ _ _ (Kys.one (k := ⟨x1, x0, x3, x4⟩) (Has.new w6 23 _)) (fun k hk => by rw [hk]; simp) (by omega)).mono ?_
      rintro e w7 ⟨rfl, hN⟩
      rw [frB_one, Hall.out.2.2]
      have HP_7 := Lib.hid ((HP_6.out.alloc (.cells #[.int .i64 x1, .int .i64 x0, .int .i64 x3, .int .i64 x4] 23)).keep hN)
      have HK_7 := Lib.hid ((HK_6.out.alloc (.cells #[.int .i64 x1, .int .i64 x0, .int .i64 x3, .int .i64 x4] 23)).keep hN)
      have HB_7 := Lib.hid ((HB_6.out.alloc (.cells #[.int .i64 x1, .int .i64 x0, .int .i64 x3, .int .i64 x4] 23)).keep hN)
      have HO_7 := Lib.hid ((HO_6.out.alloc (.cells #[.int .i64 x1, .int .i64 x0, .int .i64 x3, .int .i64 x4] 23)).keep hN)
      have HN_7 := Lib.hid ((HN_6.out.alloc (.cells #[.int .i64 x1, .int .i64 x0, .int .i64 x3, .int .i64 x4] 23)).then_new hN)
      clear HP_6 HK_6 HB_6 HO_6 HN_6 cP0 cP1 cP2 cP3 cP4 cP5 cP6 cP7 cP8 cP9 cP10 cP11 cP12 cP13 lP cK0 cK1 cK2 cK3 lK cB0 cB1 cB2 cB3 lB cO0 cO1 cO2 cO3 lO hN
      have cP0 : w7.cell? ⟨w.heap.size, 0, none⟩ = some (.int .i64 x0) := (HP_7.out.cell 0).trans rfl
      have cP1 : w7.cell? ⟨w.heap.size, 1, none⟩ = some (.int .i64 x1) := (HP_7.out.cell 1).trans rfl
      have cP2 : w7.cell? ⟨w.heap.size, 2, none⟩ = some (.int .i64 x2) := (HP_7.out.cell 2).trans rfl
      have cP3 : w7.cell? ⟨w.heap.size, 3, none⟩ = some (.int .i64 x3) := (HP_7.out.cell 3).trans rfl
      have cP4 : w7.cell? ⟨w.heap.size, 4, none⟩ = some (.int .i64 x4) := (HP_7.out.cell 4).trans rfl
      have cP5 : w7.cell? ⟨w.heap.size, 5, none⟩ = some (.int .i64 x5) := (HP_7.out.cell 5).trans rfl
      have cP6 : w7.cell? ⟨w.heap.size, 6, none⟩ = some (.int .i64 x6) := (HP_7.out.cell 6).trans rfl
      have cP7 : w7.cell? ⟨w.heap.size, 7, none⟩ = some (.int .i64 x7) := (HP_7.out.cell 7).trans rfl
      have cP8 : w7.cell? ⟨w.heap.size, 8, none⟩ = some (.bool x8) := (HP_7.out.cell 8).trans rfl
      have cP9 : w7.cell? ⟨w.heap.size, 9, none⟩ = some (.int .i64 x9) := (HP_7.out.cell 9).trans rfl
      have cP10 : w7.cell? ⟨w.heap.size, 10, none⟩ = some (.int .i64 x10) := (HP_7.out.cell 10).trans rfl
      have cP11 : w7.cell? ⟨w.heap.size, 11, none⟩ = some (.int .i64 x11) := (HP_7.out.cell 11).trans rfl
      have cP12 : w7.cell? ⟨w.heap.size, 12, none⟩ = some (.int .i64 x12) := (HP_7.out.cell 12).trans rfl
      have cP13 : w7.cell? ⟨w.heap.size, 13, none⟩ = some (.bool x13) := (HP_7.out.cell 13).trans rfl
      have lP := HP_7.out.lt
      have cK0 : w7.cell? ⟨w2.heap.size, 0, none⟩ = some (.int .i64 x1) := (HK_7.out.cell 0).trans rfl
      have cK1 : w7.cell? ⟨w2.heap.size, 1, none⟩ = some (.int .i64 x0) := (HK_7.out.cell 1).trans rfl
      have cK2 : w7.cell? ⟨w2.heap.size, 2, none⟩ = some (.int .i64 x3) := (HK_7.out.cell 2).trans rfl
      have cK3 : w7.cell? ⟨w2.heap.size, 3, none⟩ = some (.int .i64 x4) := (HK_7.out.cell 3).trans rfl
      have lK := HK_7.out.lt
      have cB0 : w7.cell? ⟨w3.heap.size, 0, none⟩ = some (.int .i64 0) := (HB_7.out.cell 0).trans rfl
      have cB1 : w7.cell? ⟨w3.heap.size, 1, none⟩ = some (.int .i64 0) := (HB_7.out.cell 1).trans rfl
      have cB2 : w7.cell? ⟨w3.heap.size, 2, none⟩ = some (.int .i64 0) := (HB_7.out.cell 2).trans rfl
      have cB3 : w7.cell? ⟨w3.heap.size, 3, none⟩ = some (.int .i64 0) := (HB_7.out.cell 3).trans rfl
      have lB := HB_7.out.lt
      have cO0 : w7.cell? ⟨w4.heap.size, 0, none⟩ = some (.int .i64 x1) := (HO_7.out.cell 0).trans rfl
      have cO1 : w7.cell? ⟨w4.heap.size, 1, none⟩ = some (.int .i64 0) := (HO_7.out.cell 1).trans rfl
      have cO2 : w7.cell? ⟨w4.heap.size, 2, none⟩ = some (.int .i64 0) := (HO_7.out.cell 2).trans rfl
      have cO3 : w7.cell? ⟨w4.heap.size, 3, none⟩ = some (.int .i64 x4) := (HO_7.out.cell 3).trans rfl
      have lO := HO_7.out.lt
      go_wp2_with fail
      go_ret
      exact ⟨rfl, HN_7.out⟩
  · simp only [if_neg h3] at HPr
    clear h3
    by_cases h1 : levI ⟨op, 0, 0, ver⟩ = 1
    · rw [h1] at HBa
      clear h1
      change Hid (∀ w, Calls Try.prog 20 _ w fun e w' => e = .returned (.tuple #[.agg #[.int .i64 0, .int .i64 0, .int .i64 0, .int .i64 0], .int .i64 2]) ∧ New w w') at HPr
      change Hid (∀ w, Calls Try.prog 21 _ w fun e w' => e = .returned (.tuple #[.agg #[.int .i64 op, .int .i64 0, .int .i64 0, .int .i64 ver], .int .i64 0]) ∧ New w w') at HBa
      go_enter Try.func7, Try.ntmps7
      go_wp2_with fail
      with_reducible refine (awake_any _).mono ?_
      rintro e w1 ⟨rfl, hN⟩
      have HP_1 := Lib.hid ((Has.new_at w 41 #[.int .i64 x0, .int .i64 x1, .int .i64 x2, .int .i64 x3, .int .i64 x4, .int .i64 x5, .int .i64 x6, .int .i64 x7, .bool x8, .int .i64 x9, .int .i64 x10, .int .i64 x11, .int .i64 x12, .bool x13] (w.heap.size) (by simp)).keep hN)
      have HN_1 := Lib.hid (((Chg.refl (fun _ => False) w).alloc (.cells #[.int .i64 x0, .int .i64 x1, .int .i64 x2, .int .i64 x3, .int .i64 x4, .int .i64 x5, .int .i64 x6, .int .i64 x7, .bool x8, .int .i64 x9, .int .i64 x10, .int .i64 x11, .int .i64 x12, .bool x13] 41)).then_new hN)
      clear hN
      have cP0 : w1.cell? ⟨w.heap.size, 0, none⟩ = some (.int .i64 x0) := (HP_1.out.cell 0).trans rfl
      have cP1 : w1.cell? ⟨w.heap.size, 1, none⟩ = some (.int .i64 x1) := (HP_1.out.cell 1).trans rfl
      have cP2 : w1.cell? ⟨w.heap.size, 2, none⟩ = some (.int .i64 x2) := (HP_1.out.cell 2).trans rfl
      have cP3 : w1.cell? ⟨w.heap.size, 3, none⟩ = some (.int .i64 x3) := (HP_1.out.cell 3).trans rfl
      have cP4 : w1.cell? ⟨w.heap.size, 4, none⟩ = some (.int .i64 x4) := (HP_1.out.cell 4).trans rfl
      have cP5 : w1.cell? ⟨w.heap.size, 5, none⟩ = some (.int .i64 x5) := (HP_1.out.cell 5).trans rfl
      have cP6 : w1.cell? ⟨w.heap.size, 6, none⟩ = some (.int .i64 x6) := (HP_1.out.cell 6).trans rfl
      have cP7 : w1.cell? ⟨w.heap.size, 7, none⟩ = some (.int .i64 x7) := (HP_1.out.cell 7).trans rfl
      have cP8 : w1.cell? ⟨w.heap.size, 8, none⟩ = some (.bool x8) := (HP_1.out.cell 8).trans rfl
      have cP9 : w1.cell? ⟨w.heap.size, 9, none⟩ = some (.int .i64 x9) := (HP_1.out.cell 9).trans rfl
      have cP10 : w1.cell? ⟨w.heap.size, 10, none⟩ = some (.int .i64 x10) := (HP_1.out.cell 10).trans rfl
      have cP11 : w1.cell? ⟨w.heap.size, 11, none⟩ = some (.int .i64 x11) := (HP_1.out.cell 11).trans rfl
      have cP12 : w1.cell? ⟨w.heap.size, 12, none⟩ = some (.int .i64 x12) := (HP_1.out.cell 12).trans rfl
      have cP13 : w1.cell? ⟨w.heap.size, 13, none⟩ = some (.bool x13) := (HP_1.out.cell 13).trans rfl
      have lP := HP_1.out.lt
      go_wp2_with fail
      with_reducible refine (HPr.out _).mono ?_
      rintro e w2 ⟨rfl, hN⟩
      have HP_2 := Lib.hid (HP_1.out.keep hN)
      have HN_2 := Lib.hid (HN_1.out.then_new hN)
      clear HP_1 HN_1 cP0 cP1 cP2 cP3 cP4 cP5 cP6 cP7 cP8 cP9 cP10 cP11 cP12 cP13 lP hN
      have cP0 : w2.cell? ⟨w.heap.size, 0, none⟩ = some (.int .i64 x0) := (HP_2.out.cell 0).trans rfl
      have cP1 : w2.cell? ⟨w.heap.size, 1, none⟩ = some (.int .i64 x1) := (HP_2.out.cell 1).trans rfl
      have cP2 : w2.cell? ⟨w.heap.size, 2, none⟩ = some (.int .i64 x2) := (HP_2.out.cell 2).trans rfl
      have cP3 : w2.cell? ⟨w.heap.size, 3, none⟩ = some (.int .i64 x3) := (HP_2.out.cell 3).trans rfl
      have cP4 : w2.cell? ⟨w.heap.size, 4, none⟩ = some (.int .i64 x4) := (HP_2.out.cell 4).trans rfl
      have cP5 : w2.cell? ⟨w.heap.size, 5, none⟩ = some (.int .i64 x5) := (HP_2.out.cell 5).trans rfl
      have cP6 : w2.cell? ⟨w.heap.size, 6, none⟩ = some (.int .i64 x6) := (HP_2.out.cell 6).trans rfl
      have cP7 : w2.cell? ⟨w.heap.size, 7, none⟩ = some (.int .i64 x7) := (HP_2.out.cell 7).trans rfl
      have cP8 : w2.cell? ⟨w.heap.size, 8, none⟩ = some (.bool x8) := (HP_2.out.cell 8).trans rfl
      have cP9 : w2.cell? ⟨w.heap.size, 9, none⟩ = some (.int .i64 x9) := (HP_2.out.cell 9).trans rfl
      have cP10 : w2.cell? ⟨w.heap.size, 10, none⟩ = some (.int .i64 x10) := (HP_2.out.cell 10).trans rfl
      have cP11 : w2.cell? ⟨w.heap.size, 11, none⟩ = some (.int .i64 x11) := (HP_2.out.cell 11).trans rfl
      have cP12 : w2.cell? ⟨w.heap.size, 12, none⟩ = some (.int .i64 x12) := (HP_2.out.cell 12).trans rfl
      have cP13 : w2.cell? ⟨w.heap.size, 13, none⟩ = some (.bool x13) := (HP_2.out.cell 13).trans rfl
      have lP := HP_2.out.lt
      go_wp2_with fail
      with_reducible refine (HBa.out _).mono ?_
      rintro e w3 ⟨rfl, hN⟩
      have HP_3 := Lib.hid ((HP_2.out.alloc (.cells #[.int .i64 0, .int .i64 0, .int .i64 0, .int .i64 0] 23)).keep hN)
      have HK_3 := Lib.hid ((Has.new_at w2 23 #[.int .i64 0, .int .i64 0, .int .i64 0, .int .i64 0] (w2.heap.size) (by simp)).keep hN)
      have HN_3 := Lib.hid ((HN_2.out.alloc (.cells #[.int .i64 0, .int .i64 0, .int .i64 0, .int .i64 0] 23)).then_new hN)
      clear HP_2 HN_2 cP0 cP1 cP2 cP3 cP4 cP5 cP6 cP7 cP8 cP9 cP10 cP11 cP12 cP13 lP hN
      have cP0 : w3.cell? ⟨w.heap.size, 0, none⟩ = some (.int .i64 x0) := (HP_3.out.cell 0).trans rfl
      have cP1 : w3.cell? ⟨w.heap.size, 1, none⟩ = some (.int .i64 x1) := (HP_3.out.cell 1).trans rfl
      have cP2 : w3.cell? ⟨w.heap.size, 2, none⟩ = some (.int .i64 x2) := (HP_3.out.cell 2).trans rfl
      have cP3 : w3.cell? ⟨w.heap.size, 3, none⟩ = some (.int .i64 x3) := (HP_3.out.cell 3).trans rfl
      have cP4 : w3.cell? ⟨w.heap.size, 4, none⟩ = some (.int .i64 x4) := (HP_3.out.cell 4).trans rfl
      have cP5 : w3.cell? ⟨w.heap.size, 5, none⟩ = some (.int .i64 x5) := (HP_3.out.cell 5).trans rfl
      have cP6 : w3.cell? ⟨w.heap.size, 6, none⟩ = some (.int .i64 x6) := (HP_3.out.cell 6).trans rfl
      have cP7 : w3.cell? ⟨w.heap.size, 7, none⟩ = some (.int .i64 x7) := (HP_3.out.cell 7).trans rfl
      have cP8 : w3.cell? ⟨w.heap.size, 8, none⟩ = some (.bool x8) := (HP_3.out.cell 8).trans rfl
      have cP9 : w3.cell? ⟨w.heap.size, 9, none⟩ = some (.int .i64 x9) := (HP_3.out.cell 9).trans rfl
      have cP10 : w3.cell? ⟨w.heap.size, 10, none⟩ = some (.int .i64 x10) := (HP_3.out.cell 10).trans rfl
      have cP11 : w3.cell? ⟨w.heap.size, 11, none⟩ = some (.int .i64 x11) := (HP_3.out.cell 11).trans rfl
      have cP12 : w3.cell? ⟨w.heap.size, 12, none⟩ = some (.int .i64 x12) := (HP_3.out.cell 12).trans rfl
      have cP13 : w3.cell? ⟨w.heap.size, 13, none⟩ = some (.bool x13) := (HP_3.out.cell 13).trans rfl
      have lP := HP_3.out.lt
      have cK0 : w3.cell? ⟨w2.heap.size, 0, none⟩ = some (.int .i64 0) := (HK_3.out.cell 0).trans rfl
      have cK1 : w3.cell? ⟨w2.heap.size, 1, none⟩ = some (.int .i64 0) := (HK_3.out.cell 1).trans rfl
      have cK2 : w3.cell? ⟨w2.heap.size, 2, none⟩ = some (.int .i64 0) := (HK_3.out.cell 2).trans rfl
      have cK3 : w3.cell? ⟨w2.heap.size, 3, none⟩ = some (.int .i64 0) := (HK_3.out.cell 3).trans rfl
      have lK := HK_3.out.lt
      go_wp2_with fail
      go_ret
      exact ⟨rfl, (HN_3.out.alloc (.cells #[.int .i64 op, .int .i64 0, .int .i64 0, .int .i64 ver] 23))⟩
    · simp only [if_neg h1] at HBa
      clear h1
      change Hid (∀ w, Calls Try.prog 20 _ w fun e w' => e = .returned (.tuple #[.agg #[.int .i64 0, .int .i64 0, .int .i64 0, .int .i64 0], .int .i64 2]) ∧ New w w') at HPr
      change Hid (∀ w, Calls Try.prog 21 _ w fun e w' => e = .returned (.tuple #[.agg #[.int .i64 0, .int .i64 0, .int .i64 0, .int .i64 0], .int .i64 2]) ∧ New w w') at HBa
      go_enter Try.func7, Try.ntmps7
      go_wp2_with fail
      with_reducible refine (awake_any _).mono ?_
      rintro e w1 ⟨rfl, hN⟩
      have HP_1 := Lib.hid ((Has.new_at w 41 #[.int .i64 x0, .int .i64 x1, .int .i64 x2, .int .i64 x3, .int .i64 x4, .int .i64 x5, .int .i64 x6, .int .i64 x7, .bool x8, .int .i64 x9, .int .i64 x10, .int .i64 x11, .int .i64 x12, .bool x13] (w.heap.size) (by simp)).keep hN)
      have HN_1 := Lib.hid (((Chg.refl (fun _ => False) w).alloc (.cells #[.int .i64 x0, .int .i64 x1, .int .i64 x2, .int .i64 x3, .int .i64 x4, .int .i64 x5, .int .i64 x6, .int .i64 x7, .bool x8, .int .i64 x9, .int .i64 x10, .int .i64 x11, .int .i64 x12, .bool x13] 41)).then_new hN)
      clear hN
      have cP0 : w1.cell? ⟨w.heap.size, 0, none⟩ = some (.int .i64 x0) := (HP_1.out.cell 0).trans rfl
      have cP1 : w1.cell? ⟨w.heap.size, 1, none⟩ = some (.int .i64 x1) := (HP_1.out.cell 1).trans rfl
      have cP2 : w1.cell? ⟨w.heap.size, 2, none⟩ = some (.int .i64 x2) := (HP_1.out.cell 2).trans rfl
      have cP3 : w1.cell? ⟨w.heap.size, 3, none⟩ = some (.int .i64 x3) := (HP_1.out.cell 3).trans rfl
      have cP4 : w1.cell? ⟨w.heap.size, 4, none⟩ = some (.int .i64 x4) := (HP_1.out.cell 4).trans rfl
      have cP5 : w1.cell? ⟨w.heap.size, 5, none⟩ = some (.int .i64 x5) := (HP_1.out.cell 5).trans rfl
      have cP6 : w1.cell? ⟨w.heap.size, 6, none⟩ = some (.int .i64 x6) := (HP_1.out.cell 6).trans rfl
      have cP7 : w1.cell? ⟨w.heap.size, 7, none⟩ = some (.int .i64 x7) := (HP_1.out.cell 7).trans rfl
      have cP8 : w1.cell? ⟨w.heap.size, 8, none⟩ = some (.bool x8) := (HP_1.out.cell 8).trans rfl
      have cP9 : w1.cell? ⟨w.heap.size, 9, none⟩ = some (.int .i64 x9) := (HP_1.out.cell 9).trans rfl
      have cP10 : w1.cell? ⟨w.heap.size, 10, none⟩ = some (.int .i64 x10) := (HP_1.out.cell 10).trans rfl
      have cP11 : w1.cell? ⟨w.heap.size, 11, none⟩ = some (.int .i64 x11) := (HP_1.out.cell 11).trans rfl
      have cP12 : w1.cell? ⟨w.heap.size, 12, none⟩ = some (.int .i64 x12) := (HP_1.out.cell 12).trans rfl
      have cP13 : w1.cell? ⟨w.heap.size, 13, none⟩ = some (.bool x13) := (HP_1.out.cell 13).trans rfl
      have lP := HP_1.out.lt
      go_wp2_with fail
      with_reducible refine (HPr.out _).mono ?_
      rintro e w2 ⟨rfl, hN⟩
      have HP_2 := Lib.hid (HP_1.out.keep hN)
      have HN_2 := Lib.hid (HN_1.out.then_new hN)
      clear HP_1 HN_1 cP0 cP1 cP2 cP3 cP4 cP5 cP6 cP7 cP8 cP9 cP10 cP11 cP12 cP13 lP hN
      have cP0 : w2.cell? ⟨w.heap.size, 0, none⟩ = some (.int .i64 x0) := (HP_2.out.cell 0).trans rfl
      have cP1 : w2.cell? ⟨w.heap.size, 1, none⟩ = some (.int .i64 x1) := (HP_2.out.cell 1).trans rfl
      have cP2 : w2.cell? ⟨w.heap.size, 2, none⟩ = some (.int .i64 x2) := (HP_2.out.cell 2).trans rfl
      have cP3 : w2.cell? ⟨w.heap.size, 3, none⟩ = some (.int .i64 x3) := (HP_2.out.cell 3).trans rfl
      have cP4 : w2.cell? ⟨w.heap.size, 4, none⟩ = some (.int .i64 x4) := (HP_2.out.cell 4).trans rfl
      have cP5 : w2.cell? ⟨w.heap.size, 5, none⟩ = some (.int .i64 x5) := (HP_2.out.cell 5).trans rfl
      have cP6 : w2.cell? ⟨w.heap.size, 6, none⟩ = some (.int .i64 x6) := (HP_2.out.cell 6).trans rfl
      have cP7 : w2.cell? ⟨w.heap.size, 7, none⟩ = some (.int .i64 x7) := (HP_2.out.cell 7).trans rfl
      have cP8 : w2.cell? ⟨w.heap.size, 8, none⟩ = some (.bool x8) := (HP_2.out.cell 8).trans rfl
      have cP9 : w2.cell? ⟨w.heap.size, 9, none⟩ = some (.int .i64 x9) := (HP_2.out.cell 9).trans rfl
      have cP10 : w2.cell? ⟨w.heap.size, 10, none⟩ = some (.int .i64 x10) := (HP_2.out.cell 10).trans rfl
      have cP11 : w2.cell? ⟨w.heap.size, 11, none⟩ = some (.int .i64 x11) := (HP_2.out.cell 11).trans rfl
      have cP12 : w2.cell? ⟨w.heap.size, 12, none⟩ = some (.int .i64 x12) := (HP_2.out.cell 12).trans rfl
      have cP13 : w2.cell? ⟨w.heap.size, 13, none⟩ = some (.bool x13) := (HP_2.out.cell 13).trans rfl
      have lP := HP_2.out.lt
      go_wp2_with fail
      with_reducible refine (HBa.out _).mono ?_
      rintro e w3 ⟨rfl, hN⟩
      have HP_3 := Lib.hid ((HP_2.out.alloc (.cells #[.int .i64 0, .int .i64 0, .int .i64 0, .int .i64 0] 23)).keep hN)
      have HK_3 := Lib.hid ((Has.new_at w2 23 #[.int .i64 0, .int .i64 0, .int .i64 0, .int .i64 0] (w2.heap.size) (by simp)).keep hN)
      have HN_3 := Lib.hid ((HN_2.out.alloc (.cells #[.int .i64 0, .int .i64 0, .int .i64 0, .int .i64 0] 23)).then_new hN)
      clear HP_2 HN_2 cP0 cP1 cP2 cP3 cP4 cP5 cP6 cP7 cP8 cP9 cP10 cP11 cP12 cP13 lP hN
      have cP0 : w3.cell? ⟨w.heap.size, 0, none⟩ = some (.int .i64 x0) := (HP_3.out.cell 0).trans rfl
      have cP1 : w3.cell? ⟨w.heap.size, 1, none⟩ = some (.int .i64 x1) := (HP_3.out.cell 1).trans rfl
      have cP2 : w3.cell? ⟨w.heap.size, 2, none⟩ = some (.int .i64 x2) := (HP_3.out.cell 2).trans rfl
      have cP3 : w3.cell? ⟨w.heap.size, 3, none⟩ = some (.int .i64 x3) := (HP_3.out.cell 3).trans rfl
      have cP4 : w3.cell? ⟨w.heap.size, 4, none⟩ = some (.int .i64 x4) := (HP_3.out.cell 4).trans rfl
      have cP5 : w3.cell? ⟨w.heap.size, 5, none⟩ = some (.int .i64 x5) := (HP_3.out.cell 5).trans rfl
      have cP6 : w3.cell? ⟨w.heap.size, 6, none⟩ = some (.int .i64 x6) := (HP_3.out.cell 6).trans rfl
      have cP7 : w3.cell? ⟨w.heap.size, 7, none⟩ = some (.int .i64 x7) := (HP_3.out.cell 7).trans rfl
      have cP8 : w3.cell? ⟨w.heap.size, 8, none⟩ = some (.bool x8) := (HP_3.out.cell 8).trans rfl
      have cP9 : w3.cell? ⟨w.heap.size, 9, none⟩ = some (.int .i64 x9) := (HP_3.out.cell 9).trans rfl
      have cP10 : w3.cell? ⟨w.heap.size, 10, none⟩ = some (.int .i64 x10) := (HP_3.out.cell 10).trans rfl
      have cP11 : w3.cell? ⟨w.heap.size, 11, none⟩ = some (.int .i64 x11) := (HP_3.out.cell 11).trans rfl
      have cP12 : w3.cell? ⟨w.heap.size, 12, none⟩ = some (.int .i64 x12) := (HP_3.out.cell 12).trans rfl
      have cP13 : w3.cell? ⟨w.heap.size, 13, none⟩ = some (.bool x13) := (HP_3.out.cell 13).trans rfl
      have lP := HP_3.out.lt
      have cK0 : w3.cell? ⟨w2.heap.size, 0, none⟩ = some (.int .i64 0) := (HK_3.out.cell 0).trans rfl
      have cK1 : w3.cell? ⟨w2.heap.size, 1, none⟩ = some (.int .i64 0) := (HK_3.out.cell 1).trans rfl
      have cK2 : w3.cell? ⟨w2.heap.size, 2, none⟩ = some (.int .i64 0) := (HK_3.out.cell 2).trans rfl
      have cK3 : w3.cell? ⟨w2.heap.size, 3, none⟩ = some (.int .i64 0) := (HK_3.out.cell 3).trans rfl
      have lK := HK_3.out.lt
      go_wp2_with fail
      go_ret
      exact ⟨rfl, (HN_3.out.alloc (.cells #[.int .i64 0, .int .i64 0, .int .i64 0, .int .i64 0] 23))⟩
end Go.Proofs.Ytkegafkmcdkphaa
