import Derived.Test.YtkhlalcghdfamaaNumC
namespace Go.Proofs.Ytkhlalcghdfamaa
open Go.RowKit
theorem intV_cases (bs : List Nat) (h : ∀ x ∈ bs, x < 256) : (∃ z : Nat, intV bs = (0, z) ∧ z ≠ 0) ∨ (intV bs = (val bs, 0) ∧ be (val bs) = bs ∧ val bs < 72057594037927936) := by
  unfold intV
  split
  · exact Or.inl ⟨11, rfl, by decide⟩
  split
  · exact Or.inl ⟨12, rfl, by decide⟩
  · rename_i h1 h2
    refine Or.inr ⟨rfl, be_val bs h (fun x hx h0 => h2 (by rw [hx, h0])), ?_⟩
    have := val_bound (k := 7) h (Nat.le_refl _)
    rwa [List.take_of_length_le (by omega)] at this
theorem intV_be (n : Nat) : intV (be n) = if 72057594037927936 ≤ n then (0, 11) else (n, 0) := by
  have h4 : (256 : Nat) ^ 7 = 72057594037927936 := by decide
  unfold intV
  by_cases h : 72057594037927936 ≤ n
  · rw [if_pos (be_len_gt 7 n (by omega)), if_pos h]
  · rw [if_neg (by have := be_len_le 7 n (by omega); omega), if_neg (fun h0 => be_okN n 0 h0 rfl), if_neg h, val_be]
theorem intV_small {r : Nat} (h : r < 72057594037927936) : intV (be r) = (r, 0) := (intV_be r).trans (if_neg (Nat.not_le.2 h))
theorem intV_big {r : Nat} (h : 72057594037927936 ≤ r) : intV (be r) = (0, 11) := (intV_be r).trans (if_pos h)
theorem int_same {A : Option Addr} {k c : Nat} {n : Int} {w : World} (hn : 0 ≤ n) (h : Calls Try.prog 21 #[.slice A k c] w fun e w' => e = .returned (.tuple #[.int .i64 ((n.toNat, 0) : Nat × Nat).1, .int .i64 ((n.toNat, 0) : Nat × Nat).2]) ∧ w' = w) : Calls Try.prog 21 #[.slice A k c] w fun e w' => e = .returned (.tuple #[.int .i64 n, .int .i64 0]) ∧ w' = w :=
  h.mono (fun e w' ⟨h1, h2⟩ => ⟨by rw [h1]; simp only [Int.toNat_of_nonneg hn]; rfl, h2⟩)
theorem num_conv {w : World} {A : Option Addr} {b k c mv : Nat} {bs : List Nat} (hO : w.ownsRow b 5 1 (.slice A k c) k ((be (mv : Int).toNat).map bV)) (h : be mv = bs) : (convert 25 9 (.slice A k c)).run Try.prog w = .ok (.string (bstr bs)) w := by
  rw [Int.toNat_natCast, h] at hO
  exact own_string Try.underlying25 Try.underlying5 Try.underlying9 hO
set_option maxRecDepth 100000 in
set_option maxHeartbeats 8000000 in
theorem nums_law {W : World} (n : Int) (wn : (Lit.int .i64 n).wf = true) (B : Option Addr) (m d : Nat) (y : (∃ bs : List Nat, bs.length = m ∧ Arr W (· < W.heap.size) B m (fun i => bV (bs.getD i 0)) ∧ (∀ x ∈ bs, x < 256) ∧ m ≤ d ∧ d ≤ maxLen ∧ (B = none → m = 0 ∧ d = 0)) ∧ m ≤ 140737488351232) :
    Calls Try.prog 7 #[.int .i64 n, .slice B m d] W fun e w' => e = .returned (.bool true) ∧ New W w' := by
  obtain ⟨⟨bs, hbl, hBA, hb256, hmd, hdm, hBn⟩, hmb⟩ := y
  obtain ⟨hlo, hhi⟩ := i64_wf wn
  have HB : Hid (Byts W (· < W.heap.size) (.slice B m d) bs) := ⟨B, d, by rw [hbl], by rw [hbl]; exact hBA, by rw [hbl]; exact hBn, hb256, by omega⟩
  have HI : Hid (∀ wy, New W wy → Calls Try.prog 21 #[.slice B m d] wy fun e w' => e = .returned (.tuple #[.int .i64 (intV bs).1, .int .i64 (intV bs).2]) ∧ w' = wy) := fun wy hy => Int_any bs m d B wy _ (HB.out.new hy (fun _ h => h))
  have HJ : Hid (∀ wy, New W wy → Calls Try.prog 22 #[.slice B m d] wy fun e w' => e = .returned (.tuple #[.int .i64 (intV bs).1, .int .i64 (intV bs).2]) ∧ w' = wy) := fun wy hy => RInt_any bs m d B wy _ (HB.out.new hy (fun _ h => h))
  have Hcases := Lib.hid (intV_cases bs hb256)
  clear hBA hBn hbl wn hb256
  go_enter Try.func7, Try.ntmps7
  go_wp2_with fail
  with_reducible refine (awake_any W).mono ?_
  rintro e w1 ⟨rfl, hN1⟩
  have HN1 := Lib.hid hN1; clear hN1
  go_wp2_with fail
  with_reducible refine (Num_any n hlo hhi w1).mono ?_
  rintro e w2 ⟨⟨A2, k2, c2, rfl, hk2, hk8, hO2⟩, hN2⟩
  have HO2 := Lib.hid hO2; clear hO2
  have Hk2 := Lib.hid hk2; clear hk2
  have HN2 := Lib.hid (HN1.out.then_new hN2); clear hN2
  obtain ⟨mv, zv, hiv⟩ : ∃ mv zv, intV bs = (mv, zv) := ⟨_, _, rfl⟩
  rw [hiv] at HI HJ Hcases
  clear hiv
  go_wp2_with fail
  with_reducible refine (HI.out w2 HN2.out).mono ?_
  rintro e w3 ⟨rfl, rfl⟩
  go_wp2_with fail
  with_reducible refine (HJ.out w3 HN2.out).mono ?_
  rintro e w4 ⟨rfl, rfl⟩
  have HCx : Hid (∀ wy, New w4 wy → (convert 25 9 (.slice A2 k2 c2)).run Try.prog wy = .ok (.string (bstr (be n.toNat))) wy) := fun wy hy => own_string Try.underlying25 Try.underlying5 Try.underlying9 (own_new HO2.out hy)
  go_upto_region 6 with (fail)
  go_cut [41] (fun s41 wc => s41 = .bool false ∧ New w4 wc)
  case first =>
    go_region_held_law (fun w' => (convert 25 9 (.slice A2 k2 c2)).run Try.prog w' = .ok (.string (bstr (be n.toNat))) w')
      (exact HCx.out _ (by repeat (first | exact HM5.out | exact Chg.refl _ _ | refine Chg.alloc ?_ _ | refine Chg.drew ?_)))
      (first
        | (go_at_call 23; (with_reducible refine (RNum_any (n.toNat + 1) n (Nat.lt_succ_self _) hhi _).mono ?_); rintro e w5 ⟨⟨A5, k5, c5, rfl, hk5, hk58, hO5⟩, hN5⟩; have hcv5 : (convert 25 9 (.slice A5 k5 c5)).run Try.prog w5 = .ok (.string (bstr (be n.toNat))) w5 := own_string Try.underlying25 Try.underlying5 Try.underlying9 hO5; have HM5 : Hid (New w4 w5) := Chg.then_new (S := fun _ => False) (by with_reducible repeat (first | exact Chg.refl _ _ | refine Chg.alloc ?_ _ | refine Chg.drew ?_)) hN5; clear hO5 hN5 hk5))
    all_goals
      go_wp2
      go_meet
      case rel => exact ⟨by simp, HM5.out⟩
  case rest =>
    obtain ⟨rfl, hNc⟩ := hcut
    have HNc := Lib.hid (HN2.out.then_new hNc)
    have HOc := Lib.hid (own_new HO2.out hNc); clear hNc
    have HIx : Hid (∀ wy, New wc wy → Calls Try.prog 21 #[.slice A2 k2 c2] wy fun e w' => e = .returned (.tuple #[.int .i64 (intV (be n.toNat)).1, .int .i64 (intV (be n.toNat)).2]) ∧ w' = wy) := fun wy hy => Int_any (be n.toNat) k2 c2 A2 wy _ (Byts.own_any HOc.out hy (be_lt _) (by omega))
    have HCb : Hid (∀ wy, New wc wy → (convert 25 9 (.slice B m d)).run Try.prog wy = .ok (.string (bstr bs)) wy) := fun wy hy => byts_conv HB.out (HNc.out.then_new hy) (fun _ h => h)
    clear HI HJ HCx
    rcases Hcases.out with ⟨z, hz, hz0⟩ | ⟨hz, hbv, hvb⟩
    · simp only [Prod.mk.injEq] at hz
      obtain ⟨rfl, rfl⟩ := hz
      have hz1 : ((zv : Int) == 0) = false := by simp; omega
      clear Hcases hz0
      go_upto_region 8 with (fail)
      go_cut [51] (fun s51 wd => s51 = .bool false ∧ New wc wd)
      case first =>
        go_region
        go_wp2
        go_meet
        case rel => exact ⟨by simp, (Chg.refl _ _).drew⟩
      case rest =>
        obtain ⟨rfl, hNd⟩ := hcut
        have HNd := Lib.hid (HNc.out.then_new hNd)
        have HIy := Lib.hid (HIx.out _ hNd)
        clear hNd HIx HCb
        rcases Int.lt_or_le n 0 with hneg | hpos
        · have hb0 : be n.toNat = [] := by rw [show n.toNat = 0 by omega, be_zero]
          rw [hb0] at HIy
          have hk0 : k2 = 0 := by rw [Hk2.out, hb0]; rfl
          subst hk0
          clear hb0
          go_wp2_with fail
          with_reducible refine HIy.out.mono ?_
          rintro e w8 ⟨rfl, rfl⟩
          go_wp2_with fail
          go_ret
          exact ⟨rfl, HNd.out⟩
        · rcases Int.lt_or_le n 72057594037927936 with hs | hs
          · rw [intV_small (show n.toNat < 72057594037927936 by omega)] at HIy
            have HIz := Lib.hid (int_same hpos HIy.out)
            have h1 : decide ((72057594037927936 : Int) ≤ n) = false := by simp only [decide_eq_false_iff_not]; omega
            have h2 : decide (n < (72057594037927936 : Int)) = true := by simp only [decide_eq_true_eq]; omega
            have h3 : decide (n < 0) = false := by simp only [decide_eq_false_iff_not]; omega
            have h4 : decide (0 ≤ n) = true := by simp only [decide_eq_true_eq]; omega
            clear HIy
            go_wp2_with fail
            with_reducible refine HIz.out.mono ?_
            rintro e w8 ⟨rfl, rfl⟩
            go_wp2_with fail
            go_ret
            exact ⟨rfl, HNd.out⟩
          · rw [intV_big (show 72057594037927936 ≤ n.toNat by omega)] at HIy
            have h1 : decide ((72057594037927936 : Int) ≤ n) = true := by simp only [decide_eq_true_eq]; omega
            have h3 : decide (n < 0) = false := by simp only [decide_eq_false_iff_not]; omega
            go_wp2_with fail
            with_reducible refine HIy.out.mono ?_
            rintro e w8 ⟨rfl, rfl⟩
            go_wp2_with fail
            go_ret
            exact ⟨rfl, HNd.out⟩
    · simp only [Prod.mk.injEq] at hz
      obtain ⟨hmv, rfl⟩ := hz
      have Hbv : Hid (be mv = bs) := by rw [Hid, hmv]; exact hbv
      rw [← hmv] at hvb
      clear hmv hbv Hcases
      go_upto_region 8 with (fail)
      go_cut [51] (fun s51 wd => s51 = .bool false ∧ New wc wd)
      case first =>
        go_region_held_law (fun w' => (convert 25 9 (.slice B m d)).run Try.prog w' = .ok (.string (bstr bs)) w')
          (exact HCb.out _ (by repeat (first | exact HM6.out | exact Chg.refl _ _ | refine Chg.alloc ?_ _ | refine Chg.drew ?_)))
          (first
            | (go_at_call 20; (with_reducible refine (Num_any (mv : Int) (by omega) (by omega) _).mono ?_); rintro e w6 ⟨⟨A6, k6, c6, rfl, hk6, hk68, hO6⟩, hN6⟩; have hcv6 := num_conv hO6 Hbv.out; have HM6 : Hid (New wc w6) := Chg.then_new (S := fun _ => False) (by with_reducible repeat (first | exact Chg.refl _ _ | refine Chg.alloc ?_ _ | refine Chg.drew ?_)) hN6; clear hO6 hN6 hk6))
        all_goals
          go_wp2
          go_meet
          case rel => exact ⟨by simp, HM6.out⟩
      case rest =>
        obtain ⟨rfl, hNd⟩ := hcut
        have HNd := Lib.hid (HNc.out.then_new hNd)
        have HIy := Lib.hid (HIx.out _ hNd)
        clear hNd HIx HCb
        rcases Int.lt_or_le n 0 with hneg | hpos
        · have hb0 : be n.toNat = [] := by rw [show n.toNat = 0 by omega, be_zero]
          rw [hb0] at HIy
          have hk0 : k2 = 0 := by rw [Hk2.out, hb0]; rfl
          subst hk0
          clear hb0
          go_wp2_with fail
          with_reducible refine HIy.out.mono ?_
          rintro e w8 ⟨rfl, rfl⟩
          go_wp2_with fail
          go_ret
          exact ⟨rfl, HNd.out⟩
        · rcases Int.lt_or_le n 72057594037927936 with hs | hs
          · rw [intV_small (show n.toNat < 72057594037927936 by omega)] at HIy
            have HIz := Lib.hid (int_same hpos HIy.out)
            have h1 : decide ((72057594037927936 : Int) ≤ n) = false := by simp only [decide_eq_false_iff_not]; omega
            have h2 : decide (n < (72057594037927936 : Int)) = true := by simp only [decide_eq_true_eq]; omega
            have h3 : decide (n < 0) = false := by simp only [decide_eq_false_iff_not]; omega
            have h4 : decide (0 ≤ n) = true := by simp only [decide_eq_true_eq]; omega
            clear HIy
            go_wp2_with fail
            with_reducible refine HIz.out.mono ?_
            rintro e w8 ⟨rfl, rfl⟩
            go_wp2_with fail
            go_ret
            exact ⟨rfl, HNd.out⟩
          · rw [intV_big (show 72057594037927936 ≤ n.toNat by omega)] at HIy
            have h1 : decide ((72057594037927936 : Int) ≤ n) = true := by simp only [decide_eq_true_eq]; omega
            have h3 : decide (n < 0) = false := by simp only [decide_eq_false_iff_not]; omega
            go_wp2_with fail
            with_reducible refine HIy.out.mono ?_
            rintro e w8 ⟨rfl, rfl⟩
            go_wp2_with fail
            go_ret
            exact ⟨rfl, HNd.out⟩
end Go.Proofs.Ytkhlalcghdfamaa
