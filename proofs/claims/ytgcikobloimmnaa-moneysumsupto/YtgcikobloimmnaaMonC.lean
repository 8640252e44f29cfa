/-
  What package money's Split comes to, for every input.
-/
import Derived.Test.YtgcikobloimmnaaMonA
import Derived.Test.YtgcikobloimmnaaRowsI
namespace Go.Proofs.Ytgcikobloimmnaa
open Go.RowKit
set_option maxRecDepth 100000 in
set_option maxHeartbeats 4000000 in
theorem Split_ok (a : Int) (A : Option Addr) (n c : Nat) (F : Nat → Prop) (x : Nat → Int) (w : World) (hA : Arr w F A n (fun i => iV (x i))) (hF : ∀ k, F k → k < w.heap.size) (h : Fine a x n) :
    Calls Try.prog 13 #[.int .i64 a, .slice A n c] w fun e w' => ∃ g, e = .returned (.tuple #[.slice (some ⟨g, 0, none⟩) n n, .int .i64 0]) ∧ w'.ownsRow w.heap.size 3 1 (.slice (some ⟨g, 0, none⟩) n n) n (row n (spl a x n)) ∧ New w w' := by
  obtain ⟨i0, hi, hz0, hz1, hz2⟩ := info_parts Try.info3
  have HR := Lib.hid (right_any A n c F x w hA h.n1 h.x0)
  rw [decide_eq_true h.W0] at HR
  have HT := Lib.hid (total_any A n c F x w hA h.n1 h.x0)
  have HA := Lib.hid hA; clear hA
  have HF := Lib.hid hF; clear hF
  have ha0 := h.a0
  have ha1 := h.a1
  have hn1 := h.n1
  have hW0 := h.W0
  have hW1 := h.Wle
  have Hlt := Lib.hid h.left_lt
  have Hle := Lib.hid h.left_eq
  obtain ⟨W, hW⟩ : ∃ W, W = tot x n := ⟨_, rfl⟩
  rw [← hW] at HT hW0 hW1
  have HW := Lib.hid hW; clear hW
  have Hf := Lib.hid h; clear h
  have t0 : decide (a < 0) = false := by simp only [decide_eq_false_iff_not]; omega
  have t1 : decide (2147483648 < a) = false := by simp only [decide_eq_false_iff_not]; omega
  go_enter Try.func13, Try.ntmps13
  go_wp2_with fail
  with_reducible refine HR.out.mono ?_
  rintro e w' ⟨rfl, hw⟩
  obtain rfl : w = w' := hw.symm
  go_wp2_with fail
  with_reducible refine HT.out.mono ?_
  rintro e w' ⟨rfl, hw⟩
  obtain rfl : w = w' := hw.symm
  clear HR HT hw
  go_wp2_with (at_make; refine wpList_make_full _ rfl _ _ 22 rfl w.heap.size 3 i0 (.int .i64 0) 1 Try.underlying22 hi hz0 hz1 .i64 .i64 _ _ n rfl rfl rfl rfl ?m1 ?m2 ?m3 ?_)
  case m1 => rw [hz2]; omega
  case m2 => simp only [maxLen]; omega
  case m3 => exact Nat.le_refl _
  intro w1 ho1 hg1
  have HN1 : Hid (New w w1) := Chg.grown (Chg.refl _ _) hg1 (by intro k hk; cases hk)
  have HO1 : Hid (w1.ownsRow w.heap.size 3 1 (.slice (some ⟨w.heap.size, 0, none⟩) n n) n (row n (fun _ => 0))) := by
    rw [Hid, ← row_made]; exact ho1
  clear ho1 hg1
  obtain ⟨g1, hg1⟩ : ∃ g, g = w.heap.size := ⟨_, rfl⟩
  rw [← hg1] at HO1 ⊢
  have Hg1 := Lib.hid hg1; clear hg1
  go_wp2_with (at_make; refine wpList_make_full _ rfl _ _ 22 rfl g1 3 i0 (.int .i64 0) 1 Try.underlying22 hi hz0 hz1 .i64 .i64 _ _ n rfl rfl rfl rfl ?m1 ?m2 ?m3 ?_)
  case m1 => rw [hz2]; omega
  case m2 => simp only [maxLen]; omega
  case m3 => rw [Hg1.out]; exact HN1.out.size
  intro w2 ho2 hg2
  have HN12 : Hid (New w1 w2) := Chg.grown (Chg.refl _ _) hg2 (by intro k hk; cases hk)
  have HN2 : Hid (New w w2) := HN1.out.then_new HN12.out
  have HO2 : Hid (w2.ownsRow g1 3 1 (.slice (some ⟨w1.heap.size, 0, none⟩) n n) n (row n (fun _ => 0))) := by
    rw [Hid, ← row_made]; exact ho2
  clear ho2 hg2
  have hgg : g1 < w1.heap.size := by have := (HO1.out.lt g1 rfl).2; exact this
  replace HO1 : Hid (w2.ownsRow g1 3 1 (.slice (some ⟨g1, 0, none⟩) n n) n (row n (fun _ => 0))) := own_new HO1.out HN12.out
  clear HN1 HN12
  obtain ⟨g2, hg2⟩ : ∃ g, g = w1.heap.size := ⟨_, rfl⟩
  rw [← hg2] at HO2 hgg ⊢
  clear hg2
  have hne : g1 ≠ g2 := by omega
  have hne2 : g2 ≠ g1 := by omega
  go_wp2_with fail
  go_loopg [9, 35] n (fun gk l i wr => ∃ (k : Nat) (S R : Nat → Int), k ≤ n ∧ gk = n - k ∧ l = .int .i64 (a - tot (whole a x n) k) ∧ i = .int .i64 k ∧ wr.ownsRow g1 3 1 (.slice (some ⟨g1, 0, none⟩) n n) n (row n S) ∧ wr.ownsRow g1 3 1 (.slice (some ⟨g2, 0, none⟩) n n) n (row n R) ∧
    (∀ j, j < k → S j = whole a x n j ∧ R j = rests a x n j) ∧ New w wr)
  case atStart => exact ⟨0, _, _, by omega, by omega, by simp [tot], rfl, HO1.out, HO2.out, fun j hj => by omega, HN2.out⟩
  case round =>
    clear HO1 HO2 HN2
    obtain ⟨k, S, R, hk, rfl, rfl, rfl, hS, hR, hSR, hN⟩ := hrel
    have HS := Lib.hid hS; clear hS
    have HR := Lib.hid hR; clear hR
    have HSR := Lib.hid hSR; clear hSR
    by_cases hlt : k < n
    · obtain ⟨ad, rfl, _, hc⟩ := HA.out.new hN HF.out k hlt
      have hc' : wr.cell? (ad.add k) = some (.int .i64 (x k)) := hc
      clear hc
      have HN := Lib.hid hN; clear hN
      have hc1 := row_cell HS.out hlt
      have hc2 := row_cell HR.out hlt
      have hf1 := own_free HS.out k
      have hf2 := own_free HR.out k
      obtain ⟨p0, p1⟩ := Hf.out.prod k hlt
      have HT : Hid (tot (whole a x n) (k + 1) = tot (whole a x n) k + whole a x n k) := rfl
      have hle := tot_mono (k := k) n (by omega) Hf.out.whole0
      have hle1 := tot_mono (k := k + 1) n (by omega) Hf.out.whole0
      have hle0 := tot_zero_le (f := whole a x n) (n := k) (fun i hi => Hf.out.whole0 i (by omega))
      have hsl := Hf.out.sum_le
      have hw0 := Hf.out.whole0 k hlt
      rw [HT.out] at hle1
      have f3 : a * x k / W = whole a x n k := by rw [HW.out]; rfl
      have f4 : a * x k % W = rests a x n k := by rw [HW.out]; rfl
      have f1 : Int.tdiv (a * x k) W = whole a x n k := by rw [Int.tdiv_eq_ediv_of_nonneg p0]; exact f3
      have f2 : Int.tmod (a * x k) W = rests a x n k := by rw [Int.tmod_eq_emod_of_nonneg p0]; exact f4
      have hr := Hf.out.rest k hlt
      rw [← HW.out] at hr
      obtain ⟨hr0, hr1⟩ := hr
      obtain ⟨q, hq⟩ : ∃ q, q = whole a x n k := ⟨_, rfl⟩
      obtain ⟨r, hr⟩ : ∃ r, r = rests a x n k := ⟨_, rfl⟩
      obtain ⟨T, hT⟩ : ∃ T, T = tot (whole a x n) k := ⟨_, rfl⟩
      obtain ⟨y, hy⟩ : ∃ y, y = x k := ⟨_, rfl⟩
      obtain ⟨s0, hs0⟩ : ∃ s, s = S k := ⟨_, rfl⟩
      obtain ⟨r0, hr0e⟩ : ∃ s, s = R k := ⟨_, rfl⟩
      rw [← hy] at f1 f2 f3 f4 p0 p1 hc'
      rw [← hq] at f1 f3 HT hle1 hw0
      rw [← hr] at f2 f4 hr0 hr1
      rw [← hT] at HT hle hle1 hle0 ⊢
      rw [← hs0] at hc1
      rw [← hr0e] at hc2
      have hTa : T + q ≤ a := by omega
      obtain ⟨P, hP⟩ : ∃ P, a * y = P := ⟨_, rfl⟩
      rw [hP] at f1 f2 f3 f4 p0 p1
      have Hq := Lib.hid hq; clear hq
      have Hr := Lib.hid hr; clear hr
      clear hT hy hs0 hr0e hle hle1 hsl
      go_wp2_with fail
      go_roundg (n - (k + 1))
      case measure => omega
      case rel =>
        refine ⟨k + 1, up S k q, up R k r, by omega, rfl, by rw [HT.out]; congr 1; omega, by go_num, ?_, ?_, ?_, ?_⟩
        · exact row_far (row_put HS.out k q) hne _
        · exact row_put (row_far HR.out hne2 _) k r
        · intro j hj
          by_cases hjk : j = k
          · subst hjk; rw [up_self, up_self]; exact ⟨Hq.out, Hr.out⟩
          · rw [up_ne _ _ hjk, up_ne _ _ hjk]; exact HSR.out j (by omega)
        · exact (HN.out.setCell (fun h => by rw [Hg1.out] at h; exact absurd h (Nat.lt_irrefl _)) _).setCell (fun h => by rw [← Hg1.out] at h; exact absurd h (by dsimp only; omega)) _
    · obtain rfl : k = n := by omega
      have eS : row k S = row k (whole a x k) := row_congr fun i hi => (HSR.out i hi).1
      have eR : row k R = row k (rests a x k) := row_congr fun i hi => (HSR.out i hi).2
      rw [eS] at HS
      rw [eR] at HR
      clear eS eR HSR
      rw [← Hle.out]
      have HN := Lib.hid hN; clear hN
      have HL : Hid (spl a x k = (grow k (whole a x k) (rests a x k) (left a x k)).1) := rfl
      have HG : Hid (∀ j, j ≤ left a x k → Grown k (whole a x k) (rests a x k) (tot x k) (left a x k) j (grow k (whole a x k) (rests a x k) j).1 (grow k (whole a x k) (rests a x k) j).2) := fun j hj => Hf.out.grown j hj
      have hll := Hlt.out
      obtain ⟨L, hL⟩ : ∃ L, L = left a x k := ⟨_, rfl⟩
      rw [← hL] at HL HG hll ⊢
      clear hL Hle Hlt
      go_wp2_with fail
      go_loopg [64] L (fun gk i wy => ∃ (j : Nat), j ≤ L ∧ gk = L - j ∧ i = .int .i64 j ∧ wy.ownsRow g1 3 1 (.slice (some ⟨g1, 0, none⟩) k k) k (row k (grow k (whole a x k) (rests a x k) j).1) ∧ wy.ownsRow g1 3 1 (.slice (some ⟨g2, 0, none⟩) k k) k (row k (grow k (whole a x k) (rests a x k) j).2) ∧ New w wy)
      case atStart => exact ⟨0, by omega, by omega, rfl, HS.out, HR.out, HN.out⟩
      case round =>
        clear HS HR HN
        obtain ⟨j, hj, rfl, rfl, hS, hR, hN⟩ := hrel
        have HN := Lib.hid hN; clear hN
        by_cases hlt : j < L
        · obtain ⟨b1, b2, b3, b4⟩ := (HG.out j hj).more Hf.out.W0 hlt
          have hs0 := Hf.out.whole0 _ b1
          have hs1 := Hf.out.whole_le _ b1
          rw [← b3] at hs0 hs1
          have HE : Hid (grow k (whole a x k) (rests a x k) (j + 1) = (up (grow k (whole a x k) (rests a x k) j).1 (best (grow k (whole a x k) (rests a x k) j).2 k) ((grow k (whole a x k) (rests a x k) j).1 (best (grow k (whole a x k) (rests a x k) j).2 k) + 1), up (grow k (whole a x k) (rests a x k) j).2 (best (grow k (whole a x k) (rests a x k) j).2 k) (-1))) := rfl
          clear b2 b3 b4
          obtain ⟨S, hSe⟩ : ∃ S, S = (grow k (whole a x k) (rests a x k) j).1 := ⟨_, rfl⟩
          obtain ⟨R, hRe⟩ : ∃ R, R = (grow k (whole a x k) (rests a x k) j).2 := ⟨_, rfl⟩
          rw [← hRe] at HE hR b1 hs0 hs1
          rw [← hSe] at HE hS hs0 hs1
          clear hRe hSe
          have HB := Lib.hid (greatest_any _ k k _ R wr (row_arr hR) (by omega) hn1)
          obtain ⟨b, hb⟩ : ∃ b, b = best R k := ⟨_, rfl⟩
          rw [← hb] at HE HB b1 hs0 hs1
          clear hb
          have HS := Lib.hid hS; clear hS
          have HR := Lib.hid hR; clear hR
          go_wp2_with fail
          with_reducible refine HB.out.mono ?_
          rintro e w' ⟨rfl, hw⟩
          obtain rfl : wr = w' := hw.symm
          clear hw HB
          have hc1 := row_cell HS.out b1
          have hc2 := row_cell HR.out b1
          have hf1 := own_free HS.out b
          have hf2 := own_free HR.out b
          obtain ⟨s0, hs⟩ : ∃ s, s = S b := ⟨_, rfl⟩
          obtain ⟨r0, hr0⟩ : ∃ s, s = R b := ⟨_, rfl⟩
          rw [← hs] at hc1 hs0 hs1
          rw [← hr0] at hc2
          have Hs := Lib.hid hs; clear hs hr0
          go_wp2_with fail
          go_roundg (L - (j + 1))
          case measure => omega
          case rel =>
            refine ⟨j + 1, by omega, rfl, by go_num, ?_, ?_, ?_⟩
            · rw [HE.out, ← Hs.out]; exact row_far (row_put HS.out b (s0 + 1)) hne _
            · rw [HE.out]; exact row_put (row_far HR.out hne2 _) b (-1)
            · exact (HN.out.setCell (fun h => by rw [Hg1.out] at h; exact absurd h (Nat.lt_irrefl _)) _).setCell (fun h => by rw [← Hg1.out] at h; exact absurd h (by dsimp only; omega)) _
        · obtain rfl : j = L := by omega
          have HS := Lib.hid hS; clear hS hR
          rw [← HL.out] at HS
          go_wp2_with fail
          go_ret2
          exact ⟨g1, rfl, by rw [← Hg1.out]; exact HS.out, HN.out⟩
theorem right_no (a : Int) (A : Option Addr) (n c : Nat) (F : Nat → Prop) (x : Nat → Int) (w : World) (hA : Arr w F A n (fun i => iV (x i))) (hn : n ≤ 17592186044416) (h0 : 0 ≤ a) (h1 : a ≤ 2147483648) (h : ¬ Fine a x n) :
    Calls Try.prog 16 #[.slice A n c] w fun e w' => e = .returned (.bool false) ∧ w' = w := by
  by_cases h16 : n ≤ 16
  · by_cases hx : ∀ i, i < n → 0 ≤ x i ∧ x i ≤ 1000
    · have hW : ¬ 0 < tot x n := fun hW => h ⟨h0, h1, h16, hx, hW⟩
      have := right_any A n c F x w hA h16 hx
      rw [decide_eq_false hW] at this
      exact this
    · obtain ⟨j, hj, hb⟩ : ∃ j, j < n ∧ ¬ (0 ≤ x j ∧ x j ≤ 1000) := by
        apply Classical.byContradiction
        intro hno
        exact hx fun i hi => Classical.byContradiction fun hb => hno ⟨i, hi, hb⟩
      exact right_bad A n c F x w hA h16 j hj hb
  · exact right_long A n c w (by omega) hn
set_option maxRecDepth 100000 in
set_option maxHeartbeats 2000000 in
theorem Split_no (a : Int) (A : Option Addr) (n c : Nat) (F : Nat → Prop) (x : Nat → Int) (w : World) (hA : Arr w F A n (fun i => iV (x i))) (hn : n ≤ 17592186044416) (h : ¬ Fine a x n) :
    Calls Try.prog 13 #[.int .i64 a, .slice A n c] w fun e w' => e = .returned (.tuple #[.slice none 0 0, .int .i64 2]) ∧ w' = w := by
  by_cases ha : 0 ≤ a ∧ a ≤ 2147483648
  · have HR := Lib.hid (right_no a A n c F x w hA hn ha.1 ha.2 h)
    have t0 : decide (a < 0) = false := by simp only [decide_eq_false_iff_not]; omega
    have t1 : decide (2147483648 < a) = false := by simp only [decide_eq_false_iff_not]; omega
    clear hA h ha
    go_enter Try.func13, Try.ntmps13
    go_wp2_with fail
    with_reducible refine HR.out.mono ?_
    rintro e w' ⟨rfl, hw⟩
    obtain rfl : w = w' := hw.symm
    go_wp2_with fail
    go_ret2
    exact ⟨rfl, rfl⟩
  · clear hA h
    rcases (show a < 0 ∨ 2147483648 < a by omega) with ha0 | ha0
    · have t0 : decide (a < 0) = true := by simp only [decide_eq_true_eq]; omega
      clear ha
      go_enter Try.func13, Try.ntmps13
      go_wp2_with fail
      go_ret2
      exact ⟨rfl, rfl⟩
    · have t0 : decide (a < 0) = false := by simp only [decide_eq_false_iff_not]; omega
      have t1 : decide (2147483648 < a) = true := by simp only [decide_eq_true_eq]; omega
      clear ha
      go_enter Try.func13, Try.ntmps13
      go_wp2_with fail
      go_ret2
      exact ⟨rfl, rfl⟩
/-- what Split returns: shares in new memory, or none and ErrArg -/
def SplitR (w : World) (a : Int) (x : Nat → Int) (n : Nat) (e : Ending) (w' : World) : Prop :=
  (Fine a x n ∧ ∃ g, e = .returned (.tuple #[.slice (some ⟨g, 0, none⟩) n n, .int .i64 0]) ∧ w'.ownsRow w.heap.size 3 1 (.slice (some ⟨g, 0, none⟩) n n) n (row n (spl a x n)) ∧ New w w') ∨
  (¬ Fine a x n ∧ e = .returned (.tuple #[.slice none 0 0, .int .i64 2]) ∧ w' = w)
theorem Split_any (a : Int) (A : Option Addr) (n c : Nat) (F : Nat → Prop) (x : Nat → Int) (w : World) (hA : Arr w F A n (fun i => iV (x i))) (hF : ∀ k, F k → k < w.heap.size) (hn : n ≤ 17592186044416) :
    Calls Try.prog 13 #[.int .i64 a, .slice A n c] w (SplitR w a x n) := by
  by_cases h : Fine a x n
  · exact (Split_ok a A n c F x w hA hF h).mono fun e w' hh => Or.inl ⟨h, hh⟩
  · exact (Split_no a A n c F x w hA hn h).mono fun e w' hh => Or.inr ⟨h, hh⟩
end Go.Proofs.Ytgcikobloimmnaa
