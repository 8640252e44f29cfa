/-
  What the document's own Split comes to, for every input.
-/
import Derived.Test.YtgcikobloimmnaaMonC
import Derived.Test.YtgcikobloimmnaaRowsB
namespace Go.Proofs.Ytgcikobloimmnaa
open Go.RowKit
set_option maxRecDepth 100000 in
set_option maxHeartbeats 8000000 in
theorem refSplit_ok (a : Int) (A : Option Addr) (n c : Nat) (F : Nat → Prop) (x : Nat → Int) (w : World) (hA : Arr w F A n (fun i => iV (x i))) (hF : ∀ k, F k → k < w.heap.size) (h : Fine a x n) :
    Calls Try.prog 14 #[.int .i64 a, .slice A n c] w fun e w' => ∃ g, e = .returned (.tuple #[.slice (some ⟨g, 0, none⟩) n n, .bool true]) ∧ w'.ownsRow w.heap.size 3 1 (.slice (some ⟨g, 0, none⟩) n n) n (row n (spl a x n)) ∧ New w w' := by
  obtain ⟨i0, hi, hz0, hz1, hz2⟩ := info_parts Try.info3
  obtain ⟨j0, ki, kz0, kz1, kz2⟩ := info_parts Try.info4
  have HA := Lib.hid hA; clear hA
  have HF := Lib.hid hF; clear hF
  have ha0 := h.a0
  have ha1 := h.a1
  have hn1 := h.n1
  have hn0 := h.n0
  have hW0 := h.W0
  have hW1 := h.Wle
  have Hlt := Lib.hid h.left_lt
  have Hle := Lib.hid h.left_eq
  have Hx := Lib.hid h.x0
  have Hf := Lib.hid h; clear h
  have t0 : decide (a < 0) = false := by simp only [decide_eq_false_iff_not]; omega
  have t1 : decide (2147483648 < a) = false := by simp only [decide_eq_false_iff_not]; omega
  have t2 : decide ((n : Int) < 1) = false := by simp only [decide_eq_false_iff_not]; omega
  have t3 : decide (16 < (n : Int)) = false := by simp only [decide_eq_false_iff_not]; omega
  go_enter Try.func14, Try.ntmps14
  go_wp2_with fail
  go_loopg [6, 7] n (fun gk t i wr => ∃ (k : Nat), k ≤ n ∧ gk = n - k ∧ t = .int .i64 (tot x k) ∧ i = .int .i64 k ∧ w = wr)
  case atStart => exact ⟨0, by omega, by omega, rfl, rfl, rfl⟩
  case round =>
    obtain ⟨k, hk, rfl, rfl, rfl, rfl⟩ := hrel
    by_cases hlt : k < n
    · obtain ⟨ad, rfl, hab, hc⟩ := HA.out k hlt
      have hc' : w.cell? (ad.add k) = some (.int .i64 (x k)) := hc
      have HT : Hid (tot x (k + 1) = tot x k + x k) := rfl
      have b0 := tot_zero_le (f := x) (n := k) (fun i hi => (Hx.out i (by omega)).1)
      have b1 := tot_mono (k := k) n (by omega) (fun i hi => (Hx.out i hi).1)
      obtain ⟨y0, y1⟩ := Hx.out k hlt
      obtain ⟨T, hT⟩ : ∃ T, T = tot x k := ⟨_, rfl⟩
      obtain ⟨y, hy⟩ : ∃ y, y = x k := ⟨_, rfl⟩
      rw [← hT] at HT b0 b1 ⊢
      rw [← hy] at HT y0 y1 hc'
      have b3 : T ≤ 16000 := by omega
      have t4 : decide (y < 0) = false := by simp only [decide_eq_false_iff_not]; omega
      have t5 : decide (1000 < y) = false := by simp only [decide_eq_false_iff_not]; omega
      clear hc hT hy b1 hW1 hW0
      go_wp2_with fail
      go_roundg (n - (k + 1))
      case measure => omega
      case rel => exact ⟨k + 1, by omega, rfl, by rw [HT.out], by go_num, rfl⟩
    · obtain rfl : k = n := by omega
      obtain ⟨W, hW⟩ : ∃ W, W = tot x k := ⟨_, rfl⟩
      rw [← hW] at hW0 hW1 ⊢
      have HW := Lib.hid hW; clear hW
      have t4 : (W == 0) = false := by rw [beq_eq_false_iff_ne]; omega
      go_wp2_with (at_make; refine wpList_make_full _ rfl _ _ 22 rfl w.heap.size 3 i0 (.int .i64 0) 1 Try.underlying22 hi hz0 hz1 .i64 .i64 _ _ k rfl rfl rfl rfl ?m1 ?m2 ?m3 ?_)
      case m1 => rw [hz2]; omega
      case m2 => simp only [maxLen]; omega
      case m3 => exact Nat.le_refl _
      intro w1 ho1 hg1
      have HN1 : Hid (New w w1) := Chg.grown (Chg.refl _ _) hg1 (by intro k hk; cases hk)
      have HO1 : Hid (w1.ownsRow w.heap.size 3 1 (.slice (some ⟨w.heap.size, 0, none⟩) k k) k (row k (fun _ => 0))) := by
        rw [Hid, ← row_made]; exact ho1
      clear ho1 hg1
      obtain ⟨g1, hg1⟩ : ∃ g, g = w.heap.size := ⟨_, rfl⟩
      rw [← hg1] at HO1 ⊢
      have Hg1 := Lib.hid hg1; clear hg1
      go_wp2_with (at_make; refine wpList_make_full _ rfl _ _ 43 rfl g1 4 j0 (.bool false) 1 Try.underlying43 ki kz0 kz1 .i64 .i64 _ _ k rfl rfl rfl rfl ?m1 ?m2 ?m3 ?_)
      case m1 => rw [kz2]; omega
      case m2 => simp only [maxLen]; omega
      case m3 => rw [Hg1.out]; exact HN1.out.size
      intro w2 ho2 hg2
      have HN12 : Hid (New w1 w2) := Chg.grown (Chg.refl _ _) hg2 (by intro k hk; cases hk)
      have HN2 : Hid (New w w2) := HN1.out.then_new HN12.out
      have HO2 : Hid (w2.ownsRow g1 4 1 (.slice (some ⟨w1.heap.size, 0, none⟩) k k) k (brow k (fun _ => false))) := by
        rw [Hid, ← brow_made]; exact ho2
      clear ho2 hg2
      have hgg : g1 < w1.heap.size := by have := (HO1.out.lt g1 rfl).2; exact this
      replace HO1 : Hid (w2.ownsRow g1 3 1 (.slice (some ⟨g1, 0, none⟩) k k) k (row k (fun _ => 0))) := own_new HO1.out HN12.out
      clear HN1 HN12
      obtain ⟨g2, hg2⟩ : ∃ g, g = w1.heap.size := ⟨_, rfl⟩
      rw [← hg2] at HO2 hgg ⊢
      clear hg2
      have hne : g1 ≠ g2 := by omega
      have hne2 : g2 ≠ g1 := by omega
      go_wp2_with fail
      go_loopg [10, 11] k (fun gk l i wr => ∃ (j : Nat) (S : Nat → Int), j ≤ k ∧ gk = k - j ∧ l = .int .i64 (tot (whole a x k) j) ∧ i = .int .i64 j ∧ wr.ownsRow g1 3 1 (.slice (some ⟨g1, 0, none⟩) k k) k (row k S) ∧ wr.ownsRow g1 4 1 (.slice (some ⟨g2, 0, none⟩) k k) k (brow k (fun _ => false)) ∧
        (∀ i, i < j → S i = whole a x k i) ∧ New w wr)
      case atStart => exact ⟨0, _, by omega, by omega, rfl, rfl, HO1.out, HO2.out, fun j hj => by omega, HN2.out⟩
      case round =>
        clear HO1 HO2 HN2
        obtain ⟨j, S, hj, rfl, rfl, rfl, hS, hR, hSR, hN⟩ := hrel
        have HS := Lib.hid hS; clear hS
        have HR := Lib.hid hR; clear hR
        have HSR := Lib.hid hSR; clear hSR
        by_cases hlt : j < k
        · obtain ⟨ad, rfl, _, hc⟩ := HA.out.new hN HF.out j hlt
          have hc' : wr.cell? (ad.add j) = some (.int .i64 (x j)) := hc
          clear hc
          have HN := Lib.hid hN; clear hN
          have hc1 := row_cell HS.out hlt
          have hf1 := own_free HS.out j
          obtain ⟨p0, p1⟩ := Hf.out.prod j hlt
          have HT : Hid (tot (whole a x k) (j + 1) = tot (whole a x k) j + whole a x k j) := rfl
          have hle1 := tot_mono (k := j + 1) k (by omega) Hf.out.whole0
          have hle0 := tot_zero_le (f := whole a x k) (n := j) (fun i hi => Hf.out.whole0 i (by omega))
          have hsl := Hf.out.sum_le
          have hw0 := Hf.out.whole0 j hlt
          rw [HT.out] at hle1
          have f3 : a * x j / W = whole a x k j := by rw [HW.out]; rfl
          have f1 : Int.tdiv (a * x j) W = whole a x k j := by rw [Int.tdiv_eq_ediv_of_nonneg p0]; exact f3
          obtain ⟨q, hq⟩ : ∃ q, q = whole a x k j := ⟨_, rfl⟩
          obtain ⟨T, hT⟩ : ∃ T, T = tot (whole a x k) j := ⟨_, rfl⟩
          obtain ⟨y, hy⟩ : ∃ y, y = x j := ⟨_, rfl⟩
          obtain ⟨s0, hs0⟩ : ∃ s, s = S j := ⟨_, rfl⟩
          rw [← hy] at f1 f3 p0 p1 hc'
          rw [← hq] at f1 f3 HT hle1 hw0
          rw [← hT] at HT hle1 hle0 ⊢
          rw [← hs0] at hc1
          have hTa : T + q ≤ a := by omega
          obtain ⟨P, hP⟩ : ∃ P, a * y = P := ⟨_, rfl⟩
          rw [hP] at f1 f3 p0 p1
          have Hq := Lib.hid hq; clear hq
          clear hT hy hs0 hle1 hsl
          go_wp2_with fail
          go_roundg (k - (j + 1))
          case measure => omega
          case rel =>
            refine ⟨j + 1, up S j q, by omega, rfl, by rw [HT.out], by go_num, row_put HS.out j q, brow_far HR.out hne2 _, ?_, ?_⟩
            · intro i hi
              by_cases hij : i = j
              · subst hij; rw [up_self]; exact Hq.out
              · rw [up_ne _ _ hij]; exact HSR.out i (by omega)
            · exact HN.out.setCell (fun h => by rw [Hg1.out] at h; exact absurd h (Nat.lt_irrefl _)) _
        · obtain rfl : j = k := by omega
          have eS : row j S = row j (whole a x j) := row_congr fun i hi => HSR.out i hi
          rw [eS] at HS
          clear eS HSR
          have HN := Lib.hid hN; clear hN
          have HL : Hid (spl a x j = (grow j (whole a x j) (rests a x j) (left a x j)).1) := rfl
          have HG : Hid (∀ k, k ≤ left a x j → Grown j (whole a x j) (rests a x j) (tot x j) (left a x j) k (grow j (whole a x j) (rests a x j) k).1 (grow j (whole a x j) (rests a x j) k).2) := fun k hk => Hf.out.grown k hk
          have hll := Hlt.out
          have hLe := Hle.out
          have hT0 := tot_zero_le (f := whole a x j) (n := j) Hf.out.whole0
          obtain ⟨L, hL⟩ : ∃ L, L = left a x j := ⟨_, rfl⟩
          obtain ⟨T, hT⟩ : ∃ T, T = tot (whole a x j) j := ⟨_, rfl⟩
          rw [← hL] at HL HG hll hLe
          rw [← hT] at hLe hT0 ⊢
          clear hL hT Hle Hlt
          go_wp2_with fail
          go_loopg [10] L (fun gk s wy => ∃ (m : Nat) (M : Nat → Bool), m ≤ L ∧ gk = L - m ∧ s = .int .i64 (T + m) ∧ wy.ownsRow g1 3 1 (.slice (some ⟨g1, 0, none⟩) j j) j (row j (grow j (whole a x j) (rests a x j) m).1) ∧ wy.ownsRow g1 4 1 (.slice (some ⟨g2, 0, none⟩) j j) j (brow j M) ∧
            (∀ i, i < j → (grow j (whole a x j) (rests a x j) m).2 i = if M i = true then -1 else rests a x j i) ∧ New w wy)
          case atStart => exact ⟨0, fun _ => false, by omega, by omega, by simp, HS.out, HR.out, fun i hi => by simp [grow], HN.out⟩
          case round =>
            clear HS HR HN
            obtain ⟨m, M, hm, rfl, rfl, hS, hR, hM, hN⟩ := hrel
            have HS := Lib.hid hS; clear hS
            have HR := Lib.hid hR; clear hR
            have HM := Lib.hid hM; clear hM
            have HN := Lib.hid hN; clear hN
            by_cases hlt : m < L
            · obtain ⟨b1, b2, b3, b4⟩ := (HG.out m hm).more Hf.out.W0 hlt
              have hs0 := Hf.out.whole0 _ b1
              have hs1 := Hf.out.whole_le _ b1
              rw [← b3] at hs0 hs1
              have hMb : M (best (grow j (whole a x j) (rests a x j) m).2 j) = false := by
                have h1 := HM.out _ b1
                rw [b2] at h1
                cases hMb : M (best (grow j (whole a x j) (rests a x j) m).2 j) with
                | false => rfl
                | true => rw [hMb] at h1; simp at h1; omega
              have HE : Hid (grow j (whole a x j) (rests a x j) (m + 1) = (up (grow j (whole a x j) (rests a x j) m).1 (best (grow j (whole a x j) (rests a x j) m).2 j) ((grow j (whole a x j) (rests a x j) m).1 (best (grow j (whole a x j) (rests a x j) m).2 j) + 1), up (grow j (whole a x j) (rests a x j) m).2 (best (grow j (whole a x j) (rests a x j) m).2 j) (-1))) := rfl
              clear b2 b3 b4
              obtain ⟨S, hSe⟩ : ∃ S, S = (grow j (whole a x j) (rests a x j) m).1 := ⟨_, rfl⟩
              obtain ⟨R, hRe⟩ : ∃ R, R = (grow j (whole a x j) (rests a x j) m).2 := ⟨_, rfl⟩
              rw [← hRe] at HE HM b1 hs0 hs1 hMb
              rw [← hSe] at HE HS hs0 hs1
              clear hRe hSe
              have HMb := Lib.hid hMb; clear hMb
              have tlt : decide (T + (m : Int) < a) = true := by simp only [decide_eq_true_eq]; omega
              go_wp2_with fail
              go_loopg [12, 13] j (fun gk b i wz => ∃ (k : Nat) (bb : Int), k ≤ j ∧ gk = j - k ∧ b = .int .i64 bb ∧ i = .int .i64 k ∧ Bst M R k bb ∧ New wr wz)
              case atStart => exact ⟨0, -1, by omega, by omega, rfl, rfl, Or.inl ⟨rfl, fun i hi => by omega⟩, Chg.refl _ _⟩
              case round =>
                obtain ⟨k, bb, hk, rfl, rfl, rfl, hB, hNz⟩ := hrel
                have HNz := Lib.hid hNz; clear hNz
                by_cases hkj : k < j
                · have hcM := brow_cell (own_new HR.out HNz.out) hkj
                  have Hr0 : Hid (∀ i, i < j → 0 ≤ rests a x j i) := fun i hi => (Hf.out.rest i hi).1
                  cases hMk : M k with
                  | true =>
                    rw [hMk] at hcM
                    have HB2 := Lib.hid (Bst.skip HM.out Hr0.out hkj hB hMk)
                    clear hB hMk
                    go_upto_region 25 with (fail)
                    go_region
                    go_wp2_with fail
                    go_roundg (j - (k + 1))
                    case measure => omega
                    case rel => exact ⟨k + 1, bb, by omega, rfl, rfl, by go_num, HB2.out, HNz.out.drew⟩
                  | false =>
                    rw [hMk] at hcM
                    rcases hB with ⟨rfl, hall⟩ | ⟨c0, rfl, hc0, hMc, hbe⟩
                    · have HB2 := Lib.hid (Bst.first HM.out Hr0.out hkj hall hMk)
                      clear hall hMk
                      go_upto_region 25 with (fail)
                      go_region
                      go_wp2_with fail
                      go_roundg (j - (k + 1))
                      case measure => omega
                      case rel => exact ⟨k + 1, k, by omega, rfl, rfl, by go_num, HB2.out, HNz.out.drew⟩
                    · have hc0j : c0 < j := by omega
                      obtain ⟨ad, hadA, _, hcy⟩ := HA.out.new (HN.out.then_new HNz.out) HF.out k hkj
                      obtain ⟨ad2, ha2, _, hcv⟩ := HA.out.new (HN.out.then_new HNz.out) HF.out c0 hc0j
                      subst hadA
                      simp only [Option.some.injEq] at ha2
                      subst ha2
                      have hcy' : wr.cell? (ad.add k) = some (.int .i64 (x k)) := hcy
                      have hcv' : wr.cell? (ad.add c0) = some (.int .i64 (x c0)) := hcv
                      clear hcy hcv
                      obtain ⟨p0, p1⟩ := Hf.out.prod k hkj
                      obtain ⟨q0, q1⟩ := Hf.out.prod c0 hc0j
                      have f4 : a * x k % W = rests a x j k := by rw [HW.out]; rfl
                      have f2 : Int.tmod (a * x k) W = rests a x j k := by rw [Int.tmod_eq_emod_of_nonneg p0]; exact f4
                      have e4 : a * x c0 % W = rests a x j c0 := by rw [HW.out]; rfl
                      have e2 : Int.tmod (a * x c0) W = rests a x j c0 := by rw [Int.tmod_eq_emod_of_nonneg q0]; exact e4
                      have HB2 : Hid ((decide (rests a x j c0 < rests a x j k) = true ∧ Bst M R (k + 1) k) ∨ (decide (rests a x j c0 < rests a x j k) = false ∧ Bst M R (k + 1) c0)) := by
                        by_cases hr : rests a x j c0 < rests a x j k
                        · exact Or.inl ⟨decide_eq_true hr, Bst.more HM.out hkj hc0 hMc hbe hMk hr⟩
                        · exact Or.inr ⟨decide_eq_false hr, Bst.stay HM.out hkj hc0 hMc hbe hMk hr⟩
                      obtain ⟨y, hy⟩ : ∃ y, y = x k := ⟨_, rfl⟩
                      obtain ⟨v, hv⟩ : ∃ v, v = x c0 := ⟨_, rfl⟩
                      obtain ⟨r1, hr1⟩ : ∃ r, r = rests a x j k := ⟨_, rfl⟩
                      obtain ⟨r2, hr2⟩ : ∃ r, r = rests a x j c0 := ⟨_, rfl⟩
                      rw [← hy] at hcy' p0 p1 f2 f4
                      rw [← hv] at hcv' q0 q1 e2 e4
                      rw [← hr1] at f2 f4 HB2
                      rw [← hr2] at e2 e4 HB2
                      obtain ⟨P, hP⟩ : ∃ P, a * y = P := ⟨_, rfl⟩
                      obtain ⟨Q, hQ⟩ : ∃ Q, a * v = Q := ⟨_, rfl⟩
                      rw [hP] at p0 p1 f2 f4
                      rw [hQ] at q0 q1 e2 e4
                      clear hy hv hr1 hr2 hMk hMc hbe
                      rcases HB2.out with ⟨tr, hB3⟩ | ⟨tr, hB3⟩
                      · have HB3 := Lib.hid hB3; clear hB3 HB2
                        have gd : decide ((c0 : Int) < 0) = false := by simp
                        have hki : (k : Int) < (j : Int) := by omega
                        have hci : (c0 : Int) < (j : Int) := by omega
                        go_upto_region 25 with (fail)
                        have wP : IntKind.i64.wrap P = P := IntWalk.i64_in _ (by omega)
                        have wQ : IntKind.i64.wrap Q = Q := IntWalk.i64_in _ (by omega)
                        go_quiet (fail)
                        clear wP wQ gd hki hci
                        go_wp2_with fail
                        go_roundg (j - (k + 1))
                        case measure => omega
                        case rel => exact ⟨k + 1, k, by omega, rfl, rfl, by go_num, HB3.out, HNz.out.drewN _⟩
                      · have HB3 := Lib.hid hB3; clear hB3 HB2
                        have gd : decide ((c0 : Int) < 0) = false := by simp
                        have hki : (k : Int) < (j : Int) := by omega
                        have hci : (c0 : Int) < (j : Int) := by omega
                        go_upto_region 25 with (fail)
                        have wP : IntKind.i64.wrap P = P := IntWalk.i64_in _ (by omega)
                        have wQ : IntKind.i64.wrap Q = Q := IntWalk.i64_in _ (by omega)
                        go_quiet (fail)
                        clear wP wQ gd hki hci
                        go_wp2_with fail
                        go_roundg (j - (k + 1))
                        case measure => omega
                        case rel => exact ⟨k + 1, c0, by omega, rfl, rfl, by go_num, HB3.out, HNz.out.drewN _⟩
                · obtain rfl : k = j := by omega
                  obtain ⟨b, hbb, hbk⟩ : ∃ b : Nat, bb = b ∧ b = best R k := by
                    rcases hB with ⟨_, hall⟩ | ⟨c0, h1, _, _, h2⟩
                    · have := HMb.out
                      rw [hall _ b1] at this
                      cases this
                    · exact ⟨c0, h1, h2⟩
                  subst hbb
                  rw [← hbk] at HE b1 hs0 hs1
                  clear hbk hB HMb
                  replace HS := Lib.hid (own_new HS.out HNz.out)
                  replace HR := Lib.hid (own_new HR.out HNz.out)
                  replace HN := Lib.hid (HN.out.then_new HNz.out)
                  have hc1 := row_cell HS.out b1
                  have hc2 := brow_cell HR.out b1
                  have hf1 := own_free HS.out b
                  have hf2 := own_free HR.out b
                  obtain ⟨s0, hs⟩ : ∃ s, s = S b := ⟨_, rfl⟩
                  obtain ⟨m0, hm0⟩ : ∃ s, s = M b := ⟨_, rfl⟩
                  rw [← hs] at hc1 hs0 hs1
                  rw [← hm0] at hc2
                  have Hs := Lib.hid hs; clear hs hm0
                  go_wp2_with fail
                  go_roundg (L - (m + 1))
                  case measure => omega
                  case rel =>
                    refine ⟨m + 1, upB M b, by omega, rfl, by first | (congr 1; omega) | go_num, ?_, ?_, ?_, ?_⟩
                    · rw [HE.out, ← Hs.out]; exact row_far (row_put HS.out b (s0 + 1)) hne _
                    · exact brow_put (brow_far HR.out hne2 _) b
                    · intro i hi
                      rw [HE.out]
                      by_cases hib : i = b
                      · subst hib; simp [up, upB]
                      · have h1 := HM.out i hi
                        simp only [up_ne _ _ hib, upB, if_neg hib]
                        exact h1
                    · exact (HN.out.setCell (fun h => by rw [Hg1.out] at h; exact absurd h (Nat.lt_irrefl _)) _).setCell (fun h => by rw [← Hg1.out] at h; exact absurd h (by dsimp only; omega)) _
            · obtain rfl : m = L := by omega
              rw [← HL.out] at HS
              have tlt : decide (T + (m : Int) < a) = false := by simp only [decide_eq_false_iff_not]; omega
              go_wp2_with fail
              go_ret2
              exact ⟨g1, rfl, by rw [← Hg1.out]; exact HS.out, HN.out⟩
end Go.Proofs.Ytgcikobloimmnaa
