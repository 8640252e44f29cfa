/-
  What the law MoneyExact does: it returns true and turns nothing that was there.
-/
import Derived.Test.YtgcikobloimmnaaLMore
namespace Go.Proofs.Ytgcikobloimmnaa
open Go.RowKit
theorem prod_le {s W : Int} (h0 : 0 ≤ s) (h1 : s ≤ 2147483648) (w0 : 0 ≤ W) (w1 : W ≤ 16000) : 0 ≤ s * W ∧ s * W ≤ 34359738368000 := by
  refine ⟨Int.mul_nonneg h0 w0, ?_⟩
  have h2 : s * W ≤ 2147483648 * W := Int.mul_le_mul_of_nonneg_right h1 w0
  omega
theorem fair_case {y v z u : Int} (h : y < v → z ≤ u) : decide (y < v) = false ∨ (decide (y < v) = true ∧ decide (u < z) = false) := by
  simp only [decide_eq_false_iff_not, decide_eq_true_eq]; omega
set_option maxRecDepth 100000 in
set_option maxHeartbeats 4000000 in
theorem exact_no (a : Int) (A : Option Addr) (n c : Nat) (x : Nat → Int) (W : World) (hA : Arr W (· < W.heap.size) A n (fun i => iV (x i))) (hn : n ≤ 17592186043904) (hf : ¬ Fine a x n) :
    Calls Try.prog 5 #[.int .i64 a, .slice A n c] W fun e w' => e = .returned (.bool true) ∧ New W w' := by
  have HSp : Hid (∀ w, New W w → Calls Try.prog 13 #[.int .i64 a, .slice A n c] w fun e w' => e = .returned (.tuple #[.slice none 0 0, .int .i64 2]) ∧ w' = w) := fun w hw => Split_no a A n c _ x w (hA.new hw fun _ h => h) (by omega) hf
  clear hA hf
  go_enter Try.func5, Try.ntmps5
  go_wp2_with fail
  with_reducible refine (awake_any W).mono ?_
  rintro e w1 ⟨rfl, hN1⟩
  have HN1 := Lib.hid hN1; clear hN1
  go_wp2_with fail
  with_reducible refine (HSp.out w1 HN1.out).mono ?_
  rintro e w2 ⟨rfl, rfl⟩
  go_wp2_with fail
  go_ret
  exact ⟨rfl, HN1.out⟩
set_option maxRecDepth 100000 in
set_option maxHeartbeats 8000000 in
theorem exact_ok (a : Int) (A : Option Addr) (n c : Nat) (x : Nat → Int) (W : World) (hA : Arr W (· < W.heap.size) A n (fun i => iV (x i))) (hf : Fine a x n) :
    Calls Try.prog 5 #[.int .i64 a, .slice A n c] W fun e w' => e = .returned (.bool true) ∧ New W w' := by
  have HSp : Hid (∀ w, New W w → Calls Try.prog 13 #[.int .i64 a, .slice A n c] w fun e w' => ∃ g, e = .returned (.tuple #[.slice (some ⟨g, 0, none⟩) n n, .int .i64 0]) ∧ w'.ownsRow w.heap.size 3 1 (.slice (some ⟨g, 0, none⟩) n n) n (row n (spl a x n)) ∧ New w w') := fun w hw => Split_ok a A n c _ x w (hA.new hw fun _ h => h) (fun k hk => Nat.lt_of_lt_of_le hk hw.size) hf
  have HA := Lib.hid hA; clear hA
  have hn16 := hf.n1
  have Hf := Lib.hid hf; clear hf
  go_enter Try.func5, Try.ntmps5
  go_wp2_with fail
  with_reducible refine (awake_any W).mono ?_
  rintro e w1 ⟨rfl, hN1⟩
  have HN1 := Lib.hid hN1; clear hN1
  go_wp2_with fail
  with_reducible refine (HSp.out w1 HN1.out).mono ?_
  rintro e w2 ⟨g, rfl, hO, hN2⟩
  have HO := Lib.hid hO; clear hO
  have HN2 := Lib.hid (HN1.out.then_new hN2); clear hN2 HN1 HSp
  go_wp2_with fail
  go_loopg [7, 9] n (fun gk t i wr => ∃ (k : Nat), k ≤ n ∧ gk = n - k ∧ t = .int .i64 (tot x k) ∧ i = .int .i64 k ∧ w2 = wr)
  case atStart => exact ⟨0, by omega, by omega, rfl, rfl, rfl⟩
  case round =>
    obtain ⟨k, hk, rfl, rfl, rfl, rfl⟩ := hrel
    have hpos : ∀ i, i < n → 0 ≤ x i := fun i hi => (Hf.out.x0 i hi).1
    have Hpos := Lib.hid hpos; clear hpos
    have hW1 := Hf.out.Wle
    by_cases hlt : k < n
    · obtain ⟨ad, rfl, hab, hc⟩ := HA.out.new HN2.out (fun _ h => h) k hlt
      have hc' : w2.cell? (ad.add k) = some (.int .i64 (x k)) := hc
      have HT : Hid (tot x (k + 1) = tot x k + x k) := rfl
      have b0 := tot_zero_le (f := x) (n := k) (fun i hi => Hpos.out i (by omega))
      have b1 := tot_mono (k := k) n (by omega) Hpos.out
      have b2 := Hf.out.x0 k hlt
      obtain ⟨y0, y1⟩ := b2
      obtain ⟨T, hT⟩ : ∃ T, T = tot x k := ⟨_, rfl⟩
      obtain ⟨y, hy⟩ : ∃ y, y = x k := ⟨_, rfl⟩
      rw [← hT] at HT b0 b1 ⊢
      rw [← hy] at HT y0 y1 hc'
      have b3 : T ≤ 16000 := by omega
      clear hc hT hy b1 hW1
      go_wp2_with fail
      go_roundg (n - (k + 1))
      case measure => omega
      case rel => exact ⟨k + 1, by omega, rfl, by rw [HT.out], by go_num, rfl⟩
    · obtain rfl : k = n := by omega
      have hW0 := Hf.out.W0
      have Hfair := Lib.hid Hf.out.fair
      have Hfar := Lib.hid Hf.out.far
      have ha0 := Hf.out.a0
      have ha1 := Hf.out.a1
      obtain ⟨T, hT⟩ : ∃ T, T = tot x k := ⟨_, rfl⟩
      rw [← hT] at hW0 hW1 Hfar ⊢
      clear hT
      go_wp2_with fail
      go_loopg [8, 10] k (fun gk s i wr => ∃ (j : Nat), j ≤ k ∧ gk = k - j ∧ s = .int .i64 (tot (spl a x k) j) ∧ i = .int .i64 j ∧ New w2 wr)
      case atStart => exact ⟨0, by omega, by omega, rfl, rfl, Chg.refl _ _⟩
      case round =>
        obtain ⟨j, hj, rfl, rfl, rfl, hNr⟩ := hrel
        have HNr := Lib.hid hNr; clear hNr
        by_cases hlt : j < k
        · have hcs := row_cell (own_new HO.out HNr.out) hlt
          obtain ⟨ad, rfl, hab, hc⟩ := HA.out.new (HN2.out.then_new HNr.out) (fun _ h => h) j hlt
          have hc' : wr.cell? (ad.add j) = some (.int .i64 (x j)) := hc
          clear hc
          have HTs : Hid (tot (spl a x k) (j + 1) = tot (spl a x k) j + spl a x k j) := rfl
          have s0 := Hf.out.spl0 j hlt
          have s1 := Hf.out.spl_le j hlt
          have b0 := tot_zero_le (f := spl a x k) (n := j) (fun i hi => Hf.out.spl0 i (by omega))
          have b1 := tot_mono (k := j) k (by omega) Hf.out.spl0
          rw [Hf.out.sum] at b1
          have p := prod_le s0 (by omega) (by omega : (0 : Int) ≤ T) hW1
          have q := Hf.out.prod j hlt
          have far := Hfar.out j hlt
          have Hz : Hid (x j = 0 → spl a x k j = 0) := Hf.out.nothing j hlt
          obtain ⟨y, hy⟩ : ∃ y, y = x j := ⟨_, rfl⟩
          obtain ⟨z, hz⟩ : ∃ z, z = spl a x k j := ⟨_, rfl⟩
          obtain ⟨S, hS⟩ : ∃ S, S = tot (spl a x k) j := ⟨_, rfl⟩
          rw [← hy] at q far Hz hc'
          rw [← hz] at p s0 s1 far HTs Hz hcs
          rw [← hS] at HTs b0 b1 ⊢
          have Hy := Lib.hid hy; clear hy
          have Hzz := Lib.hid hz; clear hz
          clear hS
          obtain ⟨P, hP⟩ : ∃ P, z * T = P := ⟨_, rfl⟩
          obtain ⟨Q, hQ⟩ : ∃ Q, a * y = Q := ⟨_, rfl⟩
          rw [hP] at p far
          rw [hQ] at q far
          obtain ⟨p0, p1⟩ := p
          obtain ⟨q0, q1⟩ := q
          obtain ⟨far0, far1⟩ := far
          go_upto_region 17 with (fail)
          go_region
          clear hP hQ
          obtain ⟨D, hD⟩ : ∃ D, P - Q = D := ⟨_, rfl⟩
          rw [hD]
          rw [hD] at far0 far1
          clear hD p0 p1 q0 q1
          have t0 : decide (z < 0) = false := by simp only [decide_eq_false_iff_not]; omega
          have t1 : decide (T ≤ D) = false := by simp only [decide_eq_false_iff_not]; omega
          have t2 : decide (D ≤ -T) = false := by simp only [decide_eq_false_iff_not]; omega
          have hyz : (y = 0 ∧ z = 0) ∨ (y == 0) = false := by
            by_cases h0 : y = 0
            · exact Or.inl ⟨h0, Hz.out h0⟩
            · exact Or.inr (by simp [h0])
          have HNd := Lib.hid HNr.out.drew
          have hcs2 : wr.drew.cell? ⟨g, j, none⟩ = some (.int .i64 z) := hcs
          have hc2 : wr.drew.cell? (ad.add j) = some (.int .i64 y) := hc'
          clear hcs hc' HNr Hz
          obtain ⟨wd, hwd⟩ : ∃ wd, wd = wr.drew := ⟨_, rfl⟩
          rw [← hwd] at HNd hcs2 hc2 ⊢
          clear hwd
          rcases hyz with ⟨rfl, rfl⟩ | hy0
          all_goals
            go_wp2_with fail
            go_loopg [12] k (fun gk i wy => ∃ (m : Nat), m ≤ k ∧ gk = k - m ∧ i = .int .i64 m ∧ New wd wy)
            case atStart => exact ⟨0, by omega, by omega, rfl, Chg.refl _ _⟩
            case round =>
              obtain ⟨m, hm, rfl, rfl, hNy⟩ := hrel
              have HNy := Lib.hid hNy; clear hNy
              by_cases hlm : m < k
              · have hcu := row_cell (own_new HO.out (HNd.out.then_new HNy.out)) hlm
                obtain ⟨ad2, ha2, _, hcv⟩ := HA.out.new (HN2.out.then_new (HNd.out.then_new HNy.out)) (fun _ h => h) m hlm
                simp only [Option.some.injEq] at ha2
                subst ha2
                have hcv' : wr.cell? (ad.add m) = some (.int .i64 (x m)) := hcv
                have hcy := (HNy.out.cell (World.block_lt_of_cell? _ _ hc2) (fun f => f)).trans hc2
                have hcz := (HNy.out.cell (World.block_lt_of_cell? _ _ hcs2) (fun f => f)).trans hcs2
                have hfr := Hfair.out j m hlt hlm
                rw [← Hzz.out, ← Hy.out] at hfr
                obtain ⟨v, hv⟩ : ∃ v, v = x m := ⟨_, rfl⟩
                obtain ⟨u, hu⟩ : ∃ u, u = spl a x k m := ⟨_, rfl⟩
                rw [← hv] at hcv' hfr
                rw [← hu] at hcu hfr
                clear hv hu hcv
                have hcase := fair_case hfr
                clear hfr
                rcases hcase with h1 | ⟨h1, h2⟩
                all_goals
                  go_upto_region 23 with (fail)
                  go_region
                  go_wp2_with fail
                  go_roundg (k - (m + 1))
                  case measure => omega
                  case rel => exact ⟨m + 1, by omega, rfl, by go_num, HNy.out.drew⟩
              · obtain rfl : m = k := by omega
                go_wp2_with fail
                go_roundg (m - (j + 1))
                case measure => omega
                case rel => exact ⟨j + 1, by omega, rfl, by rw [HTs.out], by go_num, HNd.out.then_new HNy.out⟩
        · obtain rfl : j = k := by omega
          rw [Hf.out.sum]
          go_wp2_with fail
          go_ret
          exact ⟨by simp, HN2.out.then_new HNr.out⟩
theorem exact_law {W : World} (a : Int) (_wa : (Lit.int .i64 a).wf = true) (A : Option Addr) (n c : Nat) (z : InI W A n c) :
    Calls Try.prog 5 #[.int .i64 a, .slice A n c] W fun e w' => e = .returned (.bool true) ∧ New W w' := by
  obtain ⟨x, hA, _, _, hn⟩ := z.fn
  by_cases hf : Fine a x n
  · exact exact_ok a A n c x W hA hf
  · exact exact_no a A n c x W hA hn hf
end Go.Proofs.Ytgcikobloimmnaa
