/-
  What the law MoneyScales does: it returns true and turns nothing that was there.
-/
import Derived.Test.YtgcikobloimmnaaLMore
namespace Go.Proofs.Ytgcikobloimmnaa
open Go.RowKit
/-- the first k, c times as great -/
def mulL (x : Nat → Int) (c : Int) (k : Nat) : List Int := (List.range k).map (fun i => c * x i)
theorem mulL_push (x : Nat → Int) (c : Int) (k : Nat) : mulL x c k ++ [c * x k] = mulL x c (k + 1) := by simp [mulL, List.range_succ]
theorem mulL_row (x : Nat → Int) (c : Int) (n : Nat) : (mulL x c n).map iV = row n (fun i => c * x i) := by simp [mulL, row, Function.comp_def]
theorem fine_mul {a : Int} {x : Nat → Int} {n : Nat} {c : Int} (h1 : 1 ≤ c) (h5 : c ≤ 5) (hx : ∀ i, i < n → 0 ≤ x i ∧ x i ≤ 200) : Fine a (fun i => c * x i) n ↔ Fine a x n := by
  have hb : ∀ i, i < n → 0 ≤ c * x i ∧ c * x i ≤ 1000 := fun i hi => by
    obtain ⟨h0, h2⟩ := hx i hi
    refine ⟨Int.mul_nonneg (by omega) h0, ?_⟩
    have := Int.mul_le_mul_of_nonneg_right h5 h0
    omega
  constructor
  · intro h
    refine ⟨h.a0, h.a1, h.n1, fun i hi => ⟨(hx i hi).1, by have := (hx i hi).2; omega⟩, ?_⟩
    have hW := h.W0
    rw [tot_mul] at hW
    exact Int.pos_of_mul_pos_right hW (by omega)
  · intro h
    refine ⟨h.a0, h.a1, h.n1, hb, ?_⟩
    rw [tot_mul]
    exact Int.mul_pos (by omega) h.W0
set_option maxRecDepth 100000 in
set_option maxHeartbeats 4000000 in
theorem scales_walk (a : Int) (A : Option Addr) (n c : Nat) (b : Int) (x : Nat → Int) (W : World) (hA : Arr W (· < W.heap.size) A n (fun i => iV (x i))) (hn : n ≤ 17592186043904) :
    Calls Try.prog 6 #[.int .i64 a, .slice A n c, .int .i64 b] W fun e w' => e = .returned (.bool true) ∧ New W w' := by
  have HSp : Hid (∀ w, New W w → Calls Try.prog 13 #[.int .i64 a, .slice A n c] w (SplitR w a x n)) := fun w hw => Split_any a A n c _ x w (hA.new hw fun _ h => h) (fun k hk => Nat.lt_of_lt_of_le hk hw.size) (by omega)
  have HA := Lib.hid hA; clear hA
  obtain ⟨q, hq⟩ : ∃ q, Int.tmod b 5 = q := ⟨_, rfl⟩
  have hq0 : -5 < q ∧ q < 5 := by
    rw [← hq]
    exact ⟨by have := Int.lt_tmod_of_pos b (show (0 : Int) < 5 by decide); omega, Int.tmod_lt_of_pos b (by decide)⟩
  obtain ⟨r, hr⟩ : ∃ r, r = (q + 5) % 5 := ⟨_, rfl⟩
  have f1 : Int.tmod (q + 5) 5 = r := by rw [Int.tmod_eq_emod_of_nonneg (by omega), hr]
  have f2 : (q + 5) % 5 = r := hr.symm
  have hr0 : 0 ≤ r := by omega
  have hr1 : r ≤ 4 := by omega
  obtain ⟨hq0, hq1⟩ := hq0
  clear hr
  obtain ⟨cc, hcc⟩ : ∃ cc, 1 + r = cc := ⟨_, rfl⟩
  have hc1 : 1 ≤ cc := by omega
  have hc5 : cc ≤ 5 := by omega
  go_enter Try.func6, Try.ntmps6
  go_wp2_with fail
  with_reducible refine (awake_any W).mono ?_
  rintro e w1 ⟨rfl, hN1⟩
  have HN1 := Lib.hid hN1; clear hN1
  go_wp2_with fail
  clear hq f1 f2 hcc hr0 hr1
  go_loopg [8, 9] n (fun gk m i wr => ∃ (k : Nat) (B : Option Addr) (cb : Nat), k ≤ n ∧ gk = n - k ∧ m = .slice B k cb ∧ i = .int .i64 k ∧ (∀ j, j < k → 0 ≤ x j ∧ x j ≤ 200) ∧ wr.ownsRow W.heap.size 3 1 (.slice B k cb) k ((mulL x cc k).map iV) ∧ New W wr)
  case atStart => exact ⟨0, none, 0, by omega, by omega, rfl, rfl, fun j hj => by omega, World.ownsRow_nil _ _ _ _, HN1.out⟩
  case round =>
    clear HN1
    obtain ⟨k, B, cb, hk, rfl, rfl, rfl, hx, hO, hN⟩ := hrel
    have HO := Lib.hid hO; clear hO
    have Hx := Lib.hid hx; clear hx
    by_cases hlt : k < n
    · obtain ⟨ad, rfl, hab, hc⟩ := HA.out.new hN (fun _ h => h) k hlt
      have HP : Hid (mulL x cc (k + 1) = mulL x cc k ++ [cc * x k]) := by rw [Hid, ← mulL_push]
      have hc' : wr.cell? (ad.add k) = some (.int .i64 (x k)) := hc
      clear hc
      have HN := Lib.hid hN; clear hN
      by_cases hok : 0 ≤ x k ∧ x k ≤ 200
      · have Hx2 : Hid (∀ j, j < k + 1 → 0 ≤ x j ∧ x j ≤ 200) := fun j hj => by
          by_cases he : j = k
          · subst he; exact hok
          · exact Hx.out j (by omega)
        have p0 := Int.mul_nonneg (show (0 : Int) ≤ cc by omega) hok.1
        have p1 : cc * x k ≤ 1000 := by have := Int.mul_le_mul_of_nonneg_right hc5 hok.1; omega
        obtain ⟨y, hy⟩ : ∃ y, y = x k := ⟨_, rfl⟩
        rw [← hy] at hc' HP hok p0 p1
        clear hy
        obtain ⟨p, hp⟩ : ∃ p, cc * y = p := ⟨_, rfl⟩
        rw [hp] at HP p0 p1
        obtain ⟨y0, y1⟩ := hok
        have t0 : decide (200 < y) = false := by simp only [decide_eq_false_iff_not]; omega
        have t1 : decide (y < 0) = false := by simp only [decide_eq_false_iff_not]; omega
        go_wp2_with (first | (at_builtin; refine wpList_push (wX := W) rfl HN.out _ _ rfl (.slice B k cb) k (mulL x cc k) rfl HO.out p rfl (by omega) ?_; intro B2 c2 w2 hO2 hN2; have HO2 := Lib.hid hO2; have HN2 := Lib.hid hN2; clear hO2 hN2) | fail)
        go_roundg (n - (k + 1))
        case measure => omega
        case rel => exact ⟨k + 1, B2, c2, by omega, rfl, rfl, by go_num, Hx2.out, by rw [HP.out]; exact HO2.out, HN2.out⟩
      · obtain ⟨y, hy⟩ : ∃ y, y = x k := ⟨_, rfl⟩
        rw [← hy] at hc' hok
        clear hy
        by_cases hy : 200 < y
        · have t0 : decide (200 < y) = true := by simp only [decide_eq_true_eq]; omega
          clear hok
          go_wp2_with fail
          go_ret
          exact ⟨rfl, HN.out⟩
        · have t0 : decide (200 < y) = false := by simp only [decide_eq_false_iff_not]; omega
          have t1 : decide (y < 0) = true := by simp only [decide_eq_true_eq]; omega
          clear hok
          go_wp2_with fail
          go_ret
          exact ⟨rfl, HN.out⟩
    · obtain rfl : k = n := by omega
      rw [mulL_row] at HO
      have HN := Lib.hid hN; clear hN
      have Hi := Lib.hid (fine_mul (a := a) hc1 hc5 Hx.out)
      go_wp2_with fail
      with_reducible refine (HSp.out wr HN.out).mono ?_
      intro e w2 hR
      rcases hR with ⟨hf, g, rfl, hO1, hN2⟩ | ⟨hf, rfl, hw⟩
      · have HO1 := Lib.hid hO1; clear hO1
        replace HO := Lib.hid (own_new HO.out hN2)
        have HN2 := Lib.hid (HN.out.then_new hN2); clear hN2 HN
        have hn16 := hf.n1
        have Hf := Lib.hid hf; clear hf
        go_wp2_with fail
        with_reducible refine (Split_ok a B k cb _ _ w2 (row_arr HO.out) (own_below HO.out) (Hi.out.2 Hf.out)).mono ?_
        rintro e w3 ⟨g2, rfl, hO2, hN3⟩
        replace HO1 := Lib.hid (own_new HO1.out hN3)
        have HO2 := Lib.hid hO2; clear hO2
        have HN3 := Lib.hid (HN2.out.then_new hN3); clear hN3
        clear HO
        go_wp2_with fail
        go_loopg [14] k (fun gk i wy => ∃ (j : Nat), j ≤ k ∧ gk = k - j ∧ i = .int .i64 j ∧ New w3 wy)
        case atStart => exact ⟨0, by omega, by omega, rfl, Chg.refl _ _⟩
        case round =>
          obtain ⟨j, hj, rfl, rfl, hNr⟩ := hrel
          have HNr := Lib.hid hNr; clear hNr
          by_cases hlt : j < k
          · have he := spl_scale (c := cc) (by omega) Hf.out j hlt
            have hc1 := row_cell (own_new HO1.out HNr.out) hlt
            have hc2 := row_cell (own_new HO2.out HNr.out) hlt
            rw [he] at hc2
            obtain ⟨y, hy⟩ : ∃ y, y = spl a x k j := ⟨_, rfl⟩
            rw [← hy] at hc1 hc2
            clear hy he
            go_upto_region 18 with (fail)
            go_region
            go_wp2_with fail
            go_roundg (k - (j + 1))
            case measure => omega
            case rel => exact ⟨j + 1, by omega, rfl, by go_num, HNr.out.drew⟩
          · obtain rfl : j = k := by omega
            go_wp2_with fail
            go_ret
            exact ⟨rfl, HN3.out.then_new HNr.out⟩
      · obtain rfl : wr = w2 := hw.symm
        clear hw
        have Hf2 : Hid (¬ Fine a (fun i => cc * x i) k) := fun h => hf (Hi.out.1 h)
        clear hf
        go_wp2_with fail
        with_reducible refine (Split_no a B k cb _ _ wr (row_arr HO.out) (by omega) Hf2.out).mono ?_
        rintro e w3 ⟨rfl, hw⟩
        obtain rfl : wr = w3 := hw.symm
        clear hw
        go_wp2_with fail
        go_loopg [14] 1 (fun gk i wy => gk = 1 ∧ i = .int .i64 0 ∧ wr = wy)
        case atStart => exact ⟨rfl, rfl, rfl⟩
        case round =>
          obtain ⟨rfl, rfl, rfl⟩ := hrel
          go_wp2_with fail
          go_ret
          exact ⟨rfl, HN.out⟩
theorem scales_law {W : World} (a : Int) (_wa : (Lit.int .i64 a).wf = true) (A : Option Addr) (n c : Nat) (z : InI W A n c) (b : Int) (_wb : (Lit.int .i64 b).wf = true) :
    Calls Try.prog 6 #[.int .i64 a, .slice A n c, .int .i64 b] W fun e w' => e = .returned (.bool true) ∧ New W w' := by
  obtain ⟨x, hA, _, _, hn⟩ := z.fn
  exact scales_walk a A n c b x W hA hn
end Go.Proofs.Ytgcikobloimmnaa
