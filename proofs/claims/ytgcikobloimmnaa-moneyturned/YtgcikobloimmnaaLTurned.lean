/-
  What the law MoneyTurned does: it returns true and turns nothing that was there.
-/
import Derived.Test.YtgcikobloimmnaaLMore
namespace Go.Proofs.Ytgcikobloimmnaa
open Go.RowKit
/-- the first k, from behind -/
def revL (x : Nat → Int) (n k : Nat) : List Int := (List.range k).map (fun i => x (n - 1 - i))
theorem revL_push (x : Nat → Int) (n k : Nat) : revL x n k ++ [x (n - 1 - k)] = revL x n (k + 1) := by simp [revL, List.range_succ]
theorem revL_row (x : Nat → Int) (n : Nat) : (revL x n n).map iV = row n (fun i => x (n - 1 - i)) := by simp [revL, row, Function.comp_def]
theorem fine_back {a : Int} {x : Nat → Int} {n : Nat} (h : Fine a (fun i => x (n - 1 - i)) n) : Fine a x n := by
  refine ⟨h.a0, h.a1, h.n1, fun i hi => ?_, ?_⟩
  · have := h.x0 (n - 1 - i) (by omega)
    simp only [show n - 1 - (n - 1 - i) = i by omega] at this
    exact this
  · have := h.W0
    rw [tot_rev] at this; exact this
set_option maxRecDepth 100000 in
set_option maxHeartbeats 4000000 in
theorem turned_walk (a : Int) (A : Option Addr) (n c : Nat) (x : Nat → Int) (W : World) (hA : Arr W (· < W.heap.size) A n (fun i => iV (x i))) (hn : n ≤ 17592186043904) :
    Calls Try.prog 7 #[.int .i64 a, .slice A n c] W fun e w' => e = .returned (.bool true) ∧ New W w' := by
  have HSp : Hid (∀ w, New W w → Calls Try.prog 13 #[.int .i64 a, .slice A n c] w (SplitR w a x n)) := fun w hw => Split_any a A n c _ x w (hA.new hw fun _ h => h) (fun k hk => Nat.lt_of_lt_of_le hk hw.size) (by omega)
  have HA := Lib.hid hA; clear hA
  go_enter Try.func7, Try.ntmps7
  go_wp2_with fail
  with_reducible refine (awake_any W).mono ?_
  rintro e w1 ⟨rfl, hN1⟩
  have HN1 := Lib.hid hN1; clear hN1
  go_wp2_with fail
  go_loopg [5, 6] n (fun gk b i wr => ∃ (k : Nat) (B : Option Addr) (cb : Nat), k ≤ n ∧ gk = n - k ∧ b = .slice B k cb ∧ i = .int .i64 ((n : Int) - 1 - k) ∧ wr.ownsRow W.heap.size 3 1 (.slice B k cb) k ((revL x n k).map iV) ∧ New W wr)
  case atStart => exact ⟨0, none, 0, by omega, by omega, rfl, by simp, World.ownsRow_nil _ _ _ _, HN1.out⟩
  case round =>
    clear HN1
    obtain ⟨k, B, cb, hk, rfl, rfl, rfl, hO, hN⟩ := hrel
    have HO := Lib.hid hO; clear hO
    by_cases hlt : k < n
    · obtain ⟨j, hj⟩ : ∃ j, j + k + 1 = n := ⟨n - 1 - k, by omega⟩
      have hji : (n : Int) - 1 - k = (j : Int) := by omega
      have hjn : j < n := by omega
      obtain ⟨ad, rfl, hab, hc⟩ := HA.out.new hN (fun _ h => h) j hjn
      have HP : Hid (revL x n (k + 1) = revL x n k ++ [x j]) := by rw [Hid, ← revL_push, show n - 1 - k = j by omega]
      have hc' : wr.cell? (ad.add j) = some (.int .i64 (x j)) := hc
      clear hc
      obtain ⟨y, hy⟩ : ∃ y, y = x j := ⟨_, rfl⟩
      rw [← hy] at hc' HP
      clear hy
      rw [hji]
      have HN := Lib.hid hN; clear hN
      have Hj := Lib.hid hj; clear hj hji
      go_wp2_with (first | (at_builtin; refine wpList_push (wX := W) rfl HN.out _ _ rfl (.slice B k cb) k (revL x n k) rfl HO.out y rfl (by omega) ?_; intro B2 c2 w2 hO2 hN2; have HO2 := Lib.hid hO2; have HN2 := Lib.hid hN2; clear hO2 hN2) | fail)
      go_roundg (n - (k + 1))
      case measure => omega
      case rel =>
        have hj := Hj.out
        refine ⟨k + 1, B2, c2, by omega, rfl, rfl, ?_, by rw [HP.out]; exact HO2.out, HN2.out⟩
        first | (congr 1; omega) | (rw [show (n : Int) - 1 - ((k + 1 : Nat) : Int) = (j : Int) - 1 by omega]; go_num)
    · obtain rfl : k = n := by omega
      have hneg : (k : Int) - 1 - k = -1 := by omega
      rw [hneg]
      clear hneg
      rw [revL_row] at HO
      have HN := Lib.hid hN; clear hN
      go_wp2_with fail
      with_reducible refine (HSp.out wr HN.out).mono ?_
      intro e w2 hR
      rcases hR with ⟨hf, g, rfl, hO1, hN2⟩ | ⟨hf, rfl, hw⟩
      · have HO1 := Lib.hid hO1; clear hO1
        replace HO := Lib.hid (own_new HO.out hN2)
        have HN2 := Lib.hid (HN.out.then_new hN2); clear hN2 HN
        have hn16 := hf.n1
        have ha0 := hf.a0
        have ha1 := hf.a1
        have Hf := Lib.hid hf; clear hf
        go_wp2_with fail
        with_reducible refine (Split_ok a B k cb _ _ w2 (row_arr HO.out) (own_below HO.out) Hf.out.rev).mono ?_
        rintro e w3 ⟨g2, rfl, hO2, hN3⟩
        replace HO1 := Lib.hid (own_new HO1.out hN3)
        have HO2 := Lib.hid hO2; clear hO2
        have HN3 := Lib.hid (HN2.out.then_new hN3); clear hN3
        clear HO
        go_wp2_with fail
        go_loopg [11, 12] k (fun gk s i wy => ∃ (j : Nat), j ≤ k ∧ gk = k - j ∧ s = .int .i64 (tot (fun i => spl a x k i - spl a (fun i => x (k - 1 - i)) k (k - 1 - i)) j) ∧ i = .int .i64 j ∧ -j ≤ tot (fun i => spl a x k i - spl a (fun i => x (k - 1 - i)) k (k - 1 - i)) j ∧ tot (fun i => spl a x k i - spl a (fun i => x (k - 1 - i)) k (k - 1 - i)) j ≤ j ∧ New w3 wy)
        case atStart => exact ⟨0, by omega, by omega, rfl, rfl, by simp [tot], by simp [tot], Chg.refl _ _⟩
        case round =>
          obtain ⟨j, hj, rfl, rfl, rfl, s0, s1, hNr⟩ := hrel
          have HNr := Lib.hid hNr; clear hNr
          by_cases hlt : j < k
          · obtain ⟨i, hi⟩ : ∃ i, i + j + 1 = k := ⟨k - 1 - j, by omega⟩
            have hik : i < k := by omega
            have hii : (k : Int) - 1 - j = (i : Int) := by omega
            have HT : Hid (tot (fun i => spl a x k i - spl a (fun i => x (k - 1 - i)) k (k - 1 - i)) (j + 1) = tot (fun i => spl a x k i - spl a (fun i => x (k - 1 - i)) k (k - 1 - i)) j + (spl a x k j - spl a (fun i => x (k - 1 - i)) k i)) := by
              rw [Hid, tot, show k - 1 - j = i by omega]
            have hd := spl_rev Hf.out j hlt
            rw [show k - 1 - j = i by omega] at hd
            obtain ⟨d0, d1⟩ := hd
            have hb1 := Hf.out.spl0 j hlt
            have hb2 := Hf.out.spl_le j hlt
            have hb3 := Hf.out.rev.spl0 i hik
            have hb4 := Hf.out.rev.spl_le i hik
            have hc1 := row_cell (own_new HO1.out HNr.out) hlt
            have hc2 := row_cell (own_new HO2.out HNr.out) hik
            obtain ⟨T, hT⟩ : ∃ T, T = tot (fun i => spl a x k i - spl a (fun i => x (k - 1 - i)) k (k - 1 - i)) j := ⟨_, rfl⟩
            obtain ⟨y, hy⟩ : ∃ y, y = spl a x k j := ⟨_, rfl⟩
            obtain ⟨z, hz⟩ : ∃ z, z = spl a (fun i => x (k - 1 - i)) k i := ⟨_, rfl⟩
            rw [← hT] at HT s0 s1 ⊢
            rw [← hy] at HT d0 d1 hb1 hb2 hc1
            rw [← hz] at HT d0 d1 hb3 hb4 hc2
            clear hT hy hz
            have Hi := Lib.hid hi; clear hi
            have t5 : decide (y - z < -1) = false := by simp only [decide_eq_false_iff_not]; omega
            have t6 : decide (1 < y - z) = false := by simp only [decide_eq_false_iff_not]; omega
            go_upto_region 16 with (fail)
            go_region
            go_wp2_with fail
            go_roundg (k - (j + 1))
            case measure => omega
            case rel => exact ⟨j + 1, by omega, rfl, by rw [HT.out], by go_num, by rw [HT.out]; omega, by rw [HT.out]; omega, HNr.out.drew⟩
          · obtain rfl : j = k := by omega
            rw [spl_rev_sum Hf.out] at s0 s1 ⊢
            go_wp2_with fail
            go_ret
            exact ⟨rfl, HN3.out.then_new HNr.out⟩
      · obtain rfl : wr = w2 := hw.symm
        clear hw
        have hf2 : ¬ Fine a (fun i => x (k - 1 - i)) k := fun h => hf (fine_back h)
        have Hf2 := Lib.hid hf2; clear hf2 hf
        go_wp2_with fail
        with_reducible refine (Split_no a B k cb _ _ wr (row_arr HO.out) (by omega) Hf2.out).mono ?_
        rintro e w3 ⟨rfl, hw⟩
        obtain rfl : wr = w3 := hw.symm
        clear hw
        go_wp2_with fail
        go_loopg [11, 12] 1 (fun gk s i wy => gk = 1 ∧ s = .int .i64 0 ∧ i = .int .i64 0 ∧ wr = wy)
        case atStart => exact ⟨rfl, rfl, rfl, rfl⟩
        case round =>
          obtain ⟨rfl, rfl, rfl, rfl⟩ := hrel
          go_wp2_with fail
          go_ret
          exact ⟨rfl, HN.out⟩
theorem turned_law {W : World} (a : Int) (_wa : (Lit.int .i64 a).wf = true) (A : Option Addr) (n c : Nat) (z : InI W A n c) :
    Calls Try.prog 7 #[.int .i64 a, .slice A n c] W fun e w' => e = .returned (.bool true) ∧ New W w' := by
  obtain ⟨x, hA, _, _, hn⟩ := z.fn
  exact turned_walk a A n c x W hA hn
end Go.Proofs.Ytgcikobloimmnaa
