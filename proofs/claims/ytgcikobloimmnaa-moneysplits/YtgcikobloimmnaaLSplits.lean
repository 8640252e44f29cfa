/-
  What the law MoneySplits does: it returns true and turns nothing that was there.
-/
import Derived.Test.YtgcikobloimmnaaLMore
import Derived.Test.YtgcikobloimmnaaMonE
namespace Go.Proofs.Ytgcikobloimmnaa
open Go.RowKit
set_option maxRecDepth 100000 in
set_option maxHeartbeats 8000000 in
theorem splits_walk (a : Int) (A : Option Addr) (n c : Nat) (xs : List Int) (W : World) (hl : xs.length = n) (hA : Arr W (· < W.heap.size) A n (fun i => iV (xs.getD i 0))) (hnil : A = none → n = 0 ∧ c = 0) (hn : n ≤ 17592186043904) :
    Calls Try.prog 4 #[.int .i64 a, .slice A n c] W fun e w' => e = .returned (.bool true) ∧ New W w' := by
  have Hrow : Hid (xs.map iV = row n (fun i => xs.getD i 0)) := by rw [Hid, row_of_list, hl]
  obtain ⟨x, hx⟩ : ∃ x : Nat → Int, x = fun i => xs.getD i 0 := ⟨_, rfl⟩
  have HAx : Hid (Arr W (· < W.heap.size) A n (fun i => iV (x i))) := by rw [Hid, hx]; exact hA
  rw [← hx] at Hrow
  clear hx
  have HA := Lib.hid hA; clear hA
  have Hl := Lib.hid hl; clear hl
  have Hnil := Lib.hid hnil; clear hnil
  go_enter Try.func4, Try.ntmps4
  go_wp2_with fail
  with_reducible refine (awake_any W).mono ?_
  rintro e w1 ⟨rfl, hN1⟩
  have HN1 := Lib.hid hN1; clear hN1
  go_wp2_with (first | (at_builtin; refine wpList_copy rfl _ _ rfl rfl A n c xs (· < W.heap.size) rfl (HA.out.new HN1.out fun _ h => h) (fun k hk => Nat.lt_of_lt_of_le hk HN1.out.size) Hl.out Hnil.out (by omega) ?_; intro B cb w2 hO hN2; have HO := Lib.hid hO; have HN2 := Lib.hid (HN1.out.then_new hN2); clear hO hN2) | fail)
  rw [Hrow.out] at HO
  clear HN1 HA Hl Hnil Hrow
  with_reducible refine (Split_any a B n cb _ x w2 (row_arr HO.out) (own_below HO.out) (by omega)).mono ?_
  intro e w3 hR
  rcases hR with ⟨hf, g, rfl, hO3, hN3⟩ | ⟨hf, rfl, hw⟩
  · have HO3 := Lib.hid hO3; clear hO3
    replace HO := Lib.hid (own_new HO.out hN3)
    have HN3 := Lib.hid (HN2.out.then_new hN3); clear hN3 HN2
    have hn16 := hf.n1
    have HC := Lib.hid (refSplit_ok a A n c _ x w3 (HAx.out.new HN3.out fun _ h => h) (fun k hk => Nat.lt_of_lt_of_le hk HN3.out.size) hf)
    clear hf
    go_wp2_with fail
    with_reducible refine HC.out.mono ?_
    rintro e w4 ⟨g2, rfl, hO4, hN4⟩
    have HO4 := Lib.hid hO4; clear hO4
    replace HO := Lib.hid (own_new HO.out hN4)
    replace HO3 := Lib.hid (own_new HO3.out hN4)
    have HN4 := Lib.hid (HN3.out.then_new hN4); clear hN4 HN3 HC
    go_wp2_with fail
    go_loopg [10] n (fun gk i wr => ∃ (k : Nat), k ≤ n ∧ gk = n - k ∧ i = .int .i64 k ∧ New w4 wr)
    case atStart => exact ⟨0, by omega, by omega, rfl, Chg.refl _ _⟩
    case round =>
      obtain ⟨k, hk, rfl, rfl, hNr⟩ := hrel
      have HNr := Lib.hid hNr; clear hNr
      by_cases hlt : k < n
      · have hc1 := row_cell (own_new HO3.out HNr.out) hlt
        have hc2 := row_cell (own_new HO4.out HNr.out) hlt
        obtain ⟨ad, hadA, _, hc3⟩ := HAx.out.new (HN4.out.then_new HNr.out) (fun _ h => h) k hlt
        obtain ⟨bd, hbd, _, hc4⟩ := row_arr (own_new HO.out HNr.out) k hlt
        subst hadA
        subst hbd
        have hc3' : wr.cell? (ad.add k) = some (.int .i64 (x k)) := hc3
        have hc4' : wr.cell? (bd.add k) = some (.int .i64 (x k)) := hc4
        obtain ⟨y, hy⟩ : ∃ y, y = spl a x n k := ⟨_, rfl⟩
        obtain ⟨z, hz⟩ : ∃ z, z = x k := ⟨_, rfl⟩
        rw [← hy] at hc1 hc2
        rw [← hz] at hc3' hc4'
        clear hy hz hc3 hc4
        go_upto_region 11 with (fail)
        go_region
        go_wp2_with fail
        go_roundg (n - (k + 1))
        case measure => omega
        case rel => exact ⟨k + 1, by omega, rfl, by go_num, HNr.out.drew⟩
      · obtain rfl : k = n := by omega
        go_wp2_with fail
        go_ret
        exact ⟨rfl, HN4.out.then_new HNr.out⟩
  · obtain rfl : w2 = w3 := hw.symm
    clear hw
    have HC := Lib.hid (refSplit_no a A n c _ x w2 (HAx.out.new HN2.out fun _ h => h) hf)
    clear hf
    go_wp2_with fail
    with_reducible refine HC.out.mono ?_
    rintro e w4 ⟨rfl, hw⟩
    obtain rfl : w2 = w4 := hw.symm
    clear hw HC
    go_wp2_with fail
    go_loopg [10] 1 (fun gk i wr => gk = 1 ∧ i = .int .i64 0 ∧ w2 = wr)
    case atStart => exact ⟨rfl, rfl, rfl⟩
    case round =>
      obtain ⟨rfl, rfl, rfl⟩ := hrel
      go_wp2_with fail
      go_ret
      exact ⟨rfl, HN2.out⟩
theorem splits_law {W : World} (a : Int) (_wa : (Lit.int .i64 a).wf = true) (A : Option Addr) (n c : Nat) (z : InI W A n c) :
    Calls Try.prog 4 #[.int .i64 a, .slice A n c] W fun e w' => e = .returned (.bool true) ∧ New W w' := by
  obtain ⟨⟨xs, hl, hA, _, _, _, hnil⟩, hn⟩ := z
  exact splits_walk a A n c xs W hl hA hnil hn
end Go.Proofs.Ytgcikobloimmnaa
