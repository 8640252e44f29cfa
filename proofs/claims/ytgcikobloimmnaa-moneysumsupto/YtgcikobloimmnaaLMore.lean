/-
  What the law MoneyMore does: it returns true and turns nothing that was there.
-/
import Derived.Test.YtgcikobloimmnaaAwake
namespace Go.Proofs.Ytgcikobloimmnaa
open Go.RowKit
def oneX : Nat → Int := fun i => [0, 7, 0].getD i 0
theorem one_fine {a : Int} (h0 : 0 ≤ a) (h1 : a ≤ 2147483648) : Fine a oneX 3 := by
  refine ⟨h0, h1, by decide, fun i hi => ?_, by decide⟩
  rcases (show i = 0 ∨ i = 1 ∨ i = 2 by omega) with rfl | rfl | rfl <;> decide
theorem one_spl {a : Int} (h : Fine a oneX 3) : spl a oneX 3 0 = 0 ∧ spl a oneX 3 1 = a ∧ spl a oneX 3 2 = 0 := by
  have e0 := h.nothing 0 (by decide) (by decide)
  have e2 := h.nothing 2 (by decide) (by decide)
  have hs := h.sum
  simp only [tot] at hs
  exact ⟨e0, by omega, e2⟩
theorem one_split (a : Int) (w : World) (h0 : 0 ≤ a) (h1 : a ≤ 2147483648) : Calls Try.prog 13 #[.int .i64 a, .slice (some ⟨w.heap.size, 0, none⟩) 3 3] (w.alloc (.cells #[.int .i64 0, .int .i64 7, .int .i64 0] 3)) fun e w' =>
    ∃ g, e = .returned (.tuple #[.slice (some ⟨g, 0, none⟩) 3 3, .int .i64 0]) ∧ w'.cell? ⟨g, 0, none⟩ = some (.int .i64 0) ∧ w'.cell? ⟨g, 1, none⟩ = some (.int .i64 a) ∧ w'.cell? ⟨g, 2, none⟩ = some (.int .i64 0) ∧ New w w' := by
  have hA := arr_has (xs := [0, 7, 0]) (Has.new w 3 #[.int .i64 0, .int .i64 7, .int .i64 0])
  have hf := one_fine h0 h1
  have hs := one_spl hf
  refine (Split_ok a _ 3 3 _ oneX _ hA (fun k hk => by subst hk; simp) hf).mono ?_
  rintro e w' ⟨g, rfl, hO, hN⟩
  refine ⟨g, rfl, ?_, ?_, ?_, ?_⟩
  · rw [row_cell hO (by decide), hs.1]
  · rw [row_cell hO (by decide), hs.2.1]
  · rw [row_cell hO (by decide), hs.2.2]
  · exact ((Chg.refl _ _).alloc _).then_new hN
/-- weights that came in -/
def InI (W : World) (A : Option Addr) (n c : Nat) : Prop := (∃ xs : List Int, xs.length = n ∧ Arr W (· < W.heap.size) A n (fun i => iV (xs.getD i 0)) ∧ (∀ x ∈ xs, I64 x) ∧ n ≤ c ∧ c ≤ maxLen ∧ (A = none → n = 0 ∧ c = 0)) ∧ n ≤ 17592186043904
theorem InI.fn {W : World} {A : Option Addr} {n c : Nat} (h : InI W A n c) : ∃ x : Nat → Int, Arr W (· < W.heap.size) A n (fun i => iV (x i)) ∧ (∀ i, i < n → I64 (x i)) ∧ (A = none → n = 0 ∧ c = 0) ∧ n ≤ 17592186043904 := by
  obtain ⟨⟨xs, hl, hA, h64, _, _, hnil⟩, hn⟩ := h
  refine ⟨fun i => xs.getD i 0, hA, fun i hi => ?_, hnil, hn⟩
  have hlt : i < xs.length := by omega
  have := h64 xs[i] (List.getElem_mem hlt)
  simpa [List.getD_eq_getElem?_getD, List.getElem?_eq_getElem hlt] using this
set_option maxRecDepth 100000 in
set_option maxHeartbeats 4000000 in
theorem more_out (a m : Int) (A : Option Addr) (n c : Nat) (W : World) (h : (decide (a < 0) = true) ∨ (decide (a < 0) = false ∧ decide (m < 0) = true) ∨ (decide (a < 0) = false ∧ decide (m < 0) = false ∧ decide (1073741824 < a) = true) ∨ (decide (a < 0) = false ∧ decide (m < 0) = false ∧ decide (1073741824 < a) = false ∧ decide (1073741824 < m) = true)) :
    Calls Try.prog 8 #[.int .i64 a, .int .i64 m, .slice A n c] W fun e w' => e = .returned (.bool true) ∧ New W w' := by
  rcases h with h0 | ⟨h0, h1⟩ | ⟨h0, h1, h2⟩ | ⟨h0, h1, h2, h3⟩
  all_goals
    go_enter Try.func8, Try.ntmps8
    go_wp2_with fail
    with_reducible refine (awake_any W).mono ?_
    rintro e w1 ⟨rfl, hN1⟩
    have HN1 := Lib.hid hN1; clear hN1
    go_wp2_with fail
    with_reducible refine (awake_any w1).mono ?_
    rintro e w2 ⟨rfl, hN2⟩
    have HN2 := Lib.hid (HN1.out.then_new hN2); clear hN2
    go_wp2_with fail
    go_ret
    exact ⟨rfl, HN2.out⟩
set_option maxRecDepth 100000 in
set_option maxHeartbeats 4000000 in
theorem more_in (a m : Int) (A : Option Addr) (n c : Nat) (x : Nat → Int) (W : World) (hA : Arr W (· < W.heap.size) A n (fun i => iV (x i))) (hn : n ≤ 17592186043904) (ha0 : 0 ≤ a) (hm0 : 0 ≤ m) (ha1 : a ≤ 1073741824) (hm1 : m ≤ 1073741824) :
    Calls Try.prog 8 #[.int .i64 a, .int .i64 m, .slice A n c] W fun e w' => e = .returned (.bool true) ∧ New W w' := by
  have t0 : decide (a < 0) = false := by simp only [decide_eq_false_iff_not]; omega
  have t1 : decide (m < 0) = false := by simp only [decide_eq_false_iff_not]; omega
  have t2 : decide (1073741824 < a) = false := by simp only [decide_eq_false_iff_not]; omega
  have t3 : decide (1073741824 < m) = false := by simp only [decide_eq_false_iff_not]; omega
  have HSp : Hid (∀ b w, New W w → Calls Try.prog 13 #[.int .i64 b, .slice A n c] w (SplitR w b x n)) := fun b w hw => Split_any b A n c _ x w (hA.new hw fun _ h => h) (fun k hk => Nat.lt_of_lt_of_le hk hw.size) (by omega)
  clear hA
  go_enter Try.func8, Try.ntmps8
  go_wp2_with fail
  with_reducible refine (awake_any W).mono ?_
  rintro e w1 ⟨rfl, hN1⟩
  have HN1 := Lib.hid hN1; clear hN1
  go_wp2_with fail
  with_reducible refine (HSp.out a w1 HN1.out).mono ?_
  intro e w2 hR
  rcases hR with ⟨hf, g, rfl, hO, hN⟩ | ⟨hf, rfl, hw⟩
  · have hf2 : Fine (a + m) x n := ⟨by omega, by omega, hf.n1, hf.x0, hf.W0⟩
    have HO := Lib.hid hO; clear hO
    have HN2 := Lib.hid (HN1.out.then_new hN); clear hN
    have hn16 := hf.n1
    have Hf := Lib.hid hf; clear hf
    have Hf2 := Lib.hid hf2; clear hf2
    go_wp2_with fail
    with_reducible refine (HSp.out (a + m) w2 HN2.out).mono ?_
    intro e w3 hR
    rcases hR with ⟨_, g2, rfl, hO2, hN3⟩ | ⟨hf, _⟩
    · have HO1 := Lib.hid (own_new HO.out hN3); clear HO
      have HO2 := Lib.hid hO2; clear hO2
      have HN3 := Lib.hid (HN2.out.then_new hN3); clear hN3
      go_wp2_with fail
      go_loopg [11] n (fun gk i wr => ∃ k : Nat, k ≤ n ∧ gk = n - k ∧ i = .int .i64 k ∧ New w3 wr)
      case atStart => exact ⟨0, by omega, by omega, rfl, Chg.refl _ _⟩
      case round =>
        obtain ⟨k, hk, rfl, rfl, hNr⟩ := hrel
        have HNr := Lib.hid hNr; clear hNr
        by_cases hlt : k < n
        · have hc1 := row_cell (own_new HO1.out HNr.out) hlt
          have hc2 := row_cell (own_new HO2.out HNr.out) hlt
          have hm := spl_more Hf.out Hf2.out (by omega) k hlt
          have hb1 := Hf.out.spl0 k hlt
          have hb2 := Hf.out.spl_le k hlt
          obtain ⟨y, hy⟩ : ∃ y, y = spl a x n k := ⟨_, rfl⟩
          obtain ⟨z, hz⟩ : ∃ z, z = spl (a + m) x n k := ⟨_, rfl⟩
          rw [← hy] at hc1 hm hb1 hb2
          rw [← hz] at hc2 hm
          clear hy hz
          have t5 : decide (z < y - 1) = false := by simp only [decide_eq_false_iff_not]; omega
          go_upto_region 10 with (fail)
          go_region
          go_wp2_with fail
          go_roundg (n - (k + 1))
          case measure => omega
          case rel => exact ⟨k + 1, by omega, rfl, by go_num, HNr.out.drew⟩
        · obtain rfl : k = n := by omega
          go_wp2_with fail
          with_reducible refine (one_split a wr ha0 (by omega)).mono ?_
          rintro e w4 ⟨g4, rfl, c0, c1, c2, hN4⟩
          have HN4 := Lib.hid (HN3.out.then_new (HNr.out.then_new hN4)); clear hN4
          go_wp2_with fail
          go_ret
          exact ⟨rfl, HN4.out⟩
    · exact absurd Hf2.out hf
  · obtain rfl : w1 = w2 := hw.symm
    have hf2 : ¬ Fine (a + m) x n := fun h => hf ⟨by omega, by omega, h.n1, h.x0, h.W0⟩
    clear hw
    go_wp2_with fail
    with_reducible refine (HSp.out (a + m) w1 HN1.out).mono ?_
    intro e w3 hR
    rcases hR with ⟨hf, _⟩ | ⟨_, rfl, hw⟩
    · exact absurd hf hf2
    · obtain rfl : w1 = w3 := hw.symm
      clear hw
      go_wp2_with fail
      go_loopg [11] 1 (fun gk i wr => gk = 1 ∧ i = .int .i64 0 ∧ w1 = wr)
      case atStart => exact ⟨rfl, rfl, rfl⟩
      case round =>
        obtain ⟨rfl, rfl, rfl⟩ := hrel
        go_wp2_with fail
        with_reducible refine (one_split a w1 ha0 (by omega)).mono ?_
        rintro e w4 ⟨g4, rfl, c0, c1, c2, hN4⟩
        have HN4 := Lib.hid (HN1.out.then_new hN4); clear hN4
        go_wp2_with fail
        go_ret
        exact ⟨rfl, HN4.out⟩
theorem more_law {W : World} (a : Int) (_wa : (Lit.int .i64 a).wf = true) (m : Int) (_wm : (Lit.int .i64 m).wf = true) (A : Option Addr) (n c : Nat) (z : InI W A n c) :
    Calls Try.prog 8 #[.int .i64 a, .int .i64 m, .slice A n c] W fun e w' => e = .returned (.bool true) ∧ New W w' := by
  obtain ⟨x, hA, _, _, hn⟩ := z.fn
  by_cases h : (0 ≤ a ∧ 0 ≤ m) ∧ a ≤ 1073741824 ∧ m ≤ 1073741824
  · obtain ⟨⟨h0, h1⟩, h2, h3⟩ := h
    exact more_in a m A n c x W hA hn h0 h1 h2 h3
  · refine more_out a m A n c W ?_
    simp only [decide_eq_true_eq, decide_eq_false_iff_not]
    omega
end Go.Proofs.Ytgcikobloimmnaa
