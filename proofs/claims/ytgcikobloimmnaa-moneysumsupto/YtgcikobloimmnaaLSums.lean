/-
  What the law MoneySums does, of at most 1048576 numbers: it returns true and turns nothing that was there.
-/
import Derived.Test.YtgcikobloimmnaaLMore
import Derived.Test.YtgcikobloimmnaaMonF
import Derived.Test.YtgcikobloimmnaaBulkI
namespace Go.Proofs.Ytgcikobloimmnaa
open Go.RowKit
def opF : Nat → Int := fun i => (i : Int)
set_option maxRecDepth 100000 in
set_option maxHeartbeats 8000000 in
theorem sums_walk (A : Option Addr) (n c : Nat) (xs : List Int) (W : World) (hl : xs.length = n) (hA : Arr W (· < W.heap.size) A n (fun i => iV (xs.getD i 0))) (h64 : ∀ i, i < n → I64 (xs.getD i 0)) (hnil : A = none → n = 0 ∧ c = 0) (hn : n ≤ 1048576) :
    Calls Try.prog 3 #[.slice A n c] W fun e w' => e = .returned (.bool true) ∧ New W w' := by
  have Hrow : Hid (xs.map iV = row n (fun i => xs.getD i 0)) := by rw [Hid, row_of_list, hl]
  obtain ⟨x, hx⟩ : ∃ x : Nat → Int, x = fun i => xs.getD i 0 := ⟨_, rfl⟩
  have HAx : Hid (Arr W (· < W.heap.size) A n (fun i => iV (x i))) := by rw [Hid, hx]; exact hA
  have H64 : Hid (∀ i, i < n → I64 (x i)) := by rw [Hid, hx]; exact h64
  rw [← hx] at Hrow
  clear hx h64
  have HA := Lib.hid hA; clear hA
  have Hl := Lib.hid hl; clear hl
  have Hnil := Lib.hid hnil; clear hnil
  have Hcase : Hid ((acc x n = none ∧ evenB x n = false ∧ 1 = 1) ∨ (acc x n = some 0 ∧ evenB x n = true) ∨ ∃ s : Int, acc x n = some s ∧ (s == 0) = false ∧ evenB x n = false) := by
    rw [Hid]
    unfold evenB
    cases h : acc x n with
    | none => exact Or.inl ⟨rfl, by simp, rfl⟩
    | some s =>
      by_cases h0 : s = 0
      · subst h0; exact Or.inr (Or.inl ⟨rfl, by simp⟩)
      · exact Or.inr (Or.inr ⟨s, rfl, by simp [h0], by simp [h0]⟩)
  go_enter Try.func3, Try.ntmps3
  go_wp2_with fail
  with_reducible refine (awake_any W).mono ?_
  rintro e w1 ⟨rfl, hN1⟩
  have HN1 := Lib.hid hN1; clear hN1
  go_wp2_with (first | (at_builtin; refine wpList_copy rfl _ _ rfl rfl A n c xs (· < W.heap.size) rfl (HA.out.new HN1.out fun _ h => h) (fun k hk => Nat.lt_of_lt_of_le hk HN1.out.size) Hl.out Hnil.out (by omega) ?_; intro B cb w2 hO hN2; have HO := Lib.hid hO; have HN2 := Lib.hid (HN1.out.then_new hN2); clear hO hN2) | fail)
  rw [Hrow.out] at HO
  clear HN1 HA Hl Hnil Hrow
  have HC := Lib.hid (Sum_any B n cb _ x w2 (row_arr HO.out) (by omega) H64.out)
  have HD := Lib.hid (refSum_any A n c _ x w2 (HAx.out.new HN2.out fun _ h => h) (by omega) H64.out)
  rcases Hcase.out with ⟨hacc, hev, _⟩ | ⟨hacc, hev⟩ | ⟨s, hacc, hs0, hev⟩
  all_goals
    rw [hacc] at HC HD
    simp only [sumV, rsumV] at HC HD
    have Hev := Lib.hid hev; clear hev hacc Hcase
    with_reducible refine HC.out.mono ?_
    rintro e w' ⟨rfl, hw⟩
    obtain rfl : w2 = w' := hw.symm
    clear hw
    go_wp2_with fail
    with_reducible refine HD.out.mono ?_
    rintro e w' ⟨rfl, hw⟩
    obtain rfl : w2 = w' := hw.symm
    clear hw HC HD
    go_wp2_with fail
    go_loopg [8, 9] n (fun gk b i wr => ∃ (k : Nat) (E : Option Addr) (ce : Nat), k ≤ n ∧ gk = n - k ∧ b = .slice E k ce ∧ i = .int .i64 k ∧ wr.ownsRow w2.heap.size 31 2 (.slice E k ce) k (fcells opF x k) ∧ New w2 wr)
    case atStart => exact ⟨0, none, 0, by omega, by omega, rfl, rfl, World.ownsRow_nil _ _ _ _, Chg.refl _ _⟩
    case round =>
      obtain ⟨k, E, ce, hk, rfl, rfl, rfl, hS, hNr⟩ := hrel
      have HS := Lib.hid hS; clear hS
      have HNr := Lib.hid hNr; clear hNr
      by_cases hlt : k < n
      · obtain ⟨ad, hadA, hab, hc3⟩ := HAx.out.new (HN2.out.then_new HNr.out) (fun _ h => h) k hlt
        subst hadA
        have hc3' : wr.cell? (ad.add k) = some (.int .i64 (x k)) := hc3
        clear hc3
        obtain ⟨y, hy⟩ : ∃ y, y = x k := ⟨_, rfl⟩
        rw [← hy] at hc3'
        have Hy := Lib.hid hy; clear hy
        have HP : Hid (∀ w0 : World, w0.alloc (.cells #[.int .i64 (k : Int), .int .i64 y] 31) = w0.alloc (.cells #[.int .i64 (opF k), .int .i64 (x k)] 31)) := fun w0 => by rw [Hy.out]; rfl
        go_wp2_with (first | (at_builtin; rw [HP.out]; refine wpList_pushS (wX := w2) rfl HNr.out _ _ rfl (.slice E k ce) k opF x rfl HS.out rfl (by omega) ?_; intro E2 ce2 w3 hO3 hN3; have HO3 := Lib.hid hO3; have HN3 := Lib.hid hN3; clear hO3 hN3) | fail)
        obtain ⟨ad2, had2, _, hc4⟩ := HAx.out.new (HN2.out.then_new HN3.out) (fun _ h => h) k hlt
        simp only [Option.some.injEq] at had2
        subst had2
        obtain ⟨bd, hbd, _, hc5⟩ := row_arr (own_new HO.out HN3.out) k hlt
        subst hbd
        have hc4' : w3.cell? (ad.add k) = some (.int .i64 (x k)) := hc4
        have hc5' : w3.cell? (bd.add k) = some (.int .i64 (x k)) := hc5
        rw [← Hy.out] at hc4' hc5'
        clear hc4 hc5 hc3'
        go_upto_region 11 with (fail)
        go_region
        go_wp2_with fail
        go_roundg (n - (k + 1))
        case measure => omega
        case rel => exact ⟨k + 1, E2, ce2, by omega, rfl, rfl, by go_num, own_new HO3.out ((Chg.refl _ _).drew), HN3.out.drew⟩
      · obtain rfl : k = n := by omega
        have HE := Lib.hid (Even_any E k ce _ opF x wr (Flds.of_own HS.out) (own_below HS.out) hn H64.out)
        rw [Hev.out] at HE
        go_wp2_with fail
        with_reducible refine HE.out.mono ?_
        rintro e w5 ⟨rfl, hN5⟩
        have HN5 := Lib.hid (HN2.out.then_new (HNr.out.then_new hN5)); clear hN5
        go_wp2_with fail
        go_ret
        exact ⟨by simp, HN5.out⟩
theorem sums_law {W : World} (A : Option Addr) (n c : Nat) (z : InI W A n c) (hb : n ≤ 1048576) :
    Calls Try.prog 3 #[.slice A n c] W fun e w' => e = .returned (.bool true) ∧ New W w' := by
  obtain ⟨⟨xs, hl, hA, h64, _, _, hnil⟩, hn⟩ := z
  refine sums_walk A n c xs W hl hA (fun i hi => ?_) hnil hb
  have hlt : i < xs.length := by omega
  have := h64 xs[i] (List.getElem_mem hlt)
  simpa [List.getD_eq_getElem?_getD, List.getElem?_eq_getElem hlt] using this
end Go.Proofs.Ytgcikobloimmnaa
