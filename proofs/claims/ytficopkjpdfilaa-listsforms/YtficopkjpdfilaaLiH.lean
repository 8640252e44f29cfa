/-
  The document's List.Apply.
-/
import Derived.Test.YtficopkjpdfilaaLiE
import Derived.Test.YtficopkjpdfilaaLiR
namespace Go.Proofs.Ytficopkjpdfilaa
open Go.RowKit
theorem all_split {f : It → Bool} {xs : List It} {k : Nat} {x : It} (h : xs[k]? = some x) (hp : (xs.take k).all f = true) : ((xs.take (k + 1)).all f = f x) ∧ (f x = false → xs.all f = false) := by
  have e := take_snoc h
  have e2 : xs = xs.take k ++ x :: xs.drop (k + 1) := by
    rw [List.getElem?_eq_some_iff] at h
    obtain ⟨hlt, rfl⟩ := h
    rw [← List.drop_eq_getElem_cons hlt, List.take_append_drop]
  refine ⟨by rw [e, List.all_append, hp]; simp, fun hx => ?_⟩
  rw [e2, List.all_append, List.all_cons, hx]
  simp
set_option maxRecDepth 100000 in
set_option maxHeartbeats 4000000 in
/-- the document's In -/
theorem docIn_any (xs : List It) (y : It) (A : Option Addr) (n c : Nat) (w : World) (F : Nat → Prop) (hl : xs.length = n) (hb : n ≤ 1000000000000000000) (hA : Its w F A xs) (hF : ∀ k, F k → k < w.heap.size) :
    Calls Try.prog 25 #[.slice A n c, y.V] w fun e w' => e = .returned (.bool (xs.contains y)) ∧ New w w' := by
  have HA := Lib.hid hA; clear hA
  have HF := Lib.hid hF; clear hF
  have Hl := Lib.hid hl; clear hl
  obtain ⟨B, hB⟩ : ∃ B, B = xs.contains y := ⟨_, rfl⟩
  rw [← hB]
  rw [← any_contains] at hB
  have HB := Lib.hid hB; clear hB
  obtain ⟨y', hy⟩ : ∃ y', y' = y := ⟨_, rfl⟩
  rw [← hy] at HB
  have Hy := Lib.hid hy; clear hy
  obtain ⟨yc, yo, yi, yn, ya⟩ := y
  go_enter Try.func25, Try.ntmps25
  go_wp2_with fail
  go_loopg [5] n (fun gk i wr => ∃ k : Nat, k ≤ n ∧ gk = n - k ∧ i = .int .i64 k ∧ ((xs.take k).any fun x => decide (y' = x)) = false ∧ Has wr w.heap.size 44 #[.int .i64 yc, .int .i64 yo, .int .i64 yi, .int .i64 yn, .int .i64 ya] ∧ New w wr)
  case atStart => exact ⟨0, by omega, by omega, rfl, by simp, Has.new _ _ _, (Chg.refl _ _).alloc _⟩
  case round =>
    obtain ⟨k, hk, rfl, rfl, hp, hX, hN⟩ := hrel
    have HP := Lib.hid hp; clear hp
    have HN := Lib.hid hN; clear hN
    have HX := Lib.hid hX; clear hX
    have hlx := HX.out.lt
    have c0 : wr.cell? ⟨w.heap.size, 0, none⟩ = some (.int .i64 yc) := (HX.out.cell 0).trans rfl
    have c1 : wr.cell? ⟨w.heap.size, 1, none⟩ = some (.int .i64 yo) := (HX.out.cell 1).trans rfl
    have c2 : wr.cell? ⟨w.heap.size, 2, none⟩ = some (.int .i64 yi) := (HX.out.cell 2).trans rfl
    have c3 : wr.cell? ⟨w.heap.size, 3, none⟩ = some (.int .i64 yn) := (HX.out.cell 3).trans rfl
    have c4 : wr.cell? ⟨w.heap.size, 4, none⟩ = some (.int .i64 ya) := (HX.out.cell 4).trans rfl
    by_cases hlt : k < n
    · obtain ⟨x, hx⟩ : ∃ x, xs[k]? = some x := ⟨_, List.getElem?_eq_getElem (by rw [Hl.out]; exact hlt)⟩
      obtain ⟨a, rfl, hab, a0, a1, a2, a3, a4⟩ := (HA.out.new HN.out HF.out) k x hx
      obtain ⟨h1, h2⟩ := any_split hx HP.out
      have H1 := Lib.hid h1; clear h1
      have H2 := Lib.hid h2; clear h2
      clear hx hab
      by_cases hxy : x = (⟨yc, yo, yi, yn, ya⟩ : It)
      · have Hyx : Hid (decide (y' = x) = true) := decide_eq_true (Hy.out.trans hxy.symm)
        subst hxy
        go_wp2_with fail
        go_region
        all_goals
          go_wp2_with fail
          go_ret
          exact ⟨by rw [HB.out, H2.out Hyx.out]; rfl, HN.out.drew⟩
      · have Hyx : Hid (decide (y' = x) = false) := decide_eq_false (fun h => hxy (h.symm.trans Hy.out))
        have hw := It_ways hxy
        clear hxy
        have HM := Lib.hid (H1.out.trans Hyx.out)
        clear H1 H2 Hyx
        obtain ⟨xc, xo, xi, xn, xa⟩ := x
        simp only at hw a0 a1 a2 a3 a4
        rcases hw with hw | ⟨rfl, hw⟩ | ⟨rfl, rfl, hw⟩ | ⟨rfl, rfl, rfl, hw⟩ | ⟨rfl, rfl, rfl, rfl, hw⟩
        all_goals
          go_wp2_with fail
          go_region
          all_goals
            go_wp2_with fail
            go_roundg (n - (k + 1))
            case measure => omega
            case rel => exact ⟨k + 1, by omega, rfl, by go_num, HM.out, HX.out, HN.out.drew⟩
    · obtain rfl : k = n := by omega
      go_wp2_with fail
      go_ret
      exact ⟨by rw [HB.out, any_end (by rw [Hl.out]; exact HP.out)]; rfl, HN.out⟩
set_option maxRecDepth 100000 in
set_option maxHeartbeats 4000000 in
/-- the document's Same -/
theorem Same_any (xs ys : List It) (A B : Option Addr) (n m ca cb : Nat) (w : World) (F : Nat → Prop) (hl : xs.length = n) (hm : ys.length = m) (hb : n ≤ 1000000000000000000) (hb2 : m ≤ 1000000000000000000) (hA : Its w F A xs) (hB : Its w F B ys) :
    Calls Try.prog 13 #[.slice A n ca, .slice B m cb] w fun e w' => e = .returned (.bool (decide (xs = ys))) ∧ New w w' := by
  have HA := Lib.hid hA; clear hA
  have HB := Lib.hid hB; clear hB
  have Hl := Lib.hid hl; clear hl
  have Hm := Lib.hid hm; clear hm
  obtain ⟨R, hR⟩ : ∃ R, R = decide (xs = ys) := ⟨_, rfl⟩
  rw [← hR]
  have HR := Lib.hid hR; clear hR
  go_enter Try.func13, Try.ntmps13
  by_cases hnm : n = m
  · subst hnm
    go_wp2_with fail
    go_loopg [5] n (fun gk i wr => ∃ k : Nat, k ≤ n ∧ gk = n - k ∧ i = .int .i64 k ∧ xs.take k = ys.take k ∧ New w wr ∧ ∃ q, wr = w.drewN q)
    case atStart => exact ⟨0, by omega, by omega, rfl, by simp, Chg.refl _ _, 0, rfl⟩
    case round =>
      obtain ⟨k, hk, rfl, rfl, hp, hN, q, rfl⟩ := hrel
      have HP := Lib.hid hp; clear hp
      have HN := Lib.hid hN; clear hN
      by_cases hlt : k < n
      · obtain ⟨x, hx⟩ : ∃ x, xs[k]? = some x := ⟨_, List.getElem?_eq_getElem (by rw [Hl.out]; exact hlt)⟩
        obtain ⟨y, hy⟩ : ∃ y, ys[k]? = some y := ⟨_, List.getElem?_eq_getElem (by rw [Hm.out]; exact hlt)⟩
        obtain ⟨a, rfl, hab, a0, a1, a2, a3, a4⟩ := HA.out k x hx
        obtain ⟨b, rfl, hbb, b0, b1, b2, b3, b4⟩ := HB.out k y hy
        clear hab hbb
        by_cases hxy : x = y
        · have HM : Hid (xs.take (k + 1) = ys.take (k + 1)) := by rw [Hid, take_snoc hx, take_snoc hy, HP.out, hxy]
          clear hx hy
          subst hxy
          go_wp2_with fail
          go_region
          all_goals
            go_wp2_with fail
            go_roundg (n - (k + 1))
            case measure => omega
            case rel => exact ⟨k + 1, by omega, rfl, by go_num, HM.out, HN.out.drew, q + 1, rfl⟩
        · have HM : Hid (¬ xs = ys) := fun h => hxy (by rw [h, hy] at hx; simpa using hx.symm)
          have hw := It_ways hxy
          clear hxy hx hy
          obtain ⟨xc, xo, xi, xn, xa⟩ := x
          obtain ⟨yc, yo, yi, yn, ya⟩ := y
          simp only at hw a0 a1 a2 a3 a4 b0 b1 b2 b3 b4
          rcases hw with hw | ⟨rfl, hw⟩ | ⟨rfl, rfl, hw⟩ | ⟨rfl, rfl, rfl, hw⟩ | ⟨rfl, rfl, rfl, rfl, hw⟩
          all_goals
            go_wp2_with fail
            go_region
            all_goals
              go_wp2_with fail
              go_ret
              exact ⟨by rw [HR.out, decide_eq_false HM.out]; rfl, HN.out.drew⟩
      · obtain rfl : k = n := by omega
        have HM : Hid (xs = ys) := by
          have h := HP.out
          rwa [List.take_of_length_le (by rw [Hl.out]; exact Nat.le_refl _), List.take_of_length_le (by rw [Hm.out]; exact Nat.le_refl _)] at h
        go_wp2_with fail
        go_ret
        exact ⟨by rw [HR.out, decide_eq_true HM.out]; rfl, HN.out⟩
  · have HM : Hid (¬ xs = ys) := fun h => hnm (by rw [← Hl.out, ← Hm.out, h])
    have e1 : ((n : Int) != (m : Int)) = true := bne_iff_ne.2 (by omega)
    go_wp2_with fail
    go_ret
    exact ⟨by rw [HR.out, decide_eq_false HM.out]; rfl, Chg.refl _ _⟩
end Go.Proofs.Ytficopkjpdfilaa
