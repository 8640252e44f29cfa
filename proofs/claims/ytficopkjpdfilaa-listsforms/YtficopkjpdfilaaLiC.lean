/-
  Items that are looked for: IndexFunc and ContainsFunc with each predicate, Index and Contains.
-/
import Derived.Test.YtficopkjpdfilaaLiB
namespace Go.Proofs.Ytficopkjpdfilaa
open Go.RowKit
theorem any_split {f : It → Bool} {xs : List It} {k : Nat} {x : It} (h : xs[k]? = some x) (hp : (xs.take k).any f = false) : ((xs.take (k + 1)).any f = f x) ∧ (f x = true → xs.any f = true) := by
  have e := take_snoc h
  have e2 : xs = xs.take k ++ x :: xs.drop (k + 1) := by
    rw [List.getElem?_eq_some_iff] at h
    obtain ⟨hlt, rfl⟩ := h
    rw [← List.drop_eq_getElem_cons hlt, List.take_append_drop]
  refine ⟨by rw [e, List.any_append, hp]; simp, fun hx => ?_⟩
  rw [e2, List.any_append, List.any_cons, hx]
  simp
theorem any_end {f : It → Bool} {xs : List It} (hp : (xs.take xs.length).any f = false) : xs.any f = false := by rwa [List.take_length] at hp
def Found (r : Int) (b : Bool) : Prop := decide (0 ≤ r) = b
theorem It_ways {x y : It} (h : ¬ x = y) : ¬ x.c = y.c ∨ (x.c = y.c ∧ ¬ x.o = y.o) ∨ (x.c = y.c ∧ x.o = y.o ∧ ¬ x.i = y.i) ∨ (x.c = y.c ∧ x.o = y.o ∧ x.i = y.i ∧ ¬ x.n = y.n) ∨ (x.c = y.c ∧ x.o = y.o ∧ x.i = y.i ∧ x.n = y.n ∧ ¬ x.a = y.a) := by
  obtain ⟨c, o, i, n, a⟩ := x
  obtain ⟨c', o', i', n', a'⟩ := y
  simp only [It.mk.injEq] at h ⊢
  omega

set_option maxRecDepth 100000 in
set_option maxHeartbeats 4000000 in
theorem index_lay (f : It → Bool) (xs : List It) (A : Option Addr) (n c : Nat) (w : World) (F : Nat → Prop) (hl : xs.length = n) (hb : n ≤ 1000000000000000000) (hA : Its w F A xs) (hF : ∀ k, F k → k < w.heap.size)
    (hC : ∀ x w1, New w w1 → Calls Try.prog 60 #[x.V] w1 fun e w' => e = .returned (.bool (f x)) ∧ New w1 w') :
    Calls Try.prog 56 #[.slice A n c, .func (.func 60) #[] #[]] w fun e w' => ∃ r : Int, e = .returned (.int .i64 r) ∧ Found r (xs.any f) ∧ New w w' := by
  have HA := Lib.hid hA; clear hA
  have HF := Lib.hid hF; clear hF
  have HC := Lib.hid hC; clear hC
  have Hl := Lib.hid hl; clear hl
  obtain ⟨B, hB⟩ : ∃ B, B = xs.any f := ⟨_, rfl⟩
  rw [← hB]
  have HB := Lib.hid hB; clear hB
  go_enter Try.func56, Try.ntmps56
  go_wp2_with fail
  go_loopg [8] n (fun gk i wr => ∃ k : Nat, k ≤ n ∧ gk = n - k ∧ i = .int .i64 k ∧ (xs.take k).any f = false ∧ New w wr)
  case atStart => exact ⟨0, by omega, by omega, rfl, by simp, Chg.refl _ _⟩
  case round =>
    obtain ⟨k, hk, rfl, rfl, hp, hN⟩ := hrel
    have HP := Lib.hid hp; clear hp
    have HN := Lib.hid hN; clear hN
    by_cases hlt : k < n
    · obtain ⟨x, hx⟩ : ∃ x, xs[k]? = some x := ⟨_, List.getElem?_eq_getElem (by rw [Hl.out]; exact hlt)⟩
      obtain ⟨a, rfl, hab, a0, a1, a2, a3, a4⟩ := (HA.out.new HN.out HF.out) k x hx
      obtain ⟨h1, h2⟩ := any_split hx HP.out
      obtain ⟨b, hb2⟩ : ∃ b, b = f x := ⟨_, rfl⟩
      have HCx := Lib.hid (HC.out x wr HN.out)
      rw [← hb2] at HCx h1 h2
      have H1 := Lib.hid h1; clear h1
      have H2 := Lib.hid h2; clear h2
      clear hb2 hx hab
      obtain ⟨xc, xo, xi, xn, xa⟩ := x
      go_wp2_with fail
      with_reducible refine HCx.out.mono ?_
      rintro e w' ⟨rfl, hN2⟩
      have HN2 := Lib.hid hN2; clear hN2
      cases b with
      | true =>
        go_wp2_with fail
        go_ret
        refine ⟨(k : Int), rfl, ?_, HN.out.then_new HN2.out⟩
        rw [HB.out, H2.out (by trivial)]; exact decide_eq_true (by omega)
      | false =>
        go_wp2_with fail
        go_roundg (n - (k + 1))
        case measure => omega
        case rel => exact ⟨k + 1, by omega, rfl, by go_num, H1.out, HN.out.then_new HN2.out⟩
    · obtain rfl : k = n := by omega
      go_wp2_with fail
      go_ret
      refine ⟨-1, rfl, ?_, HN.out⟩
      rw [HB.out, any_end (by rw [Hl.out]; exact HP.out)]; rfl
set_option maxRecDepth 100000 in
set_option maxHeartbeats 4000000 in
theorem contains_lay (f : It → Bool) (xs : List It) (A : Option Addr) (n c : Nat) (w : World) (F : Nat → Prop) (hl : xs.length = n) (hb : n ≤ 1000000000000000000) (hA : Its w F A xs) (hF : ∀ k, F k → k < w.heap.size)
    (hC : ∀ x w1, New w w1 → Calls Try.prog 60 #[x.V] w1 fun e w' => e = .returned (.bool (f x)) ∧ New w1 w') :
    Calls Try.prog 33 #[.slice A n c, .func (.func 60) #[] #[]] w fun e w' => e = .returned (.bool (xs.any f)) ∧ New w w' := by
  have HC := Lib.hid (index_lay f xs A n c w F hl hb hA hF hC)
  clear hC hA hF hl
  obtain ⟨B, hB⟩ : ∃ B, B = xs.any f := ⟨_, rfl⟩
  rw [← hB] at HC ⊢
  clear hB
  go_enter Try.func33, Try.ntmps33
  go_wp2_with fail
  with_reducible refine HC.out.mono ?_
  rintro e w' ⟨r, rfl, hf, hN⟩
  have HN := Lib.hid hN; clear hN
  have Hf := Lib.hid hf; clear hf
  go_wp2_with fail
  go_ret
  exact ⟨by rw [← Hf.out]; rfl, HN.out⟩

set_option maxRecDepth 100000 in
set_option maxHeartbeats 4000000 in
theorem index_app (f : It → Bool) (xs : List It) (A : Option Addr) (n c : Nat) (p0 : Value) (w : World) (F : Nat → Prop) (hl : xs.length = n) (hb : n ≤ 1000000000000000000) (hA : Its w F A xs) (hF : ∀ k, F k → k < w.heap.size)
    (hC : ∀ x w1, New w w1 → Calls Try.prog 54 #[x.V, p0] w1 fun e w' => e = .returned (.bool (f x)) ∧ New w1 w') :
    Calls Try.prog 56 #[.slice A n c, .func (.func 54) #[] #[p0]] w fun e w' => ∃ r : Int, e = .returned (.int .i64 r) ∧ Found r (xs.any f) ∧ New w w' := by
  have HA := Lib.hid hA; clear hA
  have HF := Lib.hid hF; clear hF
  have HC := Lib.hid hC; clear hC
  have Hl := Lib.hid hl; clear hl
  obtain ⟨B, hB⟩ : ∃ B, B = xs.any f := ⟨_, rfl⟩
  rw [← hB]
  have HB := Lib.hid hB; clear hB
  go_enter Try.func56, Try.ntmps56
  go_wp2_with fail
  go_loopg [8] n (fun gk i wr => ∃ k : Nat, k ≤ n ∧ gk = n - k ∧ i = .int .i64 k ∧ (xs.take k).any f = false ∧ New w wr)
  case atStart => exact ⟨0, by omega, by omega, rfl, by simp, Chg.refl _ _⟩
  case round =>
    obtain ⟨k, hk, rfl, rfl, hp, hN⟩ := hrel
    have HP := Lib.hid hp; clear hp
    have HN := Lib.hid hN; clear hN
    by_cases hlt : k < n
    · obtain ⟨x, hx⟩ : ∃ x, xs[k]? = some x := ⟨_, List.getElem?_eq_getElem (by rw [Hl.out]; exact hlt)⟩
      obtain ⟨a, rfl, hab, a0, a1, a2, a3, a4⟩ := (HA.out.new HN.out HF.out) k x hx
      obtain ⟨h1, h2⟩ := any_split hx HP.out
      obtain ⟨b, hb2⟩ : ∃ b, b = f x := ⟨_, rfl⟩
      have HCx := Lib.hid (HC.out x wr HN.out)
      rw [← hb2] at HCx h1 h2
      have H1 := Lib.hid h1; clear h1
      have H2 := Lib.hid h2; clear h2
      clear hb2 hx hab
      obtain ⟨xc, xo, xi, xn, xa⟩ := x
      go_wp2_with fail
      with_reducible refine HCx.out.mono ?_
      rintro e w' ⟨rfl, hN2⟩
      have HN2 := Lib.hid hN2; clear hN2
      cases b with
      | true =>
        go_wp2_with fail
        go_ret
        refine ⟨(k : Int), rfl, ?_, HN.out.then_new HN2.out⟩
        rw [HB.out, H2.out (by trivial)]; exact decide_eq_true (by omega)
      | false =>
        go_wp2_with fail
        go_roundg (n - (k + 1))
        case measure => omega
        case rel => exact ⟨k + 1, by omega, rfl, by go_num, H1.out, HN.out.then_new HN2.out⟩
    · obtain rfl : k = n := by omega
      go_wp2_with fail
      go_ret
      refine ⟨-1, rfl, ?_, HN.out⟩
      rw [HB.out, any_end (by rw [Hl.out]; exact HP.out)]; rfl
set_option maxRecDepth 100000 in
set_option maxHeartbeats 4000000 in
theorem contains_app (f : It → Bool) (xs : List It) (A : Option Addr) (n c : Nat) (p0 : Value) (w : World) (F : Nat → Prop) (hl : xs.length = n) (hb : n ≤ 1000000000000000000) (hA : Its w F A xs) (hF : ∀ k, F k → k < w.heap.size)
    (hC : ∀ x w1, New w w1 → Calls Try.prog 54 #[x.V, p0] w1 fun e w' => e = .returned (.bool (f x)) ∧ New w1 w') :
    Calls Try.prog 33 #[.slice A n c, .func (.func 54) #[] #[p0]] w fun e w' => e = .returned (.bool (xs.any f)) ∧ New w w' := by
  have HC := Lib.hid (index_app f xs A n c p0 w F hl hb hA hF hC)
  clear hC hA hF hl
  obtain ⟨B, hB⟩ : ∃ B, B = xs.any f := ⟨_, rfl⟩
  rw [← hB] at HC ⊢
  clear hB
  go_enter Try.func33, Try.ntmps33
  go_wp2_with fail
  with_reducible refine HC.out.mono ?_
  rintro e w' ⟨r, rfl, hf, hN⟩
  have HN := Lib.hid hN; clear hN
  have Hf := Lib.hid hf; clear hf
  go_wp2_with fail
  go_ret
  exact ⟨by rw [← Hf.out]; rfl, HN.out⟩

set_option maxRecDepth 100000 in
set_option maxHeartbeats 4000000 in
theorem index_has (f : It → Bool) (xs : List It) (A : Option Addr) (n c : Nat) (p0 p1 p2 : Value) (w : World) (F : Nat → Prop) (hl : xs.length = n) (hb : n ≤ 1000000000000000000) (hA : Its w F A xs) (hF : ∀ k, F k → k < w.heap.size)
    (hC : ∀ x w1, New w w1 → Calls Try.prog 34 #[x.V, p0, p1, p2] w1 fun e w' => e = .returned (.bool (f x)) ∧ New w1 w') :
    Calls Try.prog 56 #[.slice A n c, .func (.func 34) #[] #[p0, p1, p2]] w fun e w' => ∃ r : Int, e = .returned (.int .i64 r) ∧ Found r (xs.any f) ∧ New w w' := by
  have HA := Lib.hid hA; clear hA
  have HF := Lib.hid hF; clear hF
  have HC := Lib.hid hC; clear hC
  have Hl := Lib.hid hl; clear hl
  obtain ⟨B, hB⟩ : ∃ B, B = xs.any f := ⟨_, rfl⟩
  rw [← hB]
  have HB := Lib.hid hB; clear hB
  go_enter Try.func56, Try.ntmps56
  go_wp2_with fail
  go_loopg [8] n (fun gk i wr => ∃ k : Nat, k ≤ n ∧ gk = n - k ∧ i = .int .i64 k ∧ (xs.take k).any f = false ∧ New w wr)
  case atStart => exact ⟨0, by omega, by omega, rfl, by simp, Chg.refl _ _⟩
  case round =>
    obtain ⟨k, hk, rfl, rfl, hp, hN⟩ := hrel
    have HP := Lib.hid hp; clear hp
    have HN := Lib.hid hN; clear hN
    by_cases hlt : k < n
    · obtain ⟨x, hx⟩ : ∃ x, xs[k]? = some x := ⟨_, List.getElem?_eq_getElem (by rw [Hl.out]; exact hlt)⟩
      obtain ⟨a, rfl, hab, a0, a1, a2, a3, a4⟩ := (HA.out.new HN.out HF.out) k x hx
      obtain ⟨h1, h2⟩ := any_split hx HP.out
      obtain ⟨b, hb2⟩ : ∃ b, b = f x := ⟨_, rfl⟩
      have HCx := Lib.hid (HC.out x wr HN.out)
      rw [← hb2] at HCx h1 h2
      have H1 := Lib.hid h1; clear h1
      have H2 := Lib.hid h2; clear h2
      clear hb2 hx hab
      obtain ⟨xc, xo, xi, xn, xa⟩ := x
      go_wp2_with fail
      with_reducible refine HCx.out.mono ?_
      rintro e w' ⟨rfl, hN2⟩
      have HN2 := Lib.hid hN2; clear hN2
      cases b with
      | true =>
        go_wp2_with fail
        go_ret
        refine ⟨(k : Int), rfl, ?_, HN.out.then_new HN2.out⟩
        rw [HB.out, H2.out (by trivial)]; exact decide_eq_true (by omega)
      | false =>
        go_wp2_with fail
        go_roundg (n - (k + 1))
        case measure => omega
        case rel => exact ⟨k + 1, by omega, rfl, by go_num, H1.out, HN.out.then_new HN2.out⟩
    · obtain rfl : k = n := by omega
      go_wp2_with fail
      go_ret
      refine ⟨-1, rfl, ?_, HN.out⟩
      rw [HB.out, any_end (by rw [Hl.out]; exact HP.out)]; rfl
set_option maxRecDepth 100000 in
set_option maxHeartbeats 4000000 in
theorem contains_has (f : It → Bool) (xs : List It) (A : Option Addr) (n c : Nat) (p0 p1 p2 : Value) (w : World) (F : Nat → Prop) (hl : xs.length = n) (hb : n ≤ 1000000000000000000) (hA : Its w F A xs) (hF : ∀ k, F k → k < w.heap.size)
    (hC : ∀ x w1, New w w1 → Calls Try.prog 34 #[x.V, p0, p1, p2] w1 fun e w' => e = .returned (.bool (f x)) ∧ New w1 w') :
    Calls Try.prog 33 #[.slice A n c, .func (.func 34) #[] #[p0, p1, p2]] w fun e w' => e = .returned (.bool (xs.any f)) ∧ New w w' := by
  have HC := Lib.hid (index_has f xs A n c p0 p1 p2 w F hl hb hA hF hC)
  clear hC hA hF hl
  obtain ⟨B, hB⟩ : ∃ B, B = xs.any f := ⟨_, rfl⟩
  rw [← hB] at HC ⊢
  clear hB
  go_enter Try.func33, Try.ntmps33
  go_wp2_with fail
  with_reducible refine HC.out.mono ?_
  rintro e w' ⟨r, rfl, hf, hN⟩
  have HN := Lib.hid hN; clear hN
  have Hf := Lib.hid hf; clear hf
  go_wp2_with fail
  go_ret
  exact ⟨by rw [← Hf.out]; rfl, HN.out⟩

set_option maxRecDepth 100000 in
set_option maxHeartbeats 4000000 in
theorem Index_any (xs : List It) (y : It) (A : Option Addr) (n c : Nat) (w : World) (F : Nat → Prop) (hl : xs.length = n) (hb : n ≤ 1000000000000000000) (hA : Its w F A xs) (hF : ∀ k, F k → k < w.heap.size) :
    Calls Try.prog 72 #[.slice A n c, y.V] w fun e w' => ∃ r : Int, e = .returned (.int .i64 r) ∧ Found r (xs.any fun x => decide (y = x)) ∧ New w w' := by
  have HA := Lib.hid hA; clear hA
  have HF := Lib.hid hF; clear hF
  have Hl := Lib.hid hl; clear hl
  obtain ⟨B, hB⟩ : ∃ B, B = xs.any fun x => decide (y = x) := ⟨_, rfl⟩
  rw [← hB]
  have HB := Lib.hid hB; clear hB
  obtain ⟨y', hy⟩ : ∃ y', y' = y := ⟨_, rfl⟩
  rw [← hy] at HB
  have Hy := Lib.hid hy; clear hy
  obtain ⟨yc, yo, yi, yn, ya⟩ := y
  go_enter Try.func72, Try.ntmps72
  go_wp2_with fail
  go_loopg [8] n (fun gk i wr => ∃ k : Nat, k ≤ n ∧ gk = n - k ∧ i = .int .i64 k ∧ ((xs.take k).any fun x => decide (y' = x)) = false ∧ Has wr w.heap.size 44 #[.int .i64 yc, .int .i64 yo, .int .i64 yi, .int .i64 yn, .int .i64 ya] ∧ New w wr)
  case atStart => exact ⟨0, by omega, by omega, rfl, by simp, Has.new _ _ _, (Chg.refl _ _).alloc _⟩
  case round =>
    obtain ⟨k, hk, rfl, rfl, hp, hX, hN⟩ := hrel
    have HP := Lib.hid hp; clear hp
    have HN := Lib.hid hN; clear hN
    have HX := Lib.hid hX; clear hX
    have hlx := HX.out.lt
    have c0 : wr.cell? ⟨w.heap.size, 0, none⟩ = some (.int .i64 yc) := (HX.out.cell 0).trans rfl
    have c1 : wr.cell? ⟨w.heap.size, 1, none⟩ = some (.int .i64 yo) := (HX.out.cell 1).trans rfl
    have c2 : wr.cell? ⟨w.heap.size, 2, none⟩ = some (.int .i64 yi) := (HX.out.cell 2).trans rfl
    have c3 : wr.cell? ⟨w.heap.size, 3, none⟩ = some (.int .i64 yn) := (HX.out.cell 3).trans rfl
    have c4 : wr.cell? ⟨w.heap.size, 4, none⟩ = some (.int .i64 ya) := (HX.out.cell 4).trans rfl
    by_cases hlt : k < n
    · obtain ⟨x, hx⟩ : ∃ x, xs[k]? = some x := ⟨_, List.getElem?_eq_getElem (by rw [Hl.out]; exact hlt)⟩
      obtain ⟨a, rfl, hab, a0, a1, a2, a3, a4⟩ := (HA.out.new HN.out HF.out) k x hx
      obtain ⟨h1, h2⟩ := any_split hx HP.out
      have H1 := Lib.hid h1; clear h1
      have H2 := Lib.hid h2; clear h2
      clear hx hab
      by_cases hxy : (⟨yc, yo, yi, yn, ya⟩ : It) = x
      · have Hyx : Hid (decide (y' = x) = true) := decide_eq_true (Hy.out.trans hxy)
        subst hxy
        go_wp2_with fail
        go_region
        all_goals
          go_wp2_with fail
          go_ret
          refine ⟨(k : Int), rfl, ?_, HN.out.drew⟩
          rw [HB.out, H2.out Hyx.out]; exact decide_eq_true (by omega)
      · have Hyx : Hid (decide (y' = x) = false) := decide_eq_false (fun h => hxy (Hy.out.symm.trans h))
        have hw := It_ways hxy
        clear hxy
        have HM := Lib.hid (H1.out.trans Hyx.out)
        clear H1 H2 Hyx
        obtain ⟨xc, xo, xi, xn, xa⟩ := x
        simp only at hw a0 a1 a2 a3 a4
        rcases hw with hw | ⟨rfl, hw⟩ | ⟨rfl, rfl, hw⟩ | ⟨rfl, rfl, rfl, hw⟩ | ⟨rfl, rfl, rfl, rfl, hw⟩
        all_goals
          go_wp2_with fail
          go_region
          all_goals
            go_wp2_with fail
            go_roundg (n - (k + 1))
            case measure => omega
            case rel => exact ⟨k + 1, by omega, rfl, by go_num, HM.out, HX.out, HN.out.drew⟩
    · obtain rfl : k = n := by omega
      go_wp2_with fail
      go_ret
      refine ⟨-1, rfl, ?_, HN.out⟩
      rw [HB.out, any_end (by rw [Hl.out]; exact HP.out)]; rfl
theorem any_contains (xs : List It) (y : It) : (xs.any fun x => decide (y = x)) = xs.contains y := by
  rw [Bool.eq_iff_iff, List.any_eq_true, List.contains_iff_mem]
  simp
set_option maxRecDepth 100000 in
set_option maxHeartbeats 4000000 in
theorem Contains_any (xs : List It) (y : It) (A : Option Addr) (n c : Nat) (w : World) (F : Nat → Prop) (hl : xs.length = n) (hb : n ≤ 1000000000000000000) (hA : Its w F A xs) (hF : ∀ k, F k → k < w.heap.size) :
    Calls Try.prog 67 #[.slice A n c, y.V] w fun e w' => e = .returned (.bool (xs.contains y)) ∧ New w w' := by
  have HC := Lib.hid (fun w1 (hN : New w w1) => Index_any xs y A n c w1 F hl hb (hA.new hN hF) (fun k hk => Nat.lt_of_lt_of_le (hF k hk) hN.size))
  clear hA hF hl
  obtain ⟨B, hB⟩ : ∃ B, B = xs.contains y := ⟨_, rfl⟩
  rw [any_contains, ← hB] at HC
  rw [← hB]
  clear hB
  obtain ⟨yc, yo, yi, yn, ya⟩ := y
  go_enter Try.func67, Try.ntmps67
  go_wp2_with fail
  with_reducible refine (HC.out _ ((Chg.refl _ _).alloc _)).mono ?_
  rintro e w' ⟨r, rfl, hf, hN⟩
  have HN := Lib.hid (((Chg.refl (fun _ => False) w).alloc _).then_new hN); clear hN
  have Hf := Lib.hid hf; clear hf
  go_wp2_with fail
  go_ret
  exact ⟨by rw [← Hf.out]; rfl, HN.out⟩
end Go.Proofs.Ytficopkjpdfilaa
