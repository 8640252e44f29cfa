/-
  Package lists' predicates: within, identifies, isOf, what is valid; the document's Right; numbersOf, Numbers.
-/
import Derived.Test.YtficopkjpdfilaaLiA
namespace Go.Proofs.Ytficopkjpdfilaa
open Go.RowKit
def iV (x : Int) : Value := .int .i64 x
set_option maxRecDepth 100000 in
set_option maxHeartbeats 4000000 in
theorem within_any (lo hi : Int) (xs : List Int) (A : Option Addr) (n c : Nat) (w : World) (F : Nat → Prop) (hl : xs.length = n) (hb : n ≤ 1000000000000000000) (hA : Arr w F A n (fun i => iV (xs.getD i 0))) :
    Calls Try.prog 30 #[.int .i64 lo, .int .i64 hi, .slice A n c] w fun e w' => e = .returned (.bool (inB lo hi xs)) ∧ New w w' := by
  obtain ⟨B, hB⟩ : ∃ B, B = inB lo hi xs := ⟨_, rfl⟩
  rw [← hB]
  have HB := Lib.hid hB
  have HA := Lib.hid hA
  have Hl := Lib.hid hl
  clear hB hA hl
  go_enter Try.func30, Try.ntmps30
  go_wp2_with fail
  go_loopg [11] n (fun gk s5 wr => ∃ i : Nat, i ≤ n ∧ gk = n - i ∧ s5 = .int .i64 i ∧ (∀ j, j < i → lo ≤ xs.getD j 0 ∧ xs.getD j 0 ≤ hi) ∧ wr = w)
  case atStart => exact ⟨0, by omega, by omega, rfl, fun j hj => by omega, rfl⟩
  case round =>
    obtain ⟨i, hi', rfl, rfl, hall, hq⟩ := hrel
    rw [hq]
    clear hq
    have Hall := Lib.hid hall; clear hall
    by_cases hlt : i < n
    · obtain ⟨a, rfl, _, a0⟩ := HA.out i hlt
      simp only [iV] at a0
      obtain ⟨v, hv⟩ : ∃ v, xs.getD i 0 = v := ⟨_, rfl⟩
      rw [hv] at a0
      have Hv := Lib.hid hv
      clear hv
      have t1 : decide ((i : Int) < (n : Int)) = true := decide_eq_true (by omega)
      have t1' : decide (i < n) = true := decide_eq_true hlt
      by_cases c1 : v < lo
      · have e1 : decide (v < lo) = true := decide_eq_true c1
        have hBf : B = false := by rw [HB.out]; exact inB_no (by rw [Hl.out]; exact hlt) (Or.inl (by rw [Hv.out]; exact c1))
        clear c1
        go_wp2_with fail
        go_ret
        exact ⟨by rw [hBf]; rfl, Chg.refl _ _⟩
      · have e1 : decide (v < lo) = false := decide_eq_false c1
        by_cases c2 : hi < v
        · have e2 : decide (hi < v) = true := decide_eq_true c2
          have hBf : B = false := by rw [HB.out]; exact inB_no (by rw [Hl.out]; exact hlt) (Or.inr (by rw [Hv.out]; exact c2))
          clear c1 c2
          go_wp2_with fail
          go_ret
          exact ⟨by rw [hBf]; rfl, Chg.refl _ _⟩
        · have e2 : decide (hi < v) = false := decide_eq_false c2
          have hok : Hid (lo ≤ xs.getD i 0 ∧ xs.getD i 0 ≤ hi) := by rw [Hid, Hv.out]; omega
          clear c1 c2
          go_wp2_with fail
          go_roundg (n - (i + 1))
          case measure => omega
          case rel =>
            refine ⟨i + 1, by omega, rfl, by go_num, fun j hj => ?_, rfl⟩
            · rcases Nat.lt_or_ge j i with h | h
              · exact Hall.out j h
              · rw [show j = i by omega]; exact hok.out
    · obtain rfl : i = n := by omega
      have hB2 : B = true := by rw [HB.out]; exact inB_yes (fun j hj => Hall.out j (by rw [Hl.out] at hj; exact hj))
      have t1 : decide ((i : Int) < (i : Int)) = false := decide_eq_false (by omega)
      go_wp2_with fail
      go_ret
      exact ⟨by rw [hB2]; rfl, Chg.refl _ _⟩
theorem row_arr1 {w : World} {g : Nat} {t : TypeId} {xs : List Int} (h : Has w g t (xs.map iV).toArray) : Arr w (· = g) (some ⟨g, 0, none⟩) xs.length (fun i => iV (xs.getD i 0)) := fun i hi => by
  obtain ⟨a, ha, hb, hc⟩ := Arr.of_has h (n := xs.length) (by simp) i hi
  refine ⟨a, ha, hb, hc.trans ?_⟩
  simp [Array.getD, hi, List.getD_eq_getElem?_getD]
theorem within_1 (lo hi x : Int) (g : Nat) (w : World) (h : Has w g 3 #[.int .i64 x]) : Calls Try.prog 30 #[.int .i64 lo, .int .i64 hi, .slice (some ⟨g, 0, none⟩) 1 1] w fun e w' => e = .returned (.bool (inB lo hi [x])) ∧ New w w' :=
  within_any lo hi [x] _ 1 1 w _ rfl (by omega) (row_arr1 (xs := [x]) h)
theorem within_2 (lo hi x y : Int) (g : Nat) (w : World) (h : Has w g 3 #[.int .i64 x, .int .i64 y]) : Calls Try.prog 30 #[.int .i64 lo, .int .i64 hi, .slice (some ⟨g, 0, none⟩) 2 2] w fun e w' => e = .returned (.bool (inB lo hi [x, y])) ∧ New w w' :=
  within_any lo hi [x, y] _ 2 2 w _ rfl (by omega) (row_arr1 (xs := [x, y]) h)
theorem within_5 (lo hi : Int) (x : It) (g : Nat) (t : TypeId) (w : World) (h : Has w g t x.C) : Calls Try.prog 30 #[.int .i64 lo, .int .i64 hi, .slice (some ⟨g, 0, none⟩) 5 5] w fun e w' => e = .returned (.bool (inB lo hi [x.c, x.o, x.i, x.n, x.a])) ∧ New w w' :=
  within_any lo hi [x.c, x.o, x.i, x.n, x.a] _ 5 5 w _ rfl (by omega) (row_arr1 (xs := [x.c, x.o, x.i, x.n, x.a]) h)
set_option maxRecDepth 100000 in
set_option maxHeartbeats 4000000 in
theorem isOf_any (x : It) (card owner id : Int) (w : World) : Calls Try.prog 35 #[x.V, .int .i64 card, .int .i64 owner, .int .i64 id] w fun e w' => e = .returned (.bool (isB x card owner id)) ∧ New w w' := by
  obtain ⟨R, hQ⟩ : ∃ R, R = isB x card owner id := ⟨_, rfl⟩
  rw [← hQ]
  obtain ⟨c, o, i, n, a⟩ := x
  unfold isB at hQ
  simp only at hQ
  have HR := Lib.hid hQ
  clear hQ
  go_enter Try.func35, Try.ntmps35
  by_cases h1 : o = owner
  · by_cases h2 : i = id
    · by_cases h3 : c = 0
      · subst h1 h2 h3
        go_wp2_with fail
        go_ret
        exact ⟨by rw [HR.out]; simp, (Chg.refl _ _).alloc _⟩
      · by_cases h4 : c = card
        · subst h1 h2 h4
          go_wp2_with fail
          go_ret
          exact ⟨by rw [HR.out]; simp, (Chg.refl _ _).alloc _⟩
        · subst h1 h2
          go_wp2_with fail
          go_ret
          exact ⟨by rw [HR.out]; simp [h3, h4], (Chg.refl _ _).alloc _⟩
    · subst h1
      go_wp2_with fail
      go_ret
      exact ⟨by rw [HR.out]; simp [h2], (Chg.refl _ _).alloc _⟩
  · go_wp2_with fail
    go_ret
    exact ⟨by rw [HR.out]; simp [h1], (Chg.refl _ _).alloc _⟩
set_option maxRecDepth 100000 in
set_option maxHeartbeats 4000000 in
theorem identifies_any (x : It) (w : World) : Calls Try.prog 28 #[x.V] w fun e w' => e = .returned (.bool (idB x)) ∧ New w w' := by
  have H2 := Lib.hid (fun g w h => within_2 0 65535 x.c x.i g w h)
  have H1 := Lib.hid (fun g w h => within_1 0 4 x.o g w h)
  obtain ⟨b1, hb1⟩ : ∃ b, inB 0 65535 [x.c, x.i] = b := ⟨_, rfl⟩
  obtain ⟨b2, hb2⟩ : ∃ b, inB 0 4 [x.o] = b := ⟨_, rfl⟩
  have hR : idB x = (b1 && b2 && (if x.o = 0 then decide (x.i = 0) && decide (x.c ≠ 0) else decide (x.i ≠ 0))) := by unfold idB; rw [hb1, hb2]
  rw [hb1] at H2
  rw [hb2] at H1
  clear hb1 hb2
  obtain ⟨R, hQ⟩ : ∃ R, R = idB x := ⟨_, rfl⟩
  rw [← hQ]
  rw [hR] at hQ
  clear hR
  obtain ⟨c, o, i, n, a⟩ := x
  simp only at H1 H2 hQ
  have HR := Lib.hid hQ
  clear hQ
  go_enter Try.func28, Try.ntmps28
  go_wp2_with fail
  have hX := (Has.new w 44 #[.int .i64 c, .int .i64 o, .int .i64 i, .int .i64 n, .int .i64 a]).alloc (.cells #[.int .i64 c, .int .i64 i] 3)
  have hA := Has.new_at (w.alloc (.cells #[.int .i64 c, .int .i64 o, .int .i64 i, .int .i64 n, .int .i64 a] 44)) 3 #[.int .i64 c, .int .i64 i] (w.heap.size + 1) (by simp)
  have hN : New w ((w.alloc (.cells #[.int .i64 c, .int .i64 o, .int .i64 i, .int .i64 n, .int .i64 a] 44)).alloc (.cells #[.int .i64 c, .int .i64 i] 3)) := ((Chg.refl _ _).alloc _).alloc _
  generalize (w.alloc (.cells #[.int .i64 c, .int .i64 o, .int .i64 i, .int .i64 n, .int .i64 a] 44)).alloc (.cells #[.int .i64 c, .int .i64 i] 3) = w1 at hX hA hN ⊢
  with_reducible refine (H2.out _ _ hA).mono ?_
  rintro e w2 ⟨rfl, hN2⟩
  have HX := Lib.hid (hX.keep hN2)
  have HN := Lib.hid (hN.then_new hN2)
  clear hX hA hN hN2
  have hlx := HX.out.lt
  have c0 : w2.cell? ⟨w.heap.size, 0, none⟩ = some (.int .i64 c) := (HX.out.cell 0).trans rfl
  have c1 : w2.cell? ⟨w.heap.size, 1, none⟩ = some (.int .i64 o) := (HX.out.cell 1).trans rfl
  have c2 : w2.cell? ⟨w.heap.size, 2, none⟩ = some (.int .i64 i) := (HX.out.cell 2).trans rfl
  cases b1 with
  | false =>
    go_wp2_with fail
    go_ret
    exact ⟨by rw [HR.out]; simp, HN.out⟩
  | true =>
    go_wp2_with fail
    have hX := HX.out.alloc (.cells #[.int .i64 o] 3)
    have hA := Has.new w2 3 #[.int .i64 o]
    have hN := HN.out.alloc (.cells #[.int .i64 o] 3)
    generalize w2.alloc (.cells #[.int .i64 o] 3) = w3 at hX hA hN ⊢
    with_reducible refine (H1.out _ _ hA).mono ?_
    rintro e w4 ⟨rfl, hN2⟩
    have HX4 := Lib.hid (hX.keep hN2)
    have HN4 := Lib.hid (hN.then_new hN2)
    clear hX hA hN hN2 c0 c1 c2
    have hlx4 := HX4.out.lt
    have c0 : w4.cell? ⟨w.heap.size, 0, none⟩ = some (.int .i64 c) := (HX4.out.cell 0).trans rfl
    have c1 : w4.cell? ⟨w.heap.size, 1, none⟩ = some (.int .i64 o) := (HX4.out.cell 1).trans rfl
    have c2 : w4.cell? ⟨w.heap.size, 2, none⟩ = some (.int .i64 i) := (HX4.out.cell 2).trans rfl
    cases b2 with
    | false =>
      go_wp2_with fail
      go_ret
      exact ⟨by rw [HR.out]; simp, HN4.out⟩
    | true =>
      by_cases h1 : o = 0
      · subst h1
        by_cases h2 : i = 0
        · subst h2
          by_cases h3 : c = 0
          · subst h3
            go_wp2_with fail
            go_ret
            exact ⟨by rw [HR.out]; simp, HN4.out⟩
          · go_wp2_with fail
            go_ret
            exact ⟨by rw [HR.out]; simp [h3], HN4.out⟩
        · go_wp2_with fail
          go_ret
          exact ⟨by rw [HR.out]; simp [h2], HN4.out⟩
      · by_cases h2 : i = 0
        · subst h2
          go_wp2_with fail
          go_ret
          exact ⟨by rw [HR.out]; simp [h1], HN4.out⟩
        · go_wp2_with fail
          go_ret
          exact ⟨by rw [HR.out]; simp [h1, h2], HN4.out⟩
set_option maxRecDepth 100000 in
set_option maxHeartbeats 4000000 in
theorem hot_any (x : It) (w : World) : Calls Try.prog 27 #[x.V] w fun e w' => e = .returned (.bool (rightI false x)) ∧ New w w' := by
  have HI := Lib.hid (identifies_any x)
  obtain ⟨b1, hb1⟩ : ∃ b, idB x = b := ⟨_, rfl⟩
  have hR : rightI false x = (b1 && decide (x.n = 0) && decide (x.a = 0)) := by rw [right_hot, hb1]
  obtain ⟨R, hQ⟩ : ∃ R, R = rightI false x := ⟨_, rfl⟩
  rw [← hQ]
  rw [hR] at hQ
  rw [hb1] at HI
  clear hR hb1
  obtain ⟨c, o, i, n, a⟩ := x
  simp only at HI hQ
  have HR := Lib.hid hQ
  clear hQ
  go_enter Try.func27, Try.ntmps27
  go_wp2_with fail
  with_reducible refine (HI.out _).mono ?_
  rintro e w2 ⟨rfl, hN2⟩
  have HX := Lib.hid ((Has.new w 44 #[.int .i64 c, .int .i64 o, .int .i64 i, .int .i64 n, .int .i64 a]).keep hN2)
  have HN := Lib.hid (((Chg.refl (fun _ => False) w).alloc _).then_new hN2)
  clear hN2
  have hlx := HX.out.lt
  have c3 : w2.cell? ⟨w.heap.size, 3, none⟩ = some (.int .i64 n) := (HX.out.cell 3).trans rfl
  have c4 : w2.cell? ⟨w.heap.size, 4, none⟩ = some (.int .i64 a) := (HX.out.cell 4).trans rfl
  cases b1 with
  | false =>
    go_wp2_with fail
    go_ret
    exact ⟨by rw [HR.out]; simp, HN.out⟩
  | true =>
    by_cases h1 : n = 0
    · subst h1
      by_cases h2 : a = 0
      · subst h2
        go_wp2_with fail
        go_ret
        exact ⟨by rw [HR.out]; simp, HN.out⟩
      · go_wp2_with fail
        go_ret
        exact ⟨by rw [HR.out]; simp [h2], HN.out⟩
    · go_wp2_with fail
      go_ret
      exact ⟨by rw [HR.out]; simp [h1], HN.out⟩
set_option maxRecDepth 100000 in
set_option maxHeartbeats 4000000 in
theorem act_any (x : It) (w : World) : Calls Try.prog 29 #[x.V] w fun e w' => e = .returned (.bool (rightI true x)) ∧ New w w' := by
  have HI := Lib.hid (identifies_any x)
  have H1 := Lib.hid (fun g w h => within_1 1 65535 x.n g w h)
  have H2 := Lib.hid (fun g w h => within_1 0 2147483648 x.a g w h)
  obtain ⟨b1, hb1⟩ : ∃ b, idB x = b := ⟨_, rfl⟩
  obtain ⟨b2, hb2⟩ : ∃ b, inB 1 65535 [x.n] = b := ⟨_, rfl⟩
  obtain ⟨b3, hb3⟩ : ∃ b, inB 0 2147483648 [x.a] = b := ⟨_, rfl⟩
  have hR : rightI true x = (b1 && decide (x.o ≠ 0) && b2 && b3) := by rw [right_act, hb1, hb2, hb3]
  obtain ⟨R, hQ⟩ : ∃ R, R = rightI true x := ⟨_, rfl⟩
  rw [← hQ]
  rw [hR] at hQ
  rw [hb1] at HI
  rw [hb2] at H1
  rw [hb3] at H2
  clear hR hb1 hb2 hb3
  obtain ⟨c, o, i, n, a⟩ := x
  simp only at HI H1 H2 hQ
  have HR := Lib.hid hQ
  clear hQ
  go_enter Try.func29, Try.ntmps29
  go_wp2_with fail
  with_reducible refine (HI.out _).mono ?_
  rintro e w2 ⟨rfl, hN2⟩
  have HX := Lib.hid ((Has.new w 44 #[.int .i64 c, .int .i64 o, .int .i64 i, .int .i64 n, .int .i64 a]).keep hN2)
  have HN := Lib.hid (((Chg.refl (fun _ => False) w).alloc _).then_new hN2)
  clear hN2
  have hlx := HX.out.lt
  have c1 : w2.cell? ⟨w.heap.size, 1, none⟩ = some (.int .i64 o) := (HX.out.cell 1).trans rfl
  have c3 : w2.cell? ⟨w.heap.size, 3, none⟩ = some (.int .i64 n) := (HX.out.cell 3).trans rfl
  cases b1 with
  | false =>
    go_wp2_with fail
    go_ret
    exact ⟨by rw [HR.out]; simp, HN.out⟩
  | true =>
    by_cases h1 : o = 0
    · subst h1
      go_wp2_with fail
      go_ret
      exact ⟨by rw [HR.out]; simp, HN.out⟩
    · go_wp2_with fail
      have hX := HX.out.alloc (.cells #[.int .i64 n] 3)
      have hA := Has.new w2 3 #[.int .i64 n]
      have hN := HN.out.alloc (.cells #[.int .i64 n] 3)
      generalize w2.alloc (.cells #[.int .i64 n] 3) = w3 at hX hA hN ⊢
      with_reducible refine (H1.out _ _ hA).mono ?_
      rintro e w4 ⟨rfl, hN2⟩
      have HX4 := Lib.hid (hX.keep hN2)
      have HN4 := Lib.hid (hN.then_new hN2)
      clear hX hA hN hN2 c1 c3
      have hlx4 := HX4.out.lt
      have c4 : w4.cell? ⟨w.heap.size, 4, none⟩ = some (.int .i64 a) := (HX4.out.cell 4).trans rfl
      cases b2 with
      | false =>
        go_wp2_with fail
        go_ret
        exact ⟨by rw [HR.out]; simp, HN4.out⟩
      | true =>
        go_wp2_with fail
        have hA := Has.new w4 3 #[.int .i64 a]
        have hN := HN4.out.alloc (.cells #[.int .i64 a] 3)
        generalize w4.alloc (.cells #[.int .i64 a] 3) = w5 at hA hN ⊢
        with_reducible refine (H2.out _ _ hA).mono ?_
        rintro e w6 ⟨rfl, hN2⟩
        have HN6 := Lib.hid (hN.then_new hN2)
        clear hA hN hN2 c4
        go_wp2_with fail
        go_ret
        exact ⟨by rw [HR.out]; simp [h1], HN6.out⟩
end Go.Proofs.Ytficopkjpdfilaa
