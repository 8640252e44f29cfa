/-
  The document's Right: every way through its tests.
-/
import Derived.Test.YtficopkjpdfilaaLiB
namespace Go.Proofs.Ytficopkjpdfilaa
open Go.RowKit
theorem right_h (c o i n a : Int) : rightI false ⟨c, o, i, n, a⟩ = true ↔ 0 ≤ c ∧ c ≤ 65535 ∧ 0 ≤ o ∧ o ≤ 4 ∧ 0 ≤ i ∧ i ≤ 65535 ∧ ((o = 0 ∧ i = 0 ∧ ¬ c = 0) ∨ (¬ o = 0 ∧ ¬ i = 0)) ∧ n = 0 ∧ a = 0 := by
  unfold rightI
  simp only [if_true]
  repeat' split
  all_goals simp only [decide_eq_true_eq, Bool.false_eq_true, false_iff]
  all_goals omega
theorem right_a (c o i n a : Int) : rightI true ⟨c, o, i, n, a⟩ = true ↔ 0 ≤ c ∧ c ≤ 65535 ∧ 0 ≤ o ∧ o ≤ 4 ∧ 0 ≤ i ∧ i ≤ 65535 ∧ ((o = 0 ∧ i = 0 ∧ ¬ c = 0) ∨ (¬ o = 0 ∧ ¬ i = 0)) ∧ 0 < o ∧ 0 < n ∧ n < 65536 ∧ 0 ≤ a ∧ a ≤ 2147483648 := by
  unfold rightI
  simp only [Bool.true_eq_false, if_false]
  repeat' split
  all_goals simp only [decide_eq_true_eq, Bool.false_eq_true, false_iff]
  all_goals omega
theorem bool_t {R b : Bool} {P : Prop} (h : R = b) (k : b = true ↔ P) (p : P) : Ending.returned (Value.bool true) = Ending.returned (Value.bool R) := by rw [h, k.2 p]
theorem bool_f {R b : Bool} {P : Prop} (h : R = b) (k : b = true ↔ P) (p : ¬ P) : Ending.returned (Value.bool false) = Ending.returned (Value.bool R) := by
  rw [h]
  cases hb : b with
  | false => rfl
  | true => exact absurd (k.1 hb) p

set_option maxRecDepth 100000 in
set_option maxHeartbeats 8000000 in
theorem docRight_false (x : It) (w : World) : Calls Try.prog 31 #[x.V, .bool false] w fun e w' => e = .returned (.bool (rightI false x)) ∧ New w w' := by
  obtain ⟨c, o, i, n, a⟩ := x
  obtain ⟨R, hQ⟩ : ∃ R, R = rightI false ⟨c, o, i, n, a⟩ := ⟨_, rfl⟩
  rw [← hQ]
  have HR := Lib.hid hQ
  clear hQ
  go_enter Try.func31, Try.ntmps31
  by_cases r0 : c < 0
  · have br0 : decide (c < 0) = true := decide_eq_true r0
    go_wp2_with fail
    go_ret
    exact ⟨bool_f HR.out (right_h _ _ _ _ _) (by omega), (Chg.refl _ _).alloc _⟩
  · have br0 : decide (c < 0) = false := decide_eq_false r0
    by_cases r1 : 65535 < c
    · have br1 : decide (65535 < c) = true := decide_eq_true r1
      go_wp2_with fail
      go_ret
      exact ⟨bool_f HR.out (right_h _ _ _ _ _) (by omega), (Chg.refl _ _).alloc _⟩
    · have br1 : decide (65535 < c) = false := decide_eq_false r1
      by_cases r2 : o < 0
      · have br2 : decide (o < 0) = true := decide_eq_true r2
        go_wp2_with fail
        go_ret
        exact ⟨bool_f HR.out (right_h _ _ _ _ _) (by omega), (Chg.refl _ _).alloc _⟩
      · have br2 : decide (o < 0) = false := decide_eq_false r2
        by_cases r3 : 4 < o
        · have br3 : decide (4 < o) = true := decide_eq_true r3
          go_wp2_with fail
          go_ret
          exact ⟨bool_f HR.out (right_h _ _ _ _ _) (by omega), (Chg.refl _ _).alloc _⟩
        · have br3 : decide (4 < o) = false := decide_eq_false r3
          by_cases r4 : i < 0
          · have br4 : decide (i < 0) = true := decide_eq_true r4
            go_wp2_with fail
            go_ret
            exact ⟨bool_f HR.out (right_h _ _ _ _ _) (by omega), (Chg.refl _ _).alloc _⟩
          · have br4 : decide (i < 0) = false := decide_eq_false r4
            by_cases r5 : 65535 < i
            · have br5 : decide (65535 < i) = true := decide_eq_true r5
              go_wp2_with fail
              go_ret
              exact ⟨bool_f HR.out (right_h _ _ _ _ _) (by omega), (Chg.refl _ _).alloc _⟩
            · have br5 : decide (65535 < i) = false := decide_eq_false r5
              by_cases m1 : o = 0
              · subst m1
                by_cases m2 : i = 0
                · subst m2
                  by_cases m3 : c = 0
                  · subst m3
                    go_wp2_with fail
                    go_ret
                    exact ⟨bool_f HR.out (right_h _ _ _ _ _) (by omega), (Chg.refl _ _).alloc _⟩
                  · have bm3 : (c == 0) = false := beq_eq_false_iff_ne.2 m3
                    by_cases t1 : n = 0
                    · subst t1
                      by_cases t2 : a = 0
                      · subst t2
                        go_wp2_with fail
                        go_ret
                        exact ⟨bool_t HR.out (right_h _ _ _ _ _) (by omega), (Chg.refl _ _).alloc _⟩
                      · have bt2 : (a == 0) = false := beq_eq_false_iff_ne.2 t2
                        go_wp2_with fail
                        go_ret
                        exact ⟨bool_f HR.out (right_h _ _ _ _ _) (by omega), (Chg.refl _ _).alloc _⟩
                    · have bt1 : (n == 0) = false := beq_eq_false_iff_ne.2 t1
                      go_wp2_with fail
                      go_ret
                      exact ⟨bool_f HR.out (right_h _ _ _ _ _) (by omega), (Chg.refl _ _).alloc _⟩
                · have bm2 : (i == 0) = false := beq_eq_false_iff_ne.2 m2
                  go_wp2_with fail
                  go_ret
                  exact ⟨bool_f HR.out (right_h _ _ _ _ _) (by omega), (Chg.refl _ _).alloc _⟩
              · have bm1 : (o == 0) = false := beq_eq_false_iff_ne.2 m1
                by_cases m2 : i = 0
                · subst m2
                  go_wp2_with fail
                  go_ret
                  exact ⟨bool_f HR.out (right_h _ _ _ _ _) (by omega), (Chg.refl _ _).alloc _⟩
                · have bm2 : (i == 0) = false := beq_eq_false_iff_ne.2 m2
                  by_cases t1 : n = 0
                  · subst t1
                    by_cases t2 : a = 0
                    · subst t2
                      go_wp2_with fail
                      go_ret
                      exact ⟨bool_t HR.out (right_h _ _ _ _ _) (by omega), (Chg.refl _ _).alloc _⟩
                    · have bt2 : (a == 0) = false := beq_eq_false_iff_ne.2 t2
                      go_wp2_with fail
                      go_ret
                      exact ⟨bool_f HR.out (right_h _ _ _ _ _) (by omega), (Chg.refl _ _).alloc _⟩
                  · have bt1 : (n == 0) = false := beq_eq_false_iff_ne.2 t1
                    go_wp2_with fail
                    go_ret
                    exact ⟨bool_f HR.out (right_h _ _ _ _ _) (by omega), (Chg.refl _ _).alloc _⟩

set_option maxRecDepth 100000 in
set_option maxHeartbeats 8000000 in
theorem docRight_true (x : It) (w : World) : Calls Try.prog 31 #[x.V, .bool true] w fun e w' => e = .returned (.bool (rightI true x)) ∧ New w w' := by
  obtain ⟨c, o, i, n, a⟩ := x
  obtain ⟨R, hQ⟩ : ∃ R, R = rightI true ⟨c, o, i, n, a⟩ := ⟨_, rfl⟩
  rw [← hQ]
  have HR := Lib.hid hQ
  clear hQ
  go_enter Try.func31, Try.ntmps31
  by_cases r0 : c < 0
  · have br0 : decide (c < 0) = true := decide_eq_true r0
    go_wp2_with fail
    go_ret
    exact ⟨bool_f HR.out (right_a _ _ _ _ _) (by omega), (Chg.refl _ _).alloc _⟩
  · have br0 : decide (c < 0) = false := decide_eq_false r0
    by_cases r1 : 65535 < c
    · have br1 : decide (65535 < c) = true := decide_eq_true r1
      go_wp2_with fail
      go_ret
      exact ⟨bool_f HR.out (right_a _ _ _ _ _) (by omega), (Chg.refl _ _).alloc _⟩
    · have br1 : decide (65535 < c) = false := decide_eq_false r1
      by_cases r2 : o < 0
      · have br2 : decide (o < 0) = true := decide_eq_true r2
        go_wp2_with fail
        go_ret
        exact ⟨bool_f HR.out (right_a _ _ _ _ _) (by omega), (Chg.refl _ _).alloc _⟩
      · have br2 : decide (o < 0) = false := decide_eq_false r2
        by_cases r3 : 4 < o
        · have br3 : decide (4 < o) = true := decide_eq_true r3
          go_wp2_with fail
          go_ret
          exact ⟨bool_f HR.out (right_a _ _ _ _ _) (by omega), (Chg.refl _ _).alloc _⟩
        · have br3 : decide (4 < o) = false := decide_eq_false r3
          by_cases r4 : i < 0
          · have br4 : decide (i < 0) = true := decide_eq_true r4
            go_wp2_with fail
            go_ret
            exact ⟨bool_f HR.out (right_a _ _ _ _ _) (by omega), (Chg.refl _ _).alloc _⟩
          · have br4 : decide (i < 0) = false := decide_eq_false r4
            by_cases r5 : 65535 < i
            · have br5 : decide (65535 < i) = true := decide_eq_true r5
              go_wp2_with fail
              go_ret
              exact ⟨bool_f HR.out (right_a _ _ _ _ _) (by omega), (Chg.refl _ _).alloc _⟩
            · have br5 : decide (65535 < i) = false := decide_eq_false r5
              by_cases m1 : o = 0
              · subst m1
                by_cases m2 : i = 0
                · subst m2
                  by_cases m3 : c = 0
                  · subst m3
                    go_wp2_with fail
                    go_ret
                    exact ⟨bool_f HR.out (right_a _ _ _ _ _) (by omega), (Chg.refl _ _).alloc _⟩
                  · have bm3 : (c == 0) = false := beq_eq_false_iff_ne.2 m3
                    go_wp2_with fail
                    go_ret
                    exact ⟨bool_f HR.out (right_a _ _ _ _ _) (by omega), (Chg.refl _ _).alloc _⟩
                · have bm2 : (i == 0) = false := beq_eq_false_iff_ne.2 m2
                  go_wp2_with fail
                  go_ret
                  exact ⟨bool_f HR.out (right_a _ _ _ _ _) (by omega), (Chg.refl _ _).alloc _⟩
              · have bm1 : (o == 0) = false := beq_eq_false_iff_ne.2 m1
                by_cases m2 : i = 0
                · subst m2
                  go_wp2_with fail
                  go_ret
                  exact ⟨bool_f HR.out (right_a _ _ _ _ _) (by omega), (Chg.refl _ _).alloc _⟩
                · have bm2 : (i == 0) = false := beq_eq_false_iff_ne.2 m2
                  by_cases t1 : 0 < o
                  · have bt1 : decide (0 < o) = true := decide_eq_true t1
                    by_cases t2 : 0 < n
                    · have bt2 : decide (0 < n) = true := decide_eq_true t2
                      by_cases t3 : n < 65536
                      · have bt3 : decide (n < 65536) = true := decide_eq_true t3
                        by_cases t4 : 0 ≤ a
                        · have bt4 : decide (0 ≤ a) = true := decide_eq_true t4
                          by_cases t5 : a ≤ 2147483648
                          · have bt5 : decide (a ≤ 2147483648) = true := decide_eq_true t5
                            go_wp2_with fail
                            go_ret
                            exact ⟨bool_t HR.out (right_a _ _ _ _ _) (by omega), (Chg.refl _ _).alloc _⟩
                          · have bt5 : decide (a ≤ 2147483648) = false := decide_eq_false t5
                            go_wp2_with fail
                            go_ret
                            exact ⟨bool_f HR.out (right_a _ _ _ _ _) (by omega), (Chg.refl _ _).alloc _⟩
                        · have bt4 : decide (0 ≤ a) = false := decide_eq_false t4
                          go_wp2_with fail
                          go_ret
                          exact ⟨bool_f HR.out (right_a _ _ _ _ _) (by omega), (Chg.refl _ _).alloc _⟩
                      · have bt3 : decide (n < 65536) = false := decide_eq_false t3
                        go_wp2_with fail
                        go_ret
                        exact ⟨bool_f HR.out (right_a _ _ _ _ _) (by omega), (Chg.refl _ _).alloc _⟩
                    · have bt2 : decide (0 < n) = false := decide_eq_false t2
                      go_wp2_with fail
                      go_ret
                      exact ⟨bool_f HR.out (right_a _ _ _ _ _) (by omega), (Chg.refl _ _).alloc _⟩
                  · have bt1 : decide (0 < o) = false := decide_eq_false t1
                    omega

theorem docRight_any (act : Bool) (x : It) (w : World) : Calls Try.prog 31 #[x.V, .bool act] w fun e w' => e = .returned (.bool (rightI act x)) ∧ New w w' := by
  cases act with
  | false => exact docRight_false x w
  | true => exact docRight_true x w
end Go.Proofs.Ytficopkjpdfilaa
