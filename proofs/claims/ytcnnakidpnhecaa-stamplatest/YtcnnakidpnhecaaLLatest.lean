/-
  What the law StampLatest does: it returns true and turns nothing that was there.
-/
import Derived.Test.YtcnnakidpnhecaaStE
import Derived.Test.YtcnnakidpnhecaaLBack
namespace Go.Proofs.Ytcnnakidpnhecaa
open Go.RowKit
set_option maxHeartbeats 2000000 in
theorem latest_none (A : Option Addr) (c : Nat) (w : World) :
    Calls Try.prog 7 #[.slice A 0 c] w fun e w' => e = .returned (.bool true) ∧ New w w' := by
  go_enter Try.func7, Try.ntmps7
  go_wp2_with fail
  with_reducible refine (awake_any _).mono ?_
  rintro e w1 ⟨rfl, hN1⟩
  have HN1 := Lib.hid hN1; clear hN1
  go_wp2_with fail
  with_reducible refine (Latest_none _ _ _).mono ?_
  rintro e w2 ⟨rfl, hN2⟩
  have HL := Lib.hid (Has.new w2 38 #[.int .i64 0, .int .i64 0])
  have HN2 := Lib.hid ((HN1.out.then_new hN2).alloc (.cells #[.int .i64 0, .int .i64 0] 38))
  clear hN2 HN1
  go_wp2_with fail
  obtain ⟨bl, hbl⟩ : ∃ bl, bl = w2.heap.size := ⟨_, rfl⟩
  rw [← hbl] at HL ⊢
  clear hbl
  go_loopg [5, 6] 1 (fun gk r i wr => gk = 1 ∧ r = .bool false ∧ i = .int .i64 0 ∧ Has wr bl 38 #[.int .i64 0, .int .i64 0] ∧ New w wr)
  case atStart => exact ⟨rfl, rfl, rfl, HL.out, HN2.out⟩
  case round =>
    clear HL HN2
    obtain ⟨_, rfl, rfl, hL, hN⟩ := hrel
    have hc0 := hL.cell 0
    have hc1 := hL.cell 1
    simp at hc0 hc1
    have HN := Lib.hid hN; clear hN hL
    go_wp2
    go_ret
    exact ⟨rfl, HN.out⟩
set_option maxHeartbeats 2000000 in
theorem latest_bad (A : Option Addr) (n c : Nat) (fd fm : Nat → Int) (w : World) (hA : Flds w (· < w.heap.size) A n fd fm) (hn : n ≤ 9223372036854775807) (j : Nat) (hj : j < n) (hbad : rightB (fd j) (fm j) = false) :
    Calls Try.prog 7 #[.slice A n c] w fun e w' => e = .returned (.bool true) ∧ New w w' := by
  have HA := Lib.hid hA; clear hA
  have Hbad := Lib.hid hbad; clear hbad
  have hpos : decide (0 < n) = true := by rw [decide_eq_true_eq]; omega
  go_enter Try.func7, Try.ntmps7
  go_wp2_with fail
  with_reducible refine (awake_any _).mono ?_
  rintro e w1 ⟨rfl, hN1⟩
  have HN1 := Lib.hid hN1; clear hN1
  have HLt := Lib.hid (Latest_no (· < w.heap.size) A n c fd fm w1 (HA.out.chg HN1.out (fun k hk => ⟨hk, fun f => f⟩)) (fun k hk => Nat.lt_of_lt_of_le hk HN1.out.size) hn j hj Hbad.out)
  go_wp2_with fail
  with_reducible refine HLt.out.mono ?_
  rintro e w2 ⟨rfl, hN2⟩
  have HL := Lib.hid (Has.new w2 38 #[.int .i64 0, .int .i64 0])
  have HN2 := Lib.hid ((HN1.out.then_new hN2).alloc (.cells #[.int .i64 0, .int .i64 0] 38))
  clear hN2 HN1 HLt
  go_wp2_with fail
  obtain ⟨bl, hbl⟩ : ∃ bl, bl = w2.heap.size := ⟨_, rfl⟩
  rw [← hbl] at HL ⊢
  clear hbl
  go_loopg [5, 6] n (fun gk r i wr => ∃ (k : Nat) (b : Bool), k ≤ n ∧ gk = n - k ∧ r = .bool b ∧ i = .int .i64 k ∧ (j < k → b = false) ∧ Has wr bl 38 #[.int .i64 0, .int .i64 0] ∧ New w wr)
  case atStart => exact ⟨0, true, by omega, by omega, rfl, rfl, fun h => by omega, HL.out, HN2.out⟩
  case round =>
    clear HL HN2
    obtain ⟨k, b, hk, rfl, rfl, rfl, hjb, hL, hN⟩ := hrel
    have HJ := Lib.hid hjb; clear hjb
    by_cases hlt : k < n
    · obtain ⟨a, rfl, hab, h1, h2⟩ := (HA.out.chg hN (fun k hk => ⟨hk, fun f => f⟩)) k hlt
      obtain ⟨x, hx⟩ : ∃ x, x = fd k := ⟨_, rfl⟩
      obtain ⟨y, hy⟩ : ∃ y, y = fm k := ⟨_, rfl⟩
      rw [← hx] at h1
      rw [← hy] at h2
      have HX := Lib.hid hx; clear hx
      have HY := Lib.hid hy; clear hy
      have HN := Lib.hid hN; clear hN
      have HL := Lib.hid hL; clear hL
      cases b with
      | false =>
        go_wp2
        go_roundg (n - (k + 1))
        case measure => omega
        case rel => exact ⟨k + 1, false, by omega, rfl, rfl, by go_num, fun _ => rfl, HL.out, HN.out⟩
      | true =>
        go_wp2_with (go_at_call 16; (with_reducible refine (refRight_any _ _ _).mono ?_); rintro e w' ⟨rfl, rfl⟩)
        go_roundg (n - (k + 1))
        case measure => omega
        case rel =>
          refine ⟨k + 1, rightB x y, by omega, rfl, rfl, by go_num, fun h => ?_, HL.out.alloc _, HN.out.alloc _⟩
          by_cases hjk : j < k
          · exact absurd (HJ.out hjk) (by decide)
          · obtain rfl : k = j := by omega
            rw [HX.out, HY.out]; exact Hbad.out
    · obtain rfl : n = k := by omega
      have hb : b = false := HJ.out hj
      subst hb
      have hc0 := hL.cell 0
      have hc1 := hL.cell 1
      simp at hc0 hc1
      have HN := Lib.hid hN; clear hN hL
      go_wp2
      go_ret
      exact ⟨rfl, HN.out⟩
theorem not_later {x y X Y : Int} (hr : rightB x y = true) (hR : rightB X Y = true) (h : x * 1440 + y ≤ X * 1440 + Y) : (decide (X < x) = false ∧ (x == X) = false) ∨ (decide (X < x) = false ∧ (x == X) = true ∧ decide (Y < y) = false) := by
  obtain ⟨p1, p2, p3, p4⟩ := rightB_true hr
  obtain ⟨q1, q2, q3, q4⟩ := rightB_true hR
  simp only [decide_eq_false_iff_not, beq_eq_false_iff_ne, beq_iff_eq]
  omega
set_option maxHeartbeats 2000000 in
theorem latest_good (A : Option Addr) (n c : Nat) (fd fm : Nat → Int) (w : World) (hA : Flds w (· < w.heap.size) A n fd fm) (hn : n ≤ 9223372036854775807) (hn1 : 1 ≤ n) (hnc : n ≤ c) (hok : ∀ j, j < n → rightB (fd j) (fm j) = true) :
    Calls Try.prog 7 #[.slice A n c] w fun e w' => e = .returned (.bool true) ∧ New w w' := by
  have HA := Lib.hid hA; clear hA
  have Hok := Lib.hid hok; clear hok
  have hpos : decide (0 < n) = true := by rw [decide_eq_true_eq]; omega
  go_enter Try.func7, Try.ntmps7
  go_wp2_with fail
  with_reducible refine (awake_any _).mono ?_
  rintro e w1 ⟨rfl, hN1⟩
  have HN1 := Lib.hid hN1; clear hN1
  have HLt := Lib.hid (Latest_ok (· < w.heap.size) A n c fd fm w1 (HA.out.chg HN1.out (fun k hk => ⟨hk, fun f => f⟩)) (fun k hk => Nat.lt_of_lt_of_le hk HN1.out.size) hn hn1 hnc Hok.out)
  go_wp2_with fail
  with_reducible refine HLt.out.mono ?_
  rintro e w2 ⟨j, hlate, rfl, hN2⟩
  have hR := Hok.out j hlate.1
  have hjn := hlate.1
  have hle0 := hlate.2.1
  obtain ⟨X, hX⟩ : ∃ X, X = fd j := ⟨_, rfl⟩
  obtain ⟨Y, hY⟩ : ∃ Y, Y = fm j := ⟨_, rfl⟩
  have hle : ∀ i, i < n → fd i * 1440 + fm i ≤ X * 1440 + Y := fun i hi => by
    have := hle0 i hi
    simp only [tm] at this
    rw [hX, hY]; exact this
  rw [← hX, ← hY] at hR ⊢
  have HR := Lib.hid hR; clear hR
  have Hle := Lib.hid hle; clear hle hle0 hlate
  have HX := Lib.hid hX; clear hX
  have HY := Lib.hid hY; clear hY
  have HL := Lib.hid (Has.new w2 38 #[.int .i64 X, .int .i64 Y])
  have HN2 := Lib.hid ((HN1.out.then_new hN2).alloc (.cells #[.int .i64 X, .int .i64 Y] 38))
  clear hN2 HN1 HLt
  go_wp2_with fail
  obtain ⟨bl, hbl⟩ : ∃ bl, bl = w2.heap.size := ⟨_, rfl⟩
  rw [← hbl] at HL ⊢
  clear hbl
  go_loopg [5, 6] n (fun gk r i wr => ∃ (k : Nat), k ≤ n ∧ gk = n - k ∧ r = .bool true ∧ i = .int .i64 k ∧ Has wr bl 38 #[.int .i64 X, .int .i64 Y] ∧ New w wr)
  case atStart => exact ⟨0, by omega, by omega, rfl, rfl, HL.out, HN2.out⟩
  case round =>
    clear HL HN2
    obtain ⟨k, hk, rfl, rfl, rfl, hL, hN⟩ := hrel
    by_cases hlt : k < n
    · obtain ⟨a, rfl, hab, h1, h2⟩ := (HA.out.chg hN (fun k hk => ⟨hk, fun f => f⟩)) k hlt
      have hr := Hok.out k hlt
      obtain ⟨x, hx⟩ : ∃ x, x = fd k := ⟨_, rfl⟩
      obtain ⟨y, hy⟩ : ∃ y, y = fm k := ⟨_, rfl⟩
      rw [← hx] at h1 hr
      rw [← hy] at h2 hr
      clear hx hy
      have HN := Lib.hid hN; clear hN
      have HL := Lib.hid hL; clear hL
      go_wp2_with (go_at_call 16; (with_reducible refine (refRight_any _ _ _).mono ?_); rintro e w' ⟨rfl, rfl⟩)
      go_roundg (n - (k + 1))
      case measure => omega
      case rel => exact ⟨k + 1, by omega, rfl, rfl, by go_num, HL.out.alloc _, HN.out.alloc _⟩
    · have HN := Lib.hid hN; clear hN
      have HL := Lib.hid hL; clear hL
      go_wp2_with fail
      go_loopg [2, 7, 8] n (fun gk r t i wr => ∃ (k : Nat) (b : Bool), k ≤ n ∧ gk = n - k ∧ r = .bool false ∧ t = .bool b ∧ i = .int .i64 k ∧ (j < k → b = true) ∧ Has wr bl 38 #[.int .i64 X, .int .i64 Y] ∧ New w wr)
      case atStart => exact ⟨0, false, by omega, by omega, rfl, rfl, rfl, fun h => by omega, HL.out, HN.out⟩
      case round =>
        clear HL HN hk hlt
        obtain ⟨k, b, hk, rfl, rfl, rfl, rfl, hjb, hL, hN⟩ := hrel
        have HJ := Lib.hid hjb; clear hjb
        by_cases hlt : k < n
        · obtain ⟨a, rfl, hab, h1, h2⟩ := (HA.out.chg hN (fun k hk => ⟨hk, fun f => f⟩)) k hlt
          have hnl := not_later (Hok.out k hlt) HR.out (Hle.out k hlt)
          obtain ⟨x, hx⟩ : ∃ x, x = fd k := ⟨_, rfl⟩
          obtain ⟨y, hy⟩ : ∃ y, y = fm k := ⟨_, rfl⟩
          rw [← hx] at h1 hnl
          rw [← hy] at h2 hnl
          have Hx := Lib.hid hx; clear hx
          have Hy := Lib.hid hy; clear hy
          have hc0 := hL.cell 0
          have hc1 := hL.cell 1
          simp at hc0 hc1
          have HN := Lib.hid hN; clear hN
          have HL := Lib.hid hL; clear hL
          have Hnl := Lib.hid hnl; clear hnl
          cases b with
          | true =>
            clear HJ
            go_wp2
            go_quiet (fail)
            go_wp2
            rcases Hnl.out with ⟨k1, k2⟩ | ⟨k1, k2, k3⟩
            all_goals
              go_quiet (fail)
              go_wp2
              go_roundg (n - (k + 1))
              case measure => omega
              case rel =>
                refine ⟨k + 1, _, by omega, rfl, rfl, rfl, by go_num, ?_, by repeat (first | exact HL.out | refine Has.drewN ?_ _), by repeat (first | exact HN.out | refine Chg.drewN ?_ _)⟩
                exact fun _ => rfl
          | false =>
            have hkj : ¬ j < k := fun h => absurd (HJ.out h) (by decide)
            clear HJ
            by_cases he : k = j
            · have e1 : x = X := by rw [Hx.out, HX.out, he]
              have e2 : y = Y := by rw [Hy.out, HY.out, he]
              subst e1
              subst e2
              clear he
              go_wp2
              go_quiet (fail)
              go_wp2
              rcases Hnl.out with ⟨k1, k2⟩ | ⟨k1, k2, k3⟩
              all_goals
                go_quiet (fail)
                go_wp2
                go_roundg (n - (k + 1))
                case measure => omega
                case rel =>
                  refine ⟨k + 1, _, by omega, rfl, rfl, rfl, by go_num, ?_, by repeat (first | exact HL.out | refine Has.drewN ?_ _), by repeat (first | exact HN.out | refine Chg.drewN ?_ _)⟩
                  exact fun _ => rfl
            · have hkj2 : k < j := by omega
              clear he hkj
              by_cases e1 : x = X
              · subst e1
                by_cases e2 : y = Y
                · subst e2
                  go_wp2
                  go_quiet (fail)
                  go_wp2
                  rcases Hnl.out with ⟨k1, k2⟩ | ⟨k1, k2, k3⟩
                  all_goals
                    go_quiet (fail)
                    go_wp2
                    go_roundg (n - (k + 1))
                    case measure => omega
                    case rel =>
                      refine ⟨k + 1, _, by omega, rfl, rfl, rfl, by go_num, ?_, by repeat (first | exact HL.out | refine Has.drewN ?_ _), by repeat (first | exact HN.out | refine Chg.drewN ?_ _)⟩
                      exact fun h => by omega
                · have e2' : (y == Y) = false := by rw [beq_eq_false_iff_ne]; exact e2
                  go_wp2
                  go_quiet (fail)
                  go_wp2
                  rcases Hnl.out with ⟨k1, k2⟩ | ⟨k1, k2, k3⟩
                  · simp at k2
                  all_goals
                    go_quiet (fail)
                    go_wp2
                    go_roundg (n - (k + 1))
                    case measure => omega
                    case rel =>
                      refine ⟨k + 1, _, by omega, rfl, rfl, rfl, by go_num, ?_, by repeat (first | exact HL.out | refine Has.drewN ?_ _), by repeat (first | exact HN.out | refine Chg.drewN ?_ _)⟩
                      exact fun h => by omega
              · have e1' : (x == X) = false := by rw [beq_eq_false_iff_ne]; exact e1
                go_wp2
                go_quiet (fail)
                go_wp2
                rcases Hnl.out with ⟨k1, k2⟩ | ⟨k1, k2, k3⟩
                all_goals
                  go_quiet (fail)
                  go_wp2
                  go_roundg (n - (k + 1))
                  case measure => omega
                  case rel =>
                    refine ⟨k + 1, _, by omega, rfl, rfl, rfl, by go_num, ?_, by repeat (first | exact HL.out | refine Has.drewN ?_ _), by repeat (first | exact HN.out | refine Chg.drewN ?_ _)⟩
                    exact fun h => by omega
        · obtain rfl : n = k := by omega
          have hb : b = true := HJ.out hjn
          subst hb
          have HN := Lib.hid hN; clear hN hL
          go_wp2
          go_ret
          exact ⟨rfl, HN.out⟩
theorem latest_law {W : World} (A : Option Addr) (n c : Nat) (h : ∃ fw fv, Flds W (· < W.heap.size) A n fw fv ∧ n ≤ c ∧ c ≤ maxLen ∧ (A = none → n = 0 ∧ c = 0)) :
    Calls Try.prog 7 #[.slice A n c] W fun e w' => e = .returned (.bool true) ∧ New W w' := by
  obtain ⟨fd, fm, hA, hnc, hc, _⟩ := h
  unfold maxLen at hc
  by_cases h0 : n = 0
  · subst h0; exact latest_none A c W
  · by_cases hok : ∀ j, j < n → rightB (fd j) (fm j) = true
    · exact latest_good A n c fd fm W hA (by omega) (by omega) hnc hok
    · obtain ⟨j, hj, hbad⟩ : ∃ j, j < n ∧ rightB (fd j) (fm j) = false := by
        apply Classical.byContradiction
        intro hno
        apply hok
        intro j hj
        cases h : rightB (fd j) (fm j) with
        | true => rfl
        | false => exact absurd ⟨j, hj, h⟩ hno
      exact latest_bad A n c fd fm W hA (by omega) j hj hbad
end Go.Proofs.Ytcnnakidpnhecaa
