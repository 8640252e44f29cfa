/-
  Package ipe's tests: within.
-/
import Derived.Test.YtkcokcanakljnaaIpA
namespace Go.Proofs.Ytkcokcanakljnaa
open Go.RowKit
def withB (lo hi : Int) (m : List Int) : Bool := m.all fun n => decide (lo ≤ n) && decide (n ≤ hi)
theorem withB_no {lo hi : Int} {m : List Int} {i : Nat} (hi' : i < m.length) (h : m.getD i 0 < lo ∨ hi < m.getD i 0) : withB lo hi m = false := by
  unfold withB
  rw [List.all_eq_false]
  refine ⟨m[i], List.getElem_mem hi', ?_⟩
  have e : m[i] = m.getD i 0 := by simp [List.getD_eq_getElem?_getD, List.getElem?_eq_getElem hi']
  rw [e]
  simp only [Bool.and_eq_true, decide_eq_true_eq, not_and]
  omega
theorem withB_yes {lo hi : Int} {m : List Int} (h : ∀ j, j < m.length → lo ≤ m.getD j 0 ∧ m.getD j 0 ≤ hi) : withB lo hi m = true := by
  unfold withB
  rw [List.all_eq_true]
  intro x hx
  obtain ⟨j, hj, rfl⟩ := List.getElem_of_mem hx
  have e : m[j] = m.getD j 0 := by simp [List.getD_eq_getElem?_getD, List.getElem?_eq_getElem hj]
  rw [e]
  have := h j hj
  simp only [Bool.and_eq_true, decide_eq_true_eq]
  exact this
set_option maxRecDepth 100000 in
set_option maxHeartbeats 4000000 in
theorem within_any (lo hi : Int) (m : List Int) (k c g : Nat) (hk : m.length = k) (hk4 : k ≤ 100) (w : World) (hG : Has w g 3 (m.map iV).toArray) :
    Calls Try.prog 68 #[.int .i64 lo, .int .i64 hi, .slice (some ⟨g, 0, none⟩) k c] w fun e w' => e = .returned (.bool (withB lo hi m)) ∧ New w w' := by
  obtain ⟨B, hB⟩ : ∃ B, B = withB lo hi m := ⟨_, rfl⟩
  rw [← hB]
  have HB := Lib.hid hB
  have HG := Lib.hid hG
  have Hk := Lib.hid hk
  clear hB hG hk
  go_enter Try.func68, Try.ntmps68
  go_wp2_with fail
  go_loopg [11] k (fun gk s5 wr => ∃ i : Nat, i ≤ k ∧ gk = k - i ∧ s5 = .int .i64 i ∧ (∀ j, j < i → lo ≤ m.getD j 0 ∧ m.getD j 0 ≤ hi) ∧ ∃ q, wr = w.drewN q)
  case atStart => exact ⟨0, by omega, by omega, rfl, fun j hj => by omega, 0, rfl⟩
  case round =>
    obtain ⟨i, hi', rfl, rfl, hall, hq⟩ := hrel
    have Hall := Lib.hid hall; clear hall
    have HGr : Hid (Has wr g 3 (m.map iV).toArray) := by obtain ⟨q, e⟩ := hq; rw [e]; exact HG.out.drewN _
    have HNr : Hid (New w wr) := by obtain ⟨q, e⟩ := hq; rw [e]; exact (Chg.refl _ _).drewN _
    have Hq := Lib.hid hq; clear hq
    by_cases hlt : i < k
    · have a0 := row_at HGr.out i (by rw [Hk.out]; exact hlt)
      obtain ⟨v, hv⟩ : ∃ v, m.getD i 0 = v := ⟨_, rfl⟩
      rw [hv] at a0
      have Hv := Lib.hid hv
      clear hv
      have t1 : decide ((i : Int) < (k : Int)) = true := decide_eq_true (by omega)
      have t1' : decide (i < k) = true := decide_eq_true hlt
      by_cases c1 : v < lo
      · have e1 : decide (v < lo) = true := decide_eq_true c1
        have hBf : B = false := by rw [HB.out]; exact withB_no (by rw [Hk.out]; exact hlt) (Or.inl (by rw [Hv.out]; exact c1))
        clear c1
        go_wp2_with fail
        go_ret
        exact ⟨by rw [hBf]; rfl, HNr.out⟩
      · have e1 : decide (v < lo) = false := decide_eq_false c1
        by_cases c2 : hi < v
        · have e2 : decide (hi < v) = true := decide_eq_true c2
          have hBf : B = false := by rw [HB.out]; exact withB_no (by rw [Hk.out]; exact hlt) (Or.inr (by rw [Hv.out]; exact c2))
          clear c1 c2
          go_wp2_with fail
          go_ret
          exact ⟨by rw [hBf]; rfl, HNr.out⟩
        · have e2 : decide (hi < v) = false := decide_eq_false c2
          have hok : Hid (lo ≤ m.getD i 0 ∧ m.getD i 0 ≤ hi) := by rw [Hid, Hv.out]; omega
          clear c1 c2
          go_wp2_with fail
          go_roundg (k - (i + 1))
          case measure => omega
          case rel =>
            refine ⟨i + 1, by omega, rfl, by go_num, fun j hj => ?_, Hq.out⟩
            · rcases Nat.lt_or_ge j i with h | h
              · exact Hall.out j h
              · rw [show j = i by omega]; exact hok.out
    · obtain rfl : i = k := by omega
      have hB2 : B = true := by rw [HB.out]; exact withB_yes (fun j hj => Hall.out j (by rw [Hk.out] at hj; exact hj))
      have t1 : decide ((i : Int) < (i : Int)) = false := decide_eq_false (by omega)
      go_wp2_with fail
      go_ret
      exact ⟨by rw [hB2]; rfl, HNr.out⟩
end Go.Proofs.Ytkcokcanakljnaa
