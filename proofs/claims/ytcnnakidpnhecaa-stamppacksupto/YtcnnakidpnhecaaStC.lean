/-
  What stamp.Number and the document's own Number do, for every input.
-/
import Derived.Test.YtcnnakidpnhecaaStB
namespace Go.Proofs.Ytcnnakidpnhecaa
open Go.RowKit
theorem and15 : ∀ x : Nat, x < 256 → bits BinOp.and IntKind.u8 (x : Int) 15 = ((x % 16 : Nat) : Int) := by
  intro x hx
  have h := u8_and_nat x 15 hx (by omega)
  have e : x &&& 15 = x % 16 := Nat.and_two_pow_sub_one_eq_mod x 4
  rw [e] at h
  exact h
set_option maxHeartbeats 1000000 in
theorem Number_any (A : Option Addr) (n c : Nat) (F : Nat → Prop) (bs : List Nat) (w : World) (hA : Arr w F A n (fun i => bV (bs.getD i 0))) (hlen : bs.length = n) (h256 : ∀ x ∈ bs, x < 256) (hb : n ≤ 9223372036854775807) :
    Calls Try.prog 14 #[.slice A n c] w fun e w' => e = .returned (.tuple #[.int .i64 (numVal bs), .int .i64 (numErr bs)]) ∧ w = w' := by
  have HA := Lib.hid hA; clear hA
  have H256 := Lib.hid h256; clear h256
  have Hlen := Lib.hid hlen; clear hlen
  by_cases h0 : n = 0
  · have hE : numErr bs = 10 := by rw [numErr, if_pos (by rw [Hlen.out, h0])]
    have hV : numVal bs = 0 := by rw [numVal, hE]; rfl
    rw [hE, hV]
    clear hE hV
    subst h0
    go_enter Try.func14, Try.ntmps14
    go_wp2
    go_ret2
    exact ⟨rfl, rfl⟩
  · by_cases h9 : 9 < n
    · have hE : numErr bs = 11 := by rw [numErr, if_neg (by rw [Hlen.out]; exact h0), if_pos (by rw [Hlen.out]; exact h9)]
      have hV : numVal bs = 0 := by rw [numVal, hE]; rfl
      rw [hE, hV]
      clear hE hV
      have h0' : ((n : Int) == 0) = false := by simp; exact h0
      have h9' : decide (9 < (n : Int)) = true := by simp; omega
      clear h0
      go_enter Try.func14, Try.ntmps14
      go_wp2
      go_ret2
      exact ⟨rfl, rfl⟩
    · have h0' : ((n : Int) == 0) = false := by simp; exact h0
      have h9' : decide (9 < (n : Int)) = false := by simp; omega
      have hn9 : n ≤ 9 := by omega
      have Hn0 := Lib.hid h0
      clear h0 h9
      go_enter Try.func14, Try.ntmps14
      go_wp2
      go_loop [4, 17] (fun nn i => ∃ k N : Nat, k ≤ n ∧ i = .int .i64 k ∧ nn = .int .i64 N ∧ N = val (bs.take k) ∧ (∀ j, j < k → bcd (bs.getD j 0) = true)) (fun _ i => n - (intOf i).toNat)
      case atStart => exact ⟨0, 0, by omega, rfl, rfl, by simp [val], fun j hj => by omega⟩
      case round =>
        obtain ⟨k, N, hk, rfl, rfl, hN, hall⟩ := hrel
        have HN := Lib.hid hN; clear hN
        have Hall := Lib.hid hall; clear hall
        by_cases hlt : k < n
        · have hNb : N < 10000000000000000 := by rw [HN.out]; exact val_bound bs k (by omega) (by rw [Hlen.out]; omega) Hall.out
          have hts := take_snoc_get bs k (by rw [Hlen.out]; exact hlt)
          obtain ⟨ad, rfl, hadB, hcell⟩ := HA.out k hlt
          have hx256 : bs.getD k 0 < 256 := H256.out _ (by
            have : k < bs.length := by rw [Hlen.out]; exact hlt
            simp [List.getElem?_eq_getElem this])
          simp only [bV] at hcell
          obtain ⟨x, hx⟩ : ∃ x, x = bs.getD k 0 := ⟨_, rfl⟩
          rw [← hx] at hcell hx256 hts
          have Hx := Lib.hid hx; clear hx
          have Hts := Lib.hid hts; clear hts
          have e15 := and15 x hx256
          obtain ⟨lo, hlo⟩ : ∃ lo, lo = x % 16 := ⟨_, rfl⟩
          rw [← hlo] at e15
          have hlo16 : lo < 16 := by omega
          have Hlo := Lib.hid hlo; clear hlo
          by_cases hg : bcd x = true
          · obtain ⟨g1, g2⟩ := bcd_true hg
            have h1 : decide (9 < (x : Int) / 16) = false := by simp; omega
            have h2 : decide (9 < (lo : Int)) = false := by have := Hlo.out; simp; omega
            have Hg := Lib.hid hg; clear hg
            go_wp2
            go_round
            case rel =>
              refine ⟨k + 1, N * 100 + x / 16 * 10 + lo, by omega, by go_num, by go_num, ?_, fun j hj => ?_⟩
              · rw [Hts.out, val_snoc, ← HN.out, ← Hlo.out]
              · rcases Nat.lt_succ_iff_lt_or_eq.1 hj with h1 | rfl
                · exact Hall.out j h1
                · rw [← Hx.out]; exact Hg.out
            case measure => simp [intOf]; omega
          · have hg' : bcd x = false := by simpa using hg
            have hE : numErr bs = 12 := by
              rw [numErr, if_neg (by rw [Hlen.out]; exact Hn0.out), if_neg (by rw [Hlen.out]; omega), not_all_bcd bs k (by rw [Hlen.out]; exact hlt) (by rw [← Hx.out]; exact hg')]
              rfl
            have hV : numVal bs = 0 := by rw [numVal, hE]; rfl
            have HE := Lib.hid hE; clear hE
            have HV := Lib.hid hV; clear hV
            by_cases h1 : 9 < x / 16
            · have h1' : decide (9 < (x : Int) / 16) = true := by simp; omega
              clear hg hg' h1
              go_wp2
              go_ret2
              rw [HE.out, HV.out]
              exact ⟨rfl, rfl⟩
            · have h1' : decide (9 < (x : Int) / 16) = false := by simp; omega
              have h2' : decide (9 < (lo : Int)) = true := by
                have := Hlo.out
                simp [bcd] at hg
                simp; omega
              clear hg hg' h1
              go_wp2
              go_ret2
              rw [HE.out, HV.out]
              exact ⟨rfl, rfl⟩
        · obtain rfl : n = k := by omega
          have hE : numErr bs = 0 := by
            rw [numErr, if_neg (by rw [Hlen.out]; exact Hn0.out), if_neg (by rw [Hlen.out]; omega), all_bcd bs (by rw [Hlen.out]; exact Hall.out)]
            rfl
          have hV : numVal bs = N := by rw [numVal, hE, HN.out, ← Hlen.out, List.take_length]; rfl
          have HE := Lib.hid hE; clear hE
          have HV := Lib.hid hV; clear hV
          go_wp2
          go_ret2
          rw [HE.out, HV.out]
          exact ⟨rfl, rfl⟩
end Go.Proofs.Ytcnnakidpnhecaa
