/-
  A row of writes with power for some of them: the bytes and the power behind each.
-/
import Derived.Test.YtkecgfgeajkmmaaLApart
namespace Go.Proofs.Ytkecgfgeajkmmaa
open Go.RowKit
/-- any number, turned into a small one -/
theorem turn_any (i n : Int) (hn : 0 < n) (hb : n ≤ 1000) : (∃ j : Nat, Int.tmod (Int.tmod i n + n) n = (j : Int) ∧ (j : Int) < n) ∧ wrap64 (Int.tmod i n + n) = Int.tmod i n + n := by
  have h1 : Int.tmod i n < n := Int.tmod_lt_of_pos i hn
  have h2 : -n < Int.tmod i n := Int.lt_tmod_of_pos i hn
  have h3 := Int.emod_nonneg (Int.tmod i n + n) (show n ≠ 0 by omega)
  have h4 := Int.emod_lt_of_pos (Int.tmod i n + n) hn
  refine ⟨⟨((Int.tmod i n + n) % n).toNat, ?_, by omega⟩, w64 _ (by omega) (by omega)⟩
  rw [Int.tmod_eq_emod_of_nonneg (by omega)]
  omega
/-- the card's bytes behind k writes of which the first j are done -/
def stB (L : Nat → List Nat) (j : Nat) : Nat → List Nat
  | 0 => nought
  | k + 1 => if k < j then splice (stB L j k) (32 * k) (pad 32 (L k)) else stB L j k
/-- the power that is left -/
def stP (j k : Nat) : Int := if k < j then (j : Int) - k else 0
theorem stB_len (L : Nat → List Nat) (j : Nat) : ∀ k, k ≤ 16 → (stB L j k).length = 512
  | 0, _ => List.length_replicate
  | k + 1, h => by
    have ih := stB_len L j k (by omega)
    unfold stB
    split
    · rw [length_splice _ _ _ (by rw [pad_len, ih]; omega), ih]
    · exact ih
theorem sec_nought (i : Nat) (hi : i < 16) : sec nought i = zs 32 := by
  unfold sec nought zs
  rw [List.drop_replicate, List.take_replicate]
  congr 1
  omega
theorem stB_sec (L : Nat → List Nat) (j i : Nat) (hi : i < 16) : ∀ k, k ≤ 16 → sec (stB L j k) i = if i < j ∧ i < k then pad 32 (L i) else zs 32
  | 0, _ => by rw [if_neg (by omega)]; exact sec_nought i hi
  | k + 1, h => by
    have ih := stB_sec L j i hi k (by omega)
    have hl := stB_len L j k (by omega)
    unfold stB
    by_cases hk : k < j
    · rw [if_pos hk]
      by_cases hki : k = i
      · subst hki
        rw [sec_same hl (by omega) (pad_len 32 _), if_pos (by omega)]
      · rw [sec_other hl (by omega) (pad_len 32 _) hki, ih]
        by_cases hc : i < j ∧ i < k
        · rw [if_pos hc, if_pos (by omega)]
        · rw [if_neg hc, if_neg (by omega)]
    · rw [if_neg hk, ih]
      by_cases hc : i < j ∧ i < k
      · rw [if_pos hc, if_pos (by omega)]
      · rw [if_neg hc, if_neg (by omega)]
theorem st_err (j k : Nat) (hk : k < 16) : wE (k : Int) 32 (stP j k) = if k < j then 0 else 30 := by
  unfold wE
  rw [if_pos (by omega), szE_same, if_pos rfl]
  by_cases h : k < j
  · rw [if_pos h, if_neg (by unfold stP; rw [if_pos h]; omega)]
  · rw [if_neg h, if_pos (by unfold stP; rw [if_neg h])]
theorem st_step (L : Nat → List Nat) (j k : Nat) (hk : k < 16) : wB (stB L j k) (pad 32 (L k)) (k : Int) (stP j k) = stB L j (k + 1) ∧ wP 32 (k : Int) (stP j k) = stP j (k + 1) := by
  have he := st_err j k hk
  unfold wB wP
  rw [pad_len, he]
  by_cases h : k < j
  · rw [if_pos h, if_pos rfl, if_pos rfl, Int.toNat_natCast]
    refine ⟨by rw [stB, if_pos h], ?_⟩
    unfold spent stP
    rw [if_pos h, if_pos (by omega)]
    by_cases h1 : k + 1 < j
    · rw [if_pos h1]; omega
    · rw [if_neg h1]; omega
  · rw [if_neg h, if_neg (by decide), if_neg (by decide)]
    refine ⟨by rw [stB, if_neg h], ?_⟩
    unfold stP
    rw [if_neg h, if_neg (by omega)]
end Go.Proofs.Ytkecgfgeajkmmaa
