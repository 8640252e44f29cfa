/-
  Plain mathematics of decimal digits: what is laid is read so; the order of the bytes is the order of the numbers.
-/
import Derived.Test.YtcnnakidpnhecaaDec
namespace Go.Proofs.Ytcnnakidpnhecaa
def fb (n r : Nat) : Nat := dig n (2 * r) + 16 * dig n (2 * r + 1)
def fbytes (n L : Nat) : List Nat := (List.range L).map fun q => fb n (L - 1 - q)
theorem dig_hi (n c i : Nat) (h : n < 10 ^ c) (hi : c ≤ i) : dig n i = 0 := by
  have : n < 10 ^ i := Nat.lt_of_lt_of_le h (Nat.pow_le_pow_right (by omega) hi)
  unfold dig
  rw [Nat.div_eq_of_lt this]
theorem dbytes_full (n c L : Nat) (h : n < 10 ^ c) : dbytes n c L = fbytes n L := by
  unfold dbytes fbytes
  apply List.map_congr_left
  intro q _
  obtain ⟨r, hr⟩ : ∃ r, r = L - 1 - q := ⟨_, rfl⟩
  rw [← hr]
  unfold dbyte fb
  split <;> split
  · rfl
  · rw [dig_hi n c (2 * r + 1) h (by omega)]
  · rw [dig_hi n c (2 * r) h (by omega)]
  · rw [dig_hi n c (2 * r) h (by omega), dig_hi n c (2 * r + 1) h (by omega)]
theorem dig_hundred (n i : Nat) : dig (n / 100) i = dig n (i + 2) := by
  unfold dig
  rw [Nat.div_div_eq_div_mul]
  have : 100 * 10 ^ i = 10 ^ (i + 2) := by rw [Nat.pow_add, Nat.mul_comm]
  rw [this]
theorem fbytes_succ (n L : Nat) : fbytes n (L + 1) = fbytes (n / 100) L ++ [fb n 0] := by
  unfold fbytes
  rw [List.range_succ, List.map_append]
  congr 1
  · apply List.map_congr_left
    intro q hq
    have hq : q < L := by simpa using hq
    unfold fb
    rw [dig_hundred, dig_hundred]
    have e1 : 2 * (L - 1 - q) + 2 = 2 * (L + 1 - 1 - q) := by omega
    have e2 : 2 * (L - 1 - q) + 1 + 2 = 2 * (L + 1 - 1 - q) + 1 := by omega
    rw [e1, e2]
  · simp
theorem fb_parts (n r : Nat) : fb n r / 16 = dig n (2 * r + 1) ∧ fb n r % 16 = dig n (2 * r) := by
  have h1 := dig_lt n (2 * r)
  have h2 := dig_lt n (2 * r + 1)
  unfold fb
  omega
theorem fb_zero (n : Nat) : fb n 0 / 16 * 10 + fb n 0 % 16 = n % 100 := by
  obtain ⟨h1, h2⟩ := fb_parts n 0
  rw [h1, h2]
  unfold dig
  simp only [Nat.mul_zero, Nat.zero_add, Nat.pow_zero, Nat.div_one, Nat.pow_one]
  omega
theorem val_fbytes (n L : Nat) : val (fbytes n L) = n % 100 ^ L := by
  induction L generalizing n with
  | zero => simp [fbytes, val, Nat.mod_one]
  | succ L ih =>
    rw [fbytes_succ, val_snoc, ih, Nat.add_assoc, fb_zero, Nat.pow_succ, Nat.mul_comm (100 ^ L) 100, Nat.mod_mul]
    omega
theorem fbytes_bcd (n L : Nat) : (fbytes n L).all bcd = true := by
  rw [List.all_eq_true]
  intro x hx
  simp only [fbytes, List.mem_map] at hx
  obtain ⟨q, _, rfl⟩ := hx
  obtain ⟨h1, h2⟩ := fb_parts n (L - 1 - q)
  have h3 := dig_lt n (2 * (L - 1 - q))
  have h4 := dig_lt n (2 * (L - 1 - q) + 1)
  unfold bcd
  rw [decide_eq_true_eq, h1, h2]
  omega
@[simp] theorem fbytes_length (n L : Nat) : (fbytes n L).length = L := by simp [fbytes]
theorem pow_hundred (c L : Nat) (h : c ≤ 2 * L) : 10 ^ c ≤ 100 ^ L := by
  have : (100 : Nat) ^ L = 10 ^ (2 * L) := by rw [Nat.pow_mul]
  rw [this]
  exact Nat.pow_le_pow_right (by omega) h
theorem read_back (n c : Nat) (hc1 : 1 ≤ c) (hc2 : c ≤ 18) (h : n < 10 ^ c) : numErr (dbytes n c ((c + 1) / 2)) = 0 ∧ numVal (dbytes n c ((c + 1) / 2)) = n := by
  rw [dbytes_full n c _ h]
  have hE : numErr (fbytes n ((c + 1) / 2)) = 0 := by
    rw [numErr, fbytes_bcd, if_neg (by simp; omega), if_neg (by simp; omega)]
    rfl
  refine ⟨hE, ?_⟩
  rw [numVal, if_pos hE, val_fbytes]
  have := pow_hundred c ((c + 1) / 2) (by omega)
  exact Nat.mod_eq_of_lt (by omega)
end Go.Proofs.Ytcnnakidpnhecaa
