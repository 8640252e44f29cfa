/-
  Plain mathematics of decimal digits, two a byte.
-/
namespace Go.Proofs.Ytcnnakidpnhecaa
def dig (n i : Nat) : Nat := n / 10 ^ i % 10
def dbyte (n k r : Nat) : Nat := (if 2 * r < k then dig n (2 * r) else 0) + 16 * (if 2 * r + 1 < k then dig n (2 * r + 1) else 0)
/-- the first k digits (from the last on), in L bytes -/
def dbytes (n k L : Nat) : List Nat := (List.range L).map fun q => dbyte n k (L - 1 - q)
theorem dig_lt (n i : Nat) : dig n i < 10 := Nat.mod_lt _ (by omega)
theorem dbyte_lt (n k r : Nat) : dbyte n k r < 160 := by
  have h1 := dig_lt n (2 * r)
  have h2 := dig_lt n (2 * r + 1)
  unfold dbyte
  split <;> split <;> omega
@[simp] theorem dbytes_length (n k L : Nat) : (dbytes n k L).length = L := by simp [dbytes]
theorem dbytes_get (n k L q : Nat) (h : q < L) : (dbytes n k L)[q]? = some (dbyte n k (L - 1 - q)) := by simp [dbytes, h]
theorem dbytes_zero (n L : Nat) : dbytes n 0 L = List.replicate L 0 := by
  apply List.ext_getElem?
  intro q
  by_cases h : q < L
  · rw [dbytes_get _ _ _ _ h]; simp [h, dbyte]
  · rw [List.getElem?_eq_none (by simp; omega), List.getElem?_eq_none (by simp; omega)]
theorem or_nib : ∀ a, a < 10 → ∀ b, b < 10 → a ||| b * 16 = a + 16 * b := by decide
theorem dbyte_even (n k : Nat) (h : k % 2 = 0) : dbyte n (k + 1) (k / 2) = dbyte n k (k / 2) ||| dig n k * 1 := by
  have e : 2 * (k / 2) = k := by omega
  unfold dbyte
  rw [e, if_pos (by omega), if_neg (by omega), if_neg (by omega), if_neg (by omega)]
  simp
theorem dbyte_odd (n k : Nat) (h : k % 2 = 1) : dbyte n (k + 1) (k / 2) = dbyte n k (k / 2) ||| dig n k * 16 := by
  have e : 2 * (k / 2) + 1 = k := by omega
  have h1 := dig_lt n (2 * (k / 2))
  have h2 := dig_lt n k
  unfold dbyte
  rw [e, if_pos (by omega), if_pos (by omega), if_pos (by omega), if_neg (by omega), Nat.mul_zero, Nat.add_zero, or_nib _ h1 _ h2]
theorem dbyte_other (n k r : Nat) (h : r ≠ k / 2) : dbyte n (k + 1) r = dbyte n k r := by
  unfold dbyte
  have e1 : (2 * r < k + 1) = (2 * r < k) := by rw [eq_iff_iff]; omega
  have e2 : (2 * r + 1 < k + 1) = (2 * r + 1 < k) := by rw [eq_iff_iff]; omega
  simp only [e1, e2]
theorem dbytes_succ (n k L : Nat) (h : k / 2 < L) : dbytes n (k + 1) L = (dbytes n k L).set (L - 1 - k / 2) (dbyte n (k + 1) (k / 2)) := by
  apply List.ext_getElem?
  intro q
  rw [List.getElem?_set]
  by_cases hq : q < L
  · rw [dbytes_get _ _ _ _ hq, dbytes_get _ _ _ _ hq]
    by_cases h2 : L - 1 - k / 2 = q
    · rw [if_pos h2, if_pos (by simp; omega)]
      have : L - 1 - q = k / 2 := by omega
      rw [this]
    · rw [if_neg h2, dbyte_other n k _ (by omega)]
  · rw [List.getElem?_eq_none (by simp; omega), if_neg (by omega), List.getElem?_eq_none (by simp; omega)]
theorem dbytes_mem (n k L : Nat) : ∀ x ∈ dbytes n k L, x < 256 := by
  intro x hx
  simp only [dbytes, List.mem_map] at hx
  obtain ⟨q, _, rfl⟩ := hx
  have := dbyte_lt n k (L - 1 - q)
  omega
theorem div10 (n k : Nat) : n / 10 ^ k / 10 = n / 10 ^ (k + 1) := by rw [Nat.div_div_eq_div_mul, Nat.pow_succ]
/-- two digits a byte, read -/
def val (bs : List Nat) : Nat := bs.foldl (fun n b => n * 100 + b / 16 * 10 + b % 16) 0
def bcd (b : Nat) : Bool := decide (b / 16 ≤ 9 ∧ b % 16 ≤ 9)
theorem bcd_true {b : Nat} (h : bcd b = true) : b / 16 ≤ 9 ∧ b % 16 ≤ 9 := by simpa [bcd] using h
theorem val_snoc (bs : List Nat) (b : Nat) : val (bs ++ [b]) = val bs * 100 + b / 16 * 10 + b % 16 := by simp [val, List.foldl_append]
theorem val_lt (bs : List Nat) (h : ∀ x ∈ bs, bcd x = true) : val bs < 100 ^ bs.length := by
  obtain ⟨m, hm⟩ : ∃ m, m = bs.length := ⟨_, rfl⟩
  induction m generalizing bs with
  | zero => have : bs = [] := List.eq_nil_of_length_eq_zero hm.symm
            subst this; simp [val]
  | succ m ih =>
    obtain ⟨as, b, rfl⟩ : ∃ as b, bs = as ++ [b] := by
      refine ⟨bs.dropLast, bs.getLast (by intro h0; subst h0; simp at hm), (List.dropLast_concat_getLast _).symm⟩
    have h1 := ih as (fun x hx => h x (by simp [hx])) (by simp at hm; exact hm)
    have h2 := bcd_true (h b (by simp))
    rw [val_snoc, List.length_append, List.length_singleton, Nat.pow_succ]
    omega
theorem take_snoc_get (bs : List Nat) (k : Nat) (h : k < bs.length) : bs.take (k + 1) = bs.take k ++ [bs.getD k 0] := by
  rw [List.take_add_one, List.getElem?_eq_getElem h]
  simp [List.getElem?_eq_getElem h]
/-- the error of reading: 10 nothing, 11 too much, 12 no digits, 0 -/
def numErr (bs : List Nat) : Int := if bs.length = 0 then 10 else if 9 < bs.length then 11 else if bs.all bcd then 0 else 12
def numVal (bs : List Nat) : Nat := if numErr bs = 0 then val bs else 0
theorem val_bound (bs : List Nat) (k : Nat) (hk : k ≤ 8) (hl : k ≤ bs.length) (h : ∀ j, j < k → bcd (bs.getD j 0) = true) : val (bs.take k) < 10000000000000000 := by
  have h1 := val_lt (bs.take k) (fun x hx => by
    obtain ⟨j, hj, rfl⟩ := List.mem_iff_getElem.1 hx
    have hj' : j < k := by simp at hj; omega
    have := h j hj'
    rw [List.getElem_take]
    simpa [List.getElem?_eq_getElem (show j < bs.length by omega)] using this)
  have h2 : 100 ^ (bs.take k).length ≤ 100 ^ 8 := Nat.pow_le_pow_right (by omega) (by simp; omega)
  have h3 : 100 ^ 8 = 10000000000000000 := by decide
  omega
theorem all_bcd (bs : List Nat) (h : ∀ j, j < bs.length → bcd (bs.getD j 0) = true) : bs.all bcd = true := by
  rw [List.all_eq_true]
  intro x hx
  obtain ⟨j, hj, rfl⟩ := List.mem_iff_getElem.1 hx
  simpa [List.getElem?_eq_getElem hj] using h j hj
theorem not_all_bcd (bs : List Nat) (j : Nat) (hj : j < bs.length) (h : bcd (bs.getD j 0) = false) : bs.all bcd = false := by
  rw [Bool.eq_false_iff]
  intro hh
  rw [List.all_eq_true] at hh
  have := hh bs[j] (List.getElem_mem hj)
  rw [List.getD_eq_getElem?_getD, List.getElem?_eq_getElem hj] at h
  simp only [Option.getD_some] at h
  rw [this] at h; cases h
end Go.Proofs.Ytcnnakidpnhecaa
