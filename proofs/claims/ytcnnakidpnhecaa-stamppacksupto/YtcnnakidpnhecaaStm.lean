/-
  Plain mathematics of stamps in four bytes: how they are laid, how they are read.
-/
import Derived.Test.YtcnnakidpnhecaaBits
namespace Go.Proofs.Ytcnnakidpnhecaa
theorem bitsOf_split (a b N : Nat) : bitsOf (a + b) N = bitsOf a (N / 2 ^ b) ++ bitsOf b N := by
  induction a with
  | zero => simp [bitsOf]
  | succ a ih =>
    have e : a + 1 + b = (a + b) + 1 := by omega
    rw [e, bitsOf, bitsOf, ih, List.cons_append, Nat.div_div_eq_div_mul, ← Nat.pow_add, Nat.add_comm b a]
theorem bitsOf_mod (n v : Nat) : bitsOf n (v % 2 ^ n) = bitsOf n v := by
  apply List.ext_getElem?
  intro k
  by_cases hk : k < n
  · rw [bitsOf_get n _ k hk, bitsOf_get n _ k hk]
    have e : v % 2 ^ n / 2 ^ (n - 1 - k) % 2 = v / 2 ^ (n - 1 - k) % 2 := by
      have hp : (2 : Nat) ^ n = 2 ^ (n - 1 - k) * 2 ^ (k + 1) := by rw [← Nat.pow_add]; congr 1; omega
      rw [hp, Nat.mod_mul_right_div_self, Nat.pow_succ, Nat.mul_comm (2 ^ k) 2, Nat.mod_mul_right_mod]
    rw [e]
  · rw [List.getElem?_eq_none (by simp; omega), List.getElem?_eq_none (by simp; omega)]
theorem numOf_append (A B : List Bool) : numOf (A ++ B) = numOf A * 2 ^ B.length + numOf B := by
  have := numOf_from B (numOf A)
  rw [← this, numOf, List.foldl_append]
  rfl
theorem pack_byte (v : Nat) (M : List Bool) : pack (bitsOf 8 v ++ M) = v % 256 :: pack M := by
  apply List.ext_getElem?
  intro i
  have h8 : (bitsOf 8 v).length = 8 := bitsOf_length 8 v
  cases i with
  | zero =>
    rw [pack_get _ _ (by simp; omega), List.getElem?_cons_zero]
    congr 1
    unfold byteAt
    have e : ((List.range 8).map fun k => (bitsOf 8 v ++ M).getD (8 * 0 + k) false) = bitsOf 8 v := by
      apply List.ext_getElem?
      intro k
      by_cases hk : k < 8
      · simp only [List.getElem?_map, List.getElem?_range hk, Option.map_some, Nat.mul_zero, Nat.zero_add]
        rw [List.getD_eq_getElem?_getD, List.getElem?_append_left (by omega), List.getElem?_eq_getElem (by omega)]
        rfl
      · rw [List.getElem?_eq_none (by simp; omega), List.getElem?_eq_none (by omega)]
    rw [e, numOf_bitsOf]
  | succ i =>
    rw [List.getElem?_cons_succ]
    by_cases hi : i < (M.length + 7) / 8
    · rw [pack_get _ _ (by simp; omega), pack_get _ _ hi]
      congr 1
    · rw [List.getElem?_eq_none (by simp; omega), List.getElem?_eq_none (by simp; omega)]
theorem pack_unpack (bs : List Nat) (h : ∀ x ∈ bs, x < 256) : pack (unpack bs) = bs := by
  induction bs with
  | nil => rfl
  | cons x bs ih =>
    have e : unpack (x :: bs) = bitsOf 8 x ++ unpack bs := rfl
    rw [e, pack_byte, ih (fun y hy => h y (List.mem_cons_of_mem _ hy)), Nat.mod_eq_of_lt (h x (List.mem_cons_self ..))]
theorem unpack_append (a b : List Nat) : unpack (a ++ b) = unpack a ++ unpack b := by simp [unpack]
/-- the four bytes of a stamp -/
def four (d m : Nat) : List Nat := [d / 256, d % 256, m / 8, m % 8 * 32]
theorem four_bits (d m : Nat) : bitsOf 16 d ++ (bitsOf 11 m ++ bitsOf 5 0) = unpack (four d m) := by
  have h1 : bitsOf 16 d = bitsOf 8 (d / 256) ++ bitsOf 8 (d % 256) := by
    rw [show (16 : Nat) = 8 + 8 from rfl, bitsOf_split 8 8 d]
    have := bitsOf_mod 8 d
    rw [show (2 : Nat) ^ 8 = 256 from rfl] at this ⊢
    rw [this]
  have h2 : bitsOf 11 m ++ bitsOf 5 0 = bitsOf 8 (m / 8) ++ bitsOf 8 (m % 8 * 32) := by
    have e1 : bitsOf 11 m = bitsOf 8 (m / 8) ++ bitsOf 3 m := bitsOf_split 8 3 m
    have e2 : bitsOf 8 (m % 8 * 32) = bitsOf 3 (m % 8) ++ bitsOf 5 0 := by
      rw [show (8 : Nat) = 3 + 5 from rfl, bitsOf_split 3 5]
      have e3 : m % (3 + 5) * 32 / 2 ^ 5 = m % 8 := by
        rw [show (2 : Nat) ^ 5 = 32 from rfl]; omega
      have e4 : bitsOf 5 (m % (3 + 5) * 32) = bitsOf 5 0 := by
        rw [← bitsOf_mod 5 (m % (3 + 5) * 32)]
        have : m % (3 + 5) * 32 % 2 ^ 5 = 0 := by rw [show (2 : Nat) ^ 5 = 32 from rfl]; omega
        rw [this]
      rw [e3, e4]
    have e5 : bitsOf 3 (m % 8) = bitsOf 3 m := bitsOf_mod 3 m
    rw [e1, e2, e5, List.append_assoc]
  rw [h1, h2]
  simp [four, unpack]
def sbytes (fd fm : Nat → Nat) : Nat → List Nat
  | 0 => []
  | n + 1 => sbytes fd fm n ++ four (fd n) (fm n)
theorem sbytes_length (fd fm : Nat → Nat) (n : Nat) : (sbytes fd fm n).length = 4 * n := by
  induction n with
  | zero => rfl
  | succ n ih => simp only [sbytes, List.length_append, ih, four, List.length_cons, List.length_nil]; omega
theorem sbytes_mem (fd fm : Nat → Nat) (n : Nat) (h : ∀ i, i < n → fd i < 65536 ∧ fm i < 2048) : ∀ x ∈ sbytes fd fm n, x < 256 := by
  induction n with
  | zero => simp [sbytes]
  | succ n ih =>
    intro x hx
    simp only [sbytes, List.mem_append] at hx
    rcases hx with hx | hx
    · exact ih (fun i hi => h i (by omega)) x hx
    · have := h n (by omega)
      simp only [four, List.mem_cons, List.not_mem_nil, or_false] at hx
      omega
/-- what is read at the j-th four bytes -/
def byt (bs : List Nat) (i : Nat) : Nat := bs.getD i 0
def dayOf (bs : List Nat) (j : Nat) : Nat := byt bs (4 * j) * 256 + byt bs (4 * j + 1)
def lowOf (bs : List Nat) (j : Nat) : Nat := byt bs (4 * j + 2) * 256 + byt bs (4 * j + 3)
theorem byt_lt (bs : List Nat) (h : ∀ x ∈ bs, x < 256) (i : Nat) : byt bs i < 256 := by
  unfold byt
  by_cases hi : i < bs.length
  · rw [List.getD_eq_getElem?_getD, List.getElem?_eq_getElem hi]
    exact h _ (List.getElem_mem hi)
  · rw [List.getD_eq_getElem?_getD, List.getElem?_eq_none (by omega)]
    simp
theorem unpack_drop (bs : List Nat) (k : Nat) : (unpack bs).drop (8 * k) = unpack (bs.drop k) := by
  induction bs generalizing k with
  | nil => simp [unpack]
  | cons x bs ih =>
    cases k with
    | zero => simp
    | succ k =>
      have e : unpack (x :: bs) = bitsOf 8 x ++ unpack bs := rfl
      rw [e, List.drop_succ_cons, ← ih, show 8 * (k + 1) = (bitsOf 8 x).length + 8 * k by rw [bitsOf_length]; omega, List.drop_length_add_append]
theorem drop_four (bs : List Nat) (j : Nat) (h : 4 * j + 4 ≤ bs.length) : ∃ R, bs.drop (4 * j) = byt bs (4 * j) :: byt bs (4 * j + 1) :: byt bs (4 * j + 2) :: byt bs (4 * j + 3) :: R := by
  have g : ∀ i, i < bs.length → byt bs i = bs[i]! := fun i hi => by simp [byt, hi]
  refine ⟨bs.drop (4 * j + 4), ?_⟩
  rw [List.drop_eq_getElem_cons (by omega), List.drop_eq_getElem_cons (by omega), List.drop_eq_getElem_cons (by omega), List.drop_eq_getElem_cons (by omega)]
  have e : ∀ i (hi : i < bs.length), bs[i] = byt bs i := fun i hi => by simp [byt, hi]
  rw [e, e, e, e]
theorem num_day (bs : List Nat) (h : ∀ x ∈ bs, x < 256) (j : Nat) (hj : 4 * j + 4 ≤ bs.length) : numAt bs (32 * j) 16 = dayOf bs j := by
  obtain ⟨R, hR⟩ := drop_four bs j hj
  have h0 := byt_lt bs h (4 * j)
  have h1 := byt_lt bs h (4 * j + 1)
  unfold numAt
  rw [show 32 * j = 8 * (4 * j) by omega, unpack_drop, hR]
  have e : unpack (byt bs (4 * j) :: byt bs (4 * j + 1) :: byt bs (4 * j + 2) :: byt bs (4 * j + 3) :: R) = (bitsOf 8 (byt bs (4 * j)) ++ bitsOf 8 (byt bs (4 * j + 1))) ++ unpack (byt bs (4 * j + 2) :: byt bs (4 * j + 3) :: R) := by simp [unpack]
  rw [e, List.take_append_of_le_length (by simp), List.take_of_length_le (by simp), numOf_append, numOf_bitsOf, numOf_bitsOf, bitsOf_length, dayOf]
  rw [show (2 : Nat) ^ 8 = 256 from rfl]
  omega
theorem num_min (bs : List Nat) (h : ∀ x ∈ bs, x < 256) (j : Nat) (hj : 4 * j + 4 ≤ bs.length) : numAt bs (32 * j + 16) 11 = lowOf bs j / 32 := by
  obtain ⟨R, hR⟩ := drop_four bs j hj
  have h2 := byt_lt bs h (4 * j + 2)
  have h3 := byt_lt bs h (4 * j + 3)
  unfold numAt
  rw [← List.drop_drop, show 32 * j = 8 * (4 * j) by omega, unpack_drop, hR]
  have e : unpack (byt bs (4 * j) :: byt bs (4 * j + 1) :: byt bs (4 * j + 2) :: byt bs (4 * j + 3) :: R) = (bitsOf 8 (byt bs (4 * j)) ++ bitsOf 8 (byt bs (4 * j + 1))) ++ ((bitsOf 8 (byt bs (4 * j + 2)) ++ bitsOf 3 (byt bs (4 * j + 3) / 32)) ++ (bitsOf 5 (byt bs (4 * j + 3)) ++ unpack R)) := by
    have := bitsOf_split 3 5 (byt bs (4 * j + 3))
    rw [show (2 : Nat) ^ 5 = 32 from rfl] at this
    simp only [unpack, List.flatMap_cons]
    rw [show (8 : Nat) = 3 + 5 from rfl] at *
    rw [this]
    simp
  rw [e, show 16 = (bitsOf 8 (byt bs (4 * j)) ++ bitsOf 8 (byt bs (4 * j + 1))).length by simp, List.drop_left, List.take_append_of_le_length (by simp), List.take_of_length_le (by simp), numOf_append, numOf_bitsOf, numOf_bitsOf, bitsOf_length, lowOf]
  rw [show (2 : Nat) ^ 8 = 256 from rfl, show (2 : Nat) ^ 3 = 8 from rfl]
  omega
theorem num_pad (bs : List Nat) (h : ∀ x ∈ bs, x < 256) (j : Nat) (hj : 4 * j + 4 ≤ bs.length) : numAt bs (32 * j + 27) 5 = lowOf bs j % 32 := by
  obtain ⟨R, hR⟩ := drop_four bs j hj
  have h2 := byt_lt bs h (4 * j + 2)
  have h3 := byt_lt bs h (4 * j + 3)
  unfold numAt
  rw [← List.drop_drop, show 32 * j = 8 * (4 * j) by omega, unpack_drop, hR]
  have e : unpack (byt bs (4 * j) :: byt bs (4 * j + 1) :: byt bs (4 * j + 2) :: byt bs (4 * j + 3) :: R) = (bitsOf 8 (byt bs (4 * j)) ++ bitsOf 8 (byt bs (4 * j + 1)) ++ bitsOf 8 (byt bs (4 * j + 2)) ++ bitsOf 3 (byt bs (4 * j + 3) / 32)) ++ (bitsOf 5 (byt bs (4 * j + 3)) ++ unpack R) := by
    have := bitsOf_split 3 5 (byt bs (4 * j + 3))
    rw [show (2 : Nat) ^ 5 = 32 from rfl] at this
    simp only [unpack, List.flatMap_cons]
    rw [show (8 : Nat) = 3 + 5 from rfl] at *
    rw [this]
    simp
  rw [e, show 27 = (bitsOf 8 (byt bs (4 * j)) ++ bitsOf 8 (byt bs (4 * j + 1)) ++ bitsOf 8 (byt bs (4 * j + 2)) ++ bitsOf 3 (byt bs (4 * j + 3) / 32)).length by simp, List.drop_left, List.take_append_of_le_length (by simp), List.take_of_length_le (by simp), numOf_bitsOf, lowOf]
  rw [show (2 : Nat) ^ 5 = 32 from rfl]
  omega
theorem four_back (bs : List Nat) (h : ∀ x ∈ bs, x < 256) (j : Nat) (hp : lowOf bs j % 32 = 0) : four (dayOf bs j) (lowOf bs j / 32) = [byt bs (4 * j), byt bs (4 * j + 1), byt bs (4 * j + 2), byt bs (4 * j + 3)] := by
  have h0 := byt_lt bs h (4 * j)
  have h1 := byt_lt bs h (4 * j + 1)
  have h2 := byt_lt bs h (4 * j + 2)
  have h3 := byt_lt bs h (4 * j + 3)
  unfold lowOf at hp ⊢
  unfold four dayOf
  have e1 : (byt bs (4 * j) * 256 + byt bs (4 * j + 1)) / 256 = byt bs (4 * j) := by clear hp h2 h3; omega
  have e2 : (byt bs (4 * j) * 256 + byt bs (4 * j + 1)) % 256 = byt bs (4 * j + 1) := by clear hp h2 h3; omega
  obtain ⟨x, hx⟩ : ∃ x, x = byt bs (4 * j + 2) := ⟨_, rfl⟩
  obtain ⟨y, hy⟩ : ∃ y, y = byt bs (4 * j + 3) := ⟨_, rfl⟩
  rw [e1, e2, ← hx, ← hy]
  rw [← hx, ← hy] at hp
  rw [← hy] at h3
  have hp2 : y % 32 = 0 := by rw [show x * 256 = 32 * (8 * x) by omega, Nat.mul_add_mod] at hp; exact hp
  clear hp h0 h1 h2 e1 e2 hx hy
  obtain ⟨q, hq⟩ : ∃ q, y = 32 * q := ⟨y / 32, by omega⟩
  have e5 : (x * 256 + y) / 32 = 8 * x + q := by omega
  have e3 : (x * 256 + y) / 32 / 8 = x := by rw [e5]; omega
  have e4 : (x * 256 + y) / 32 % 8 * 32 = y := by rw [e5]; omega
  rw [e3, e4]
theorem sbytes_back (bs : List Nat) (h : ∀ x ∈ bs, x < 256) (k : Nat) (hk : 4 * k ≤ bs.length) (hp : ∀ j, j < k → lowOf bs j % 32 = 0) : sbytes (dayOf bs) (fun j => lowOf bs j / 32) k = bs.take (4 * k) := by
  induction k with
  | zero => simp [sbytes]
  | succ k ih =>
    rw [sbytes, ih (by omega) (fun j hj => hp j (by omega)), four_back bs h k (hp k (by omega))]
    obtain ⟨R, hR⟩ := drop_four bs k (by omega)
    have e : bs = bs.take (4 * k) ++ bs.drop (4 * k) := (List.take_append_drop _ _).symm
    have hl : (bs.take (4 * k)).length = 4 * k := by simp; omega
    have e2 : bs.take (4 * (k + 1)) = (bs.take (4 * k) ++ bs.drop (4 * k)).take (4 * (k + 1)) := congrArg (List.take (4 * (k + 1))) e
    have e3 : 4 * (k + 1) - (bs.take (4 * k)).length = 4 := by omega
    have hh : bs.take (4 * (k + 1)) = bs.take (4 * k) ++ [byt bs (4 * k), byt bs (4 * k + 1), byt bs (4 * k + 2), byt bs (4 * k + 3)] := by
      rw [e2, hR, List.take_append, e3, List.take_of_length_le (l := bs.take (4 * k)) (by omega)]
      rfl
    exact hh.symm
end Go.Proofs.Ytcnnakidpnhecaa
