/-
  Plain mathematics of package lists' forms: bytes and their bits, a delta's bytes, what is read back.
-/
import Derived.Test.YtficopkjpdfilaaLiM
import Derived.Test.YtficopkjpdfilaaLB
namespace Go.Proofs.Ytficopkjpdfilaa
theorem unpack_app (a b : List Nat) : unpack (a ++ b) = unpack a ++ unpack b := by unfold unpack; rw [List.flatMap_append]
theorem unpack_len (a : List Nat) : (unpack a).length = 8 * a.length := by
  induction a with
  | nil => rfl
  | cons x a ih => rw [show x :: a = [x] ++ a from rfl, unpack_app, List.length_append, ih]; simp only [unpack, List.flatMap_cons, List.flatMap_nil, List.append_nil, bitsOf_length, List.length_append, List.length_cons, List.length_nil]; omega
theorem bitsOf_add (a b n : Nat) : bitsOf (a + b) n = bitsOf a (n / 2 ^ b) ++ bitsOf b n := by
  apply List.ext_getElem?
  intro k
  rcases Nat.lt_or_ge k a with h | h
  · rw [List.getElem?_append_left (by rw [bitsOf_length]; exact h), bitsOf_get _ _ _ (by omega), bitsOf_get _ _ _ h, Nat.div_div_eq_div_mul, ← Nat.pow_add]
    have e : a + b - 1 - k = b + (a - 1 - k) := by omega
    rw [e]
  · rw [List.getElem?_append_right (by rw [bitsOf_length]; exact h), bitsOf_length]
    rcases Nat.lt_or_ge k (a + b) with h2 | h2
    · rw [bitsOf_get _ _ _ h2, bitsOf_get _ _ _ (by omega)]
      have e : a + b - 1 - k = b - 1 - (k - a) := by omega
      rw [e]
    · rw [List.getElem?_eq_none (by rw [bitsOf_length]; exact h2), List.getElem?_eq_none (by rw [bitsOf_length]; omega)]
theorem bitsOf_mod (a n : Nat) : bitsOf a (n % 2 ^ a) = bitsOf a n := by
  apply List.ext_getElem?
  intro k
  rcases Nat.lt_or_ge k a with h | h
  · rw [bitsOf_get _ _ _ h, bitsOf_get _ _ _ h]
    have e : n % 2 ^ a / 2 ^ (a - 1 - k) % 2 = n / 2 ^ (a - 1 - k) % 2 := by
      have h1 : (2 : Nat) ^ a = 2 ^ (a - 1 - k) * (2 * 2 ^ k) := by
        rw [show a = (a - 1 - k) + (k + 1) by omega, Nat.pow_add, Nat.pow_succ]
        rw [show (a - 1 - k) + (k + 1) - 1 - k = a - 1 - k by omega, Nat.mul_comm (2 ^ k) 2]
      rw [h1, Nat.mod_mul_right_div_self, Nat.mod_mul_right_mod]
    rw [e]
  · rw [List.getElem?_eq_none (by rw [bitsOf_length]; exact h), List.getElem?_eq_none (by rw [bitsOf_length]; exact h)]
/-- a number's four bytes -/
def fourB (n : Nat) : List Nat := [n / 16777216 % 256, n / 65536 % 256, n / 256 % 256, n % 256]
theorem four_bits (n : Nat) : unpack (fourB n) = bitsOf 32 n := by
  have h1 : bitsOf 32 n = bitsOf 8 (n / 2 ^ 24) ++ (bitsOf 8 (n / 2 ^ 16) ++ (bitsOf 8 (n / 2 ^ 8) ++ bitsOf 8 n)) := by
    rw [show (32 : Nat) = 8 + 24 from rfl, bitsOf_add, show (24 : Nat) = 8 + 16 from rfl, bitsOf_add 8 16, show (16 : Nat) = 8 + 8 from rfl, bitsOf_add 8 8]
  rw [h1, ← bitsOf_mod 8 (n / 2 ^ 24), ← bitsOf_mod 8 (n / 2 ^ 16), ← bitsOf_mod 8 (n / 2 ^ 8), ← bitsOf_mod 8 n]
  simp only [unpack, fourB, List.flatMap_cons, List.flatMap_nil, List.append_nil]
theorem one_bits (n : Nat) (_h : n < 256) : unpack [n] = bitsOf 8 n := by simp [unpack]
theorem byteAt_cons (x : Nat) (L : List Bool) (i : Nat) : byteAt (bitsOf 8 x ++ L) (i + 1) = byteAt L i := by
  unfold byteAt
  congr 1
theorem byteAt_head (x : Nat) (L : List Bool) : byteAt (bitsOf 8 x ++ L) 0 = x % 256 := by
  have h := numOf_bitsOf 8 x
  rw [← h]
  unfold byteAt
  congr 1
theorem pack_cons (x : Nat) (L : List Bool) : pack (bitsOf 8 x ++ L) = x % 256 :: pack L := by
  unfold pack
  rw [List.length_append, bitsOf_length, show (8 + L.length + 7) / 8 = (L.length + 7) / 8 + 1 by omega, List.range_succ_eq_map, List.map_cons, List.map_map, byteAt_head]
  congr 1
theorem pack_unpack (bs : List Nat) (h : ∀ x ∈ bs, x < 256) : pack (unpack bs) = bs := by
  induction bs with
  | nil => rfl
  | cons x bs ih =>
    rw [show x :: bs = [x] ++ bs from rfl, unpack_app, show unpack [x] = bitsOf 8 x by simp [unpack], pack_cons, ih (fun y hy => h y (List.mem_cons_of_mem _ hy)), Nat.mod_eq_of_lt (h x (List.mem_cons_self ..))]
    rfl
theorem unpack_drop (bs : List Nat) : ∀ i : Nat, (unpack bs).drop (8 * i) = unpack (bs.drop i) := by
  induction bs with
  | nil => intro i; simp [unpack]
  | cons x bs ih =>
    intro i
    cases i with
    | zero => simp
    | succ i => exact ih i
/-- the number of four bytes at a place -/
def num4 (bs : List Nat) (j : Nat) : Nat := ((bs.getD j 0 * 256 + bs.getD (j + 1) 0) * 256 + bs.getD (j + 2) 0) * 256 + bs.getD (j + 3) 0
theorem drop_four (bs : List Nat) (j : Nat) (h : j + 4 ≤ bs.length) : bs.drop j = bs.getD j 0 :: bs.getD (j + 1) 0 :: bs.getD (j + 2) 0 :: bs.getD (j + 3) 0 :: bs.drop (j + 4) := by
  have e : ∀ k, k < bs.length → bs.drop k = bs.getD k 0 :: bs.drop (k + 1) := fun k hk => by
    rw [List.drop_eq_getElem_cons hk, List.getD_eq_getElem?_getD, List.getElem?_eq_getElem hk]; rfl
  rw [e j (by omega), e (j + 1) (by omega), e (j + 2) (by omega), e (j + 3) (by omega)]
theorem numAt_one (bs : List Nat) (j : Nat) (h : j < bs.length) (h256 : ∀ x ∈ bs, x < 256) : numAt bs (8 * j) 8 = bs.getD j 0 := by
  have e : bs.drop j = bs.getD j 0 :: bs.drop (j + 1) := by
    rw [List.drop_eq_getElem_cons h, List.getD_eq_getElem?_getD, List.getElem?_eq_getElem h]; rfl
  have hb : bs.getD j 0 < 256 := by rw [List.getD_eq_getElem?_getD, List.getElem?_eq_getElem h]; exact h256 _ (List.getElem_mem h)
  unfold numAt
  rw [unpack_drop, e, show bs.getD j 0 :: bs.drop (j + 1) = [bs.getD j 0] ++ bs.drop (j + 1) from rfl, unpack_app, one_bits _ hb, List.take_append_of_le_length (by rw [bitsOf_length]; omega), List.take_of_length_le (by rw [bitsOf_length]; omega), numOf_bitsOf, Nat.mod_eq_of_lt hb]
theorem num4_lt (bs : List Nat) (j : Nat) (h256 : ∀ x ∈ bs, x < 256) : num4 bs j < 4294967296 := by
  have e : ∀ k, bs.getD k 0 < 256 := fun k => by
    rw [List.getD_eq_getElem?_getD]
    rcases Nat.lt_or_ge k bs.length with hk | hk
    · rw [List.getElem?_eq_getElem hk]; exact h256 _ (List.getElem_mem hk)
    · rw [List.getElem?_eq_none hk]; decide
  have h0 := e j
  have h1 := e (j + 1)
  have h2 := e (j + 2)
  have h3 := e (j + 3)
  unfold num4
  omega
theorem four_num (a b c d : Nat) (ha : a < 256) (hb : b < 256) (hc : c < 256) (hd : d < 256) : fourB (((a * 256 + b) * 256 + c) * 256 + d) = [a, b, c, d] := by
  unfold fourB
  congr 1
  · omega
  · congr 1
    · omega
    · congr 1
      · omega
      · congr 1
        omega
theorem four_get (bs : List Nat) (j : Nat) (h256 : ∀ x ∈ bs, x < 256) : fourB (num4 bs j) = [bs.getD j 0, bs.getD (j + 1) 0, bs.getD (j + 2) 0, bs.getD (j + 3) 0] := by
  have e : ∀ k, bs.getD k 0 < 256 := fun k => by
    rw [List.getD_eq_getElem?_getD]
    rcases Nat.lt_or_ge k bs.length with hk | hk
    · rw [List.getElem?_eq_getElem hk]; exact h256 _ (List.getElem_mem hk)
    · rw [List.getElem?_eq_none hk]; decide
  exact four_num _ _ _ _ (e j) (e (j + 1)) (e (j + 2)) (e (j + 3))
theorem take_four (bs : List Nat) (j : Nat) (h : j + 4 ≤ bs.length) (h256 : ∀ x ∈ bs, x < 256) : bs.take (j + 4) = bs.take j ++ fourB (num4 bs j) := by
  have e := drop_four bs j h
  rw [four_get bs j h256]
  have h1 : bs.take (j + 4) = bs.take j ++ (bs.drop j).take 4 := by rw [← List.take_add]
  rw [h1, e]
  rfl
theorem numAt_four (bs : List Nat) (j : Nat) (h : j + 4 ≤ bs.length) (h256 : ∀ x ∈ bs, x < 256) : numAt bs (8 * j) 32 = num4 bs j := by
  unfold numAt
  rw [unpack_drop]
  have e : bs.drop j = fourB (num4 bs j) ++ bs.drop (j + 4) := by rw [four_get bs j h256]; exact drop_four bs j h
  rw [e, unpack_app, four_bits, List.take_append_of_le_length (by rw [bitsOf_length]; omega), List.take_of_length_le (by rw [bitsOf_length]; omega), numOf_bitsOf]
  exact Nat.mod_eq_of_lt (num4_lt bs j h256)
/-- an item's bytes -/
def itB (x : It) : List Nat := fourB x.c.toNat ++ (fourB x.o.toNat ++ (fourB x.i.toNat ++ (fourB x.n.toNat ++ fourB x.a.toNat)))
def itsB (xs : List It) : List Nat := xs.flatMap itB
theorem itsB_app (xs ys : List It) : itsB (xs ++ ys) = itsB xs ++ itsB ys := by unfold itsB; rw [List.flatMap_append]
theorem itsB_one (x : It) : itsB [x] = itB x := by simp [itsB]
theorem four_len (n : Nat) : (fourB n).length = 4 := rfl
theorem itB_len (x : It) : (itB x).length = 20 := rfl
theorem itsB_len (xs : List It) : (itsB xs).length = xs.length * 20 := by
  induction xs with
  | nil => rfl
  | cons x xs ih => rw [show x :: xs = [x] ++ xs from rfl, itsB_app, List.length_append, ih, itsB_one, itB_len]; simp only [List.length_append, List.length_cons, List.length_nil]; omega
theorem four_small (n : Nat) : ∀ x ∈ fourB n, x < 256 := by
  intro x hx
  simp only [fourB, List.mem_cons, List.not_mem_nil, or_false] at hx
  rcases hx with rfl | rfl | rfl | rfl <;> exact Nat.mod_lt _ (by decide)
theorem itB_small (y : It) : ∀ x ∈ itB y, x < 256 := by
  intro x hx
  simp only [itB, List.mem_append] at hx
  rcases hx with h | h | h | h | h <;> exact four_small _ x h
theorem itsB_small (ys : List It) : ∀ x ∈ itsB ys, x < 256 := by
  intro x hx
  unfold itsB at hx
  rw [List.mem_flatMap] at hx
  obtain ⟨y, _, hy⟩ := hx
  exact itB_small y x hy
/-- a delta's bytes -/
def delB (tv : Int) (add off : List It) : List Nat := fourB tv.toNat ++ ([add.length % 256, off.length % 256] ++ (itsB add ++ itsB off))
theorem delB_len (tv : Int) (add off : List It) : (delB tv add off).length = 6 + 20 * (add.length + off.length) := by
  unfold delB
  rw [List.length_append, List.length_append, List.length_append, itsB_len, itsB_len, four_len]
  simp only [List.length_cons, List.length_nil]
  omega
theorem delB_small (tv : Int) (add off : List It) : ∀ x ∈ delB tv add off, x < 256 := by
  intro x hx
  unfold delB at hx
  rw [List.mem_append, List.mem_append, List.mem_append] at hx
  rcases hx with h | h | h | h
  · exact four_small _ x h
  · simp only [List.mem_cons, List.not_mem_nil, or_false] at h
    rcases h with rfl | rfl <;> exact Nat.mod_lt _ (by decide)
  · exact itsB_small _ x h
  · exact itsB_small _ x h
/-- its numbers can be laid -/
def layB (x : It) : Bool := inB 0 2147483648 [x.c, x.o, x.i, x.n, x.a]
def putE (tv : Int) (add off : List It) : Int :=
  if !(inB 1 2147483647 [tv]) || !(add.all layB) || !(off.all layB) then 2 else if !(inB 0 64 [(add.length : Int), (off.length : Int)]) then 11 else 0
/-- the item at a place of the bytes -/
def getIt (bs : List Nat) (j : Nat) : It := ⟨num4 bs j, num4 bs (j + 4), num4 bs (j + 8), num4 bs (j + 12), num4 bs (j + 16)⟩
def getIts (bs : List Nat) (j : Nat) : Nat → List It
  | 0 => []
  | n + 1 => getIts bs j n ++ [getIt bs (j + 20 * n)]
theorem getIts_len (bs : List Nat) (j n : Nat) : (getIts bs j n).length = n := by
  induction n with
  | zero => rfl
  | succ n ih => simp only [getIts, List.length_append, ih, List.length_cons, List.length_nil]
theorem getIts_add (bs : List Nat) (j n m : Nat) : getIts bs j (n + m) = getIts bs j n ++ getIts bs (j + 20 * n) m := by
  induction m with
  | zero => simp [getIts]
  | succ m ih =>
    rw [← Nat.add_assoc]
    simp only [getIts]
    rw [ih, List.append_assoc, show j + 20 * (n + m) = j + 20 * n + 20 * m by omega]
def getE (bs : List Nat) : Int :=
  if bs.length < 6 then 10
  else if !(inB 1 2147483647 [(num4 bs 0 : Int)]) || !(inB 0 64 [(bs.getD 4 0 : Int), (bs.getD 5 0 : Int)]) then 12
  else if bs.length < 6 + 20 * (bs.getD 4 0 + bs.getD 5 0) then 10
  else if 6 + 20 * (bs.getD 4 0 + bs.getD 5 0) < bs.length then 14
  else if !((getIts bs 6 (bs.getD 4 0 + bs.getD 5 0)).all layB) then 12 else 0
end Go.Proofs.Ytficopkjpdfilaa
