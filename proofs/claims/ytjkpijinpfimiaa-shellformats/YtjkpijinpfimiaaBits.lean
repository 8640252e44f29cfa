/-
  Plain mathematics of bit fields: numbers as bits, bits as bytes, and back.
-/
import Derived.Laws.BitsAllLaws
import Derived.Laws.BitsLemmas
import Derived.IntWalk
namespace Go.Proofs.Ytjkpijinpfimiaa
def bitsOf : Nat → Nat → List Bool
  | 0, _ => []
  | n + 1, v => (v / 2 ^ n % 2 == 1) :: bitsOf n v
def numOf (l : List Bool) : Nat := l.foldl (fun n b => 2 * n + b.toNat) 0
def unpack (bs : List Nat) : List Bool := bs.flatMap (bitsOf 8)
def byteAt (L : List Bool) (i : Nat) : Nat := numOf ((List.range 8).map fun k => L.getD (8 * i + k) false)
def pack (L : List Bool) : List Nat := (List.range ((L.length + 7) / 8)).map (byteAt L)

@[simp] theorem bitsOf_length : ∀ n v, (bitsOf n v).length = n
  | 0, _ => rfl
  | n + 1, v => by simp [bitsOf, bitsOf_length n v]
theorem numOf_snoc (l : List Bool) (b : Bool) : numOf (l ++ [b]) = 2 * numOf l + b.toNat := by simp [numOf, List.foldl_append]
theorem numOf_from (l : List Bool) : ∀ a : Nat, l.foldl (fun n b => 2 * n + b.toNat) a = a * 2 ^ l.length + numOf l := by
  induction l with
  | nil => intro a; simp [numOf]
  | cons b l ih =>
    intro a
    have h0 := ih (2 * 0 + b.toNat)
    simp only [List.foldl_cons, List.length_cons, numOf] at ih h0 ⊢
    rw [ih, h0]
    rw [Nat.pow_succ, Nat.add_mul, Nat.mul_comm 2 a, Nat.mul_assoc, Nat.mul_comm 2 (2 ^ l.length)]
    simp [Nat.add_assoc]
theorem numOf_cons (b : Bool) (l : List Bool) : numOf (b :: l) = b.toNat * 2 ^ l.length + numOf l := by
  have := numOf_from l (2 * 0 + b.toNat)
  simpa [numOf] using this
theorem numOf_lt (l : List Bool) : numOf l < 2 ^ l.length := by
  induction l with
  | nil => simp [numOf]
  | cons b l ih =>
    rw [numOf_cons, List.length_cons, Nat.pow_succ]
    cases b <;> simp <;> omega
theorem numOf_bitsOf : ∀ n v, numOf (bitsOf n v) = v % 2 ^ n
  | 0, v => by simp [bitsOf, numOf, Nat.mod_one]
  | n + 1, v => by
    rw [bitsOf, numOf_cons, numOf_bitsOf n v, bitsOf_length, Nat.pow_succ, Nat.mod_mul]
    have : v / 2 ^ n % 2 = 0 ∨ v / 2 ^ n % 2 = 1 := by omega
    rcases this with h | h <;> simp [h] <;> omega
theorem bitsOf_get (n v k : Nat) (h : k < n) : (bitsOf n v)[k]? = some (v / 2 ^ (n - 1 - k) % 2 == 1) := by
  induction n generalizing k with
  | zero => omega
  | succ n ih =>
    cases k with
    | zero => simp [bitsOf]
    | succ k =>
      have := ih k (by omega)
      simp only [bitsOf, List.getElem?_cons_succ]
      rw [this]
      have e : n + 1 - 1 - (k + 1) = n - 1 - k := by omega
      rw [e]
@[simp] theorem unpack_length (bs : List Nat) : (unpack bs).length = 8 * bs.length := by
  induction bs with
  | nil => rfl
  | cons x bs ih => simp only [unpack, List.flatMap_cons, List.length_append, bitsOf_length, List.length_cons] at ih ⊢; omega
theorem unpack_get (bs : List Nat) (p : Nat) (h : p < 8 * bs.length) : (unpack bs)[p]? = some (bs.getD (p / 8) 0 / 2 ^ (7 - p % 8) % 2 == 1) := by
  induction bs generalizing p with
  | nil => simp at h
  | cons x bs ih =>
    simp only [unpack, List.flatMap_cons] at ih ⊢
    by_cases hp : p < 8
    · rw [List.getElem?_append_left (by simpa using hp), bitsOf_get 8 x p hp]
      have e1 : p / 8 = 0 := by omega
      have e2 : p % 8 = p := by omega
      rw [e1, e2]; simp
    · rw [List.getElem?_append_right (by simp; omega), bitsOf_length, ih (p - 8) (by simp at h; omega)]
      have e1 : p / 8 = (p - 8) / 8 + 1 := by omega
      have e2 : (p - 8) % 8 = p % 8 := by omega
      rw [e1, e2]; simp
theorem numOf8 (f : Nat → Bool) : numOf ((List.range 8).map f) = 128 * (f 0).toNat + 64 * (f 1).toNat + 32 * (f 2).toNat + 16 * (f 3).toNat + 8 * (f 4).toNat + 4 * (f 5).toNat + 2 * (f 6).toNat + (f 7).toNat := by
  have : List.range 8 = [0, 1, 2, 3, 4, 5, 6, 7] := by decide
  rw [this]; simp only [List.map, numOf, List.foldl]; omega
theorem byteAt_lt (L : List Bool) (i : Nat) : byteAt L i < 256 := by
  have := numOf_lt ((List.range 8).map fun k => L.getD (8 * i + k) false)
  simpa [byteAt] using this
@[simp] theorem pack_length (L : List Bool) : (pack L).length = (L.length + 7) / 8 := by simp [pack]
theorem pack_get (L : List Bool) (i : Nat) (h : i < (L.length + 7) / 8) : (pack L)[i]? = some (byteAt L i) := by
  simp [pack, h]
theorem pack_getD (L : List Bool) (i : Nat) : (pack L).getD i 0 = byteAt L i := by
  by_cases h : i < (L.length + 7) / 8
  · simp [List.getD, pack_get L i h]
  · have : (pack L)[i]? = none := by rw [List.getElem?_eq_none]; simp; omega
    rw [List.getD_eq_getElem?_getD, this, byteAt, numOf8]
    have hz : ∀ k, L.getD (8 * i + k) false = false := fun k => by
      rw [List.getD_eq_getElem?_getD, List.getElem?_eq_none (by omega)]; rfl
    simp only [hz]; rfl
theorem pack_mem (L : List Bool) : ∀ x ∈ pack L, x < 256 := by
  intro x hx
  simp only [pack, List.mem_map] at hx
  obtain ⟨i, _, rfl⟩ := hx
  exact byteAt_lt L i
theorem getD_snoc_ne (L : List Bool) (x : Bool) (j : Nat) (h : j ≠ L.length) : (L ++ [x]).getD j false = L.getD j false := by
  simp only [List.getD_eq_getElem?_getD]
  by_cases hj : j < L.length
  · rw [List.getElem?_append_left hj]
  · rw [List.getElem?_eq_none (by simp; omega), List.getElem?_eq_none (by omega)]
theorem getD_snoc_eq (L : List Bool) (x : Bool) : (L ++ [x]).getD L.length false = x := by
  simp [List.getD_eq_getElem?_getD]
theorem getD_past (L : List Bool) (j : Nat) (h : L.length ≤ j) : L.getD j false = false := by
  rw [List.getD_eq_getElem?_getD, List.getElem?_eq_none h]; rfl
theorem byteAt_snoc_false (L : List Bool) (i : Nat) : byteAt (L ++ [false]) i = byteAt L i := by
  unfold byteAt
  congr 1
  apply List.map_congr_left
  intro k _
  by_cases h : 8 * i + k = L.length
  · rw [h, getD_snoc_eq, getD_past _ _ (Nat.le_refl _)]
  · exact getD_snoc_ne L false _ h
theorem byteAt_snoc_other (L : List Bool) (x : Bool) (i : Nat) (h : i ≠ L.length / 8) : byteAt (L ++ [x]) i = byteAt L i := by
  unfold byteAt
  congr 1
  apply List.map_congr_left
  intro k hk
  have hk : k < 8 := by simpa using hk
  exact getD_snoc_ne L x _ (by omega)
theorem or_bit (k : Nat) (hk : k < 8) (a b c d e f g h : Bool) (h0 : k ≤ 0 → a = false) (h1 : k ≤ 1 → b = false) (h2 : k ≤ 2 → c = false) (h3 : k ≤ 3 → d = false) (h4 : k ≤ 4 → e = false) (h5 : k ≤ 5 → f = false) (h6 : k ≤ 6 → g = false) (h7 : k ≤ 7 → h = false) :
    128 * (if 0 = k then true else a).toNat + 64 * (if 1 = k then true else b).toNat + 32 * (if 2 = k then true else c).toNat + 16 * (if 3 = k then true else d).toNat + 8 * (if 4 = k then true else e).toNat + 4 * (if 5 = k then true else f).toNat + 2 * (if 6 = k then true else g).toNat + (if 7 = k then true else h).toNat =
    (128 * a.toNat + 64 * b.toNat + 32 * c.toNat + 16 * d.toNat + 8 * e.toNat + 4 * f.toNat + 2 * g.toNat + h.toNat) ||| (128 / 2 ^ k) := by
  have hh : k = 0 ∨ k = 1 ∨ k = 2 ∨ k = 3 ∨ k = 4 ∨ k = 5 ∨ k = 6 ∨ k = 7 := by omega
  rcases hh with rfl | rfl | rfl | rfl | rfl | rfl | rfl | rfl
  · rw [h0 (by omega), h1 (by omega), h2 (by omega), h3 (by omega), h4 (by omega), h5 (by omega), h6 (by omega), h7 (by omega)]; decide
  · rw [h1 (by omega), h2 (by omega), h3 (by omega), h4 (by omega), h5 (by omega), h6 (by omega), h7 (by omega)]; clear h0 h1 h2 h3 h4 h5 h6 h7; revert a; decide
  · rw [h2 (by omega), h3 (by omega), h4 (by omega), h5 (by omega), h6 (by omega), h7 (by omega)]; clear h0 h1 h2 h3 h4 h5 h6 h7; revert a b; decide
  · rw [h3 (by omega), h4 (by omega), h5 (by omega), h6 (by omega), h7 (by omega)]; clear h0 h1 h2 h3 h4 h5 h6 h7; revert a b c; decide
  · rw [h4 (by omega), h5 (by omega), h6 (by omega), h7 (by omega)]; clear h0 h1 h2 h3 h4 h5 h6 h7; revert a b c d; decide
  · rw [h5 (by omega), h6 (by omega), h7 (by omega)]; clear h0 h1 h2 h3 h4 h5 h6 h7; revert a b c d e; decide
  · rw [h6 (by omega), h7 (by omega)]; clear h0 h1 h2 h3 h4 h5 h6 h7; revert a b c d e f; decide
  · rw [h7 (by omega)]; clear h0 h1 h2 h3 h4 h5 h6 h7; revert a b c d e f g; decide
theorem byteAt_snoc_true (L : List Bool) : byteAt (L ++ [true]) (L.length / 8) = byteAt L (L.length / 8) ||| 128 / 2 ^ (L.length % 8) := by
  unfold byteAt
  rw [numOf8, numOf8]
  have e : ∀ k, k < 8 → (L ++ [true]).getD (8 * (L.length / 8) + k) false = if k = L.length % 8 then true else L.getD (8 * (L.length / 8) + k) false := by
    intro k hk
    by_cases h : k = L.length % 8
    · rw [if_pos h]
      have : 8 * (L.length / 8) + k = L.length := by omega
      rw [this, getD_snoc_eq]
    · rw [if_neg h]; exact getD_snoc_ne L true _ (by omega)
  have z : ∀ k, L.length % 8 ≤ k → L.getD (8 * (L.length / 8) + k) false = false := fun k hk => getD_past L _ (by omega)
  rw [e 0 (by omega), e 1 (by omega), e 2 (by omega), e 3 (by omega), e 4 (by omega), e 5 (by omega), e 6 (by omega), e 7 (by omega)]
  exact or_bit (L.length % 8) (by omega) _ _ _ _ _ _ _ _ (z 0) (z 1) (z 2) (z 3) (z 4) (z 5) (z 6) (z 7)
theorem pack_false_new (L : List Bool) (h : L.length % 8 = 0) : pack (L ++ [false]) = pack L ++ [0] := by
  apply List.ext_getElem?
  intro i
  by_cases hi : i < (L.length + 7) / 8
  · rw [pack_get _ _ (by simp; omega), List.getElem?_append_left (by simpa using hi), pack_get _ _ hi, byteAt_snoc_false]
  · by_cases hi2 : i = (L.length + 7) / 8
    · rw [pack_get _ _ (by simp; omega), List.getElem?_append_right (by simp; omega), byteAt_snoc_false, ← pack_getD, List.getD_eq_getElem?_getD, List.getElem?_eq_none (by simp; omega)]
      simp [hi2]
    · rw [List.getElem?_eq_none (by simp; omega), List.getElem?_eq_none (by simp; omega)]
theorem pack_false_old (L : List Bool) (h : L.length % 8 ≠ 0) : pack (L ++ [false]) = pack L := by
  apply List.ext_getElem?
  intro i
  by_cases hi : i < (L.length + 7) / 8
  · rw [pack_get _ _ (by simp; omega), pack_get _ _ hi, byteAt_snoc_false]
  · rw [List.getElem?_eq_none (by simp; omega), List.getElem?_eq_none (by simp; omega)]
theorem pack_true (L : List Bool) : pack (L ++ [true]) = (pack (L ++ [false])).set (L.length / 8) (byteAt L (L.length / 8) ||| 128 / 2 ^ (L.length % 8)) := by
  apply List.ext_getElem?
  intro i
  rw [List.getElem?_set]
  by_cases hi : i < (L.length + 8) / 8
  · rw [pack_get _ _ (by simp; omega), pack_get _ _ (by simp; omega)]
    by_cases h2 : L.length / 8 = i
    · rw [if_pos h2, if_pos (by simp; omega), ← h2, byteAt_snoc_true]
    · rw [if_neg h2, byteAt_snoc_false, byteAt_snoc_other L true i (by omega)]
  · rw [List.getElem?_eq_none (by simp; omega), if_neg (by omega), List.getElem?_eq_none (by simp; omega)]
theorem bit8 : ∀ (k : Nat) (_ : k < 8) (a b c d e f g h : Bool), ((128 * a.toNat + 64 * b.toNat + 32 * c.toNat + 16 * d.toNat + 8 * e.toNat + 4 * f.toNat + 2 * g.toNat + h.toNat) / 2 ^ (7 - k) % 2 == 1) =
    (if k = 0 then a else if k = 1 then b else if k = 2 then c else if k = 3 then d else if k = 4 then e else if k = 5 then f else if k = 6 then g else h) := by decide
theorem byteAt_bit (L : List Bool) (i k : Nat) (hk : k < 8) : (byteAt L i / 2 ^ (7 - k) % 2 == 1) = L.getD (8 * i + k) false := by
  unfold byteAt
  rw [numOf8, bit8 k hk]
  match k, hk with
  | 0, _ => rfl
  | 1, _ => rfl
  | 2, _ => rfl
  | 3, _ => rfl
  | 4, _ => rfl
  | 5, _ => rfl
  | 6, _ => rfl
  | 7, _ => rfl
theorem unpack_pack_get (L : List Bool) (p : Nat) (h : p < L.length) : (unpack (pack L))[p]? = L[p]? := by
  rw [unpack_get _ _ (by simp; omega), pack_getD, byteAt_bit _ _ _ (by omega)]
  have : 8 * (p / 8) + p % 8 = p := by omega
  rw [this, List.getD_eq_getElem?_getD, List.getElem?_eq_getElem h]
  rfl
theorem unpack_pack_take (L : List Bool) : (unpack (pack L)).take L.length = L := by
  apply List.ext_getElem?
  intro p
  by_cases h : p < L.length
  · rw [List.getElem?_take_of_lt h, unpack_pack_get L p h]
  · rw [List.getElem?_eq_none (by simp; omega), List.getElem?_eq_none (by omega)]
/-- the number in the next bits of bytes -/
def numAt (bs : List Nat) (at_ n : Nat) : Nat := numOf (((unpack bs).drop at_).take n)
theorem numAt_succ (bs : List Nat) (at_ n : Nat) (h : at_ + n < 8 * bs.length) : numAt bs at_ (n + 1) = 2 * numAt bs at_ n + (bs.getD ((at_ + n) / 8) 0 / 2 ^ (7 - (at_ + n) % 8) % 2 == 1).toNat := by
  unfold numAt
  rw [← numOf_snoc]
  congr 1
  have hg := unpack_get bs (at_ + n) h
  rw [List.take_add_one, List.getElem?_drop, hg]
  rfl
theorem numAt_zero (bs : List Nat) (at_ : Nat) : numAt bs at_ 0 = 0 := by simp [numAt, numOf]
theorem numAt_lt (bs : List Nat) (at_ n : Nat) : numAt bs at_ n < 2 ^ n := by
  have h := numOf_lt (((unpack bs).drop at_).take n)
  have : (((unpack bs).drop at_).take n).length ≤ n := List.length_take_le _ _
  exact Nat.lt_of_lt_of_le h (Nat.pow_le_pow_right (by omega) this)
theorem mask_cast (q : Nat) : (128 : Int) / 2 ^ (q % 8) = ((128 / 2 ^ (q % 8) : Nat) : Int) := by simp
theorem mask_pow (k : Nat) (h : k < 8) : 128 / 2 ^ k = 2 ^ (7 - k) := by
  have hh : k = 0 ∨ k = 1 ∨ k = 2 ∨ k = 3 ∨ k = 4 ∨ k = 5 ∨ k = 6 ∨ k = 7 := by omega
  rcases hh with rfl | rfl | rfl | rfl | rfl | rfl | rfl | rfl <;> decide
theorem mask_lt (q : Nat) : 128 / 2 ^ (q % 8) < 256 := Nat.lt_of_le_of_lt (Nat.div_le_self _ _) (by omega)
theorem bit_test (x q : Nat) (hx : x < 256) : (bits BinOp.and IntKind.u8 (x : Int) (128 / 2 ^ (q % 8)) != 0) = (x / 2 ^ (7 - q % 8) % 2 == 1) := by
  rw [mask_cast, u8_and_nat x _ hx (mask_lt q), mask_pow _ (by omega), nat_bit]
  have hp : 0 < 2 ^ (7 - q % 8) := Nat.two_pow_pos _
  have : x / 2 ^ (7 - q % 8) % 2 = 0 ∨ x / 2 ^ (7 - q % 8) % 2 = 1 := by omega
  rcases this with h | h <;> rw [h]
  · simp
  · rw [Bool.eq_iff_iff]; simp; intro h0; exact absurd h0 (by
      have := Int.natCast_pos.2 hp
      push_cast at this
      omega)
theorem or_one (n : Nat) (h : n < 2147483648) : bits BinOp.or IntKind.i64 ((n : Int) * 2) 1 = ((2 * n + 1 : Nat) : Int) := by
  rw [bits_join .i64 62 (by decide) (fun n h0 h1 => IntWalk.i64_in n (by omega)) 1 _ _ (by omega) (by omega) (by omega) (by omega) (by omega) (by omega)]
  push_cast; omega
theorem and_one (v pl : Nat) (h : v < 4294967296) : (bits BinOp.and IntKind.i64 ((v : Int) / 2 ^ pl) 1 == 1) = (v / 2 ^ pl % 2 == 1) := by
  have e : (v : Int) / 2 ^ pl = ((v / 2 ^ pl : Nat) : Int) := by simp
  have hle : v / 2 ^ pl ≤ v := Nat.div_le_self _ _
  rw [e]
  obtain ⟨q, hq⟩ : ∃ q, q = v / 2 ^ pl := ⟨_, rfl⟩
  rw [← hq] at hle ⊢
  have hm := bits_mask .i64 62 (by decide) (fun n h0 h1 => IntWalk.i64_in n (by omega)) 1 (by decide) (q : Int) (by omega) (by omega)
  have : (2 : Int) ^ 1 - 1 = 1 := rfl
  rw [this] at hm
  rw [hm, Bool.eq_iff_iff]
  simp only [beq_iff_eq]
  omega
end Go.Proofs.Ytjkpijinpfimiaa
