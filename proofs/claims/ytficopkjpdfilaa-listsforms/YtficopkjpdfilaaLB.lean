/-
  Plain mathematics of bit fields: numbers as bits, bits as bytes, and back.
-/
import Derived.Laws.BitsAllLaws
import Derived.Laws.BitsLemmas
import Derived.IntWalk
import Derived.Test.YtficopkjpdfilaaRows
import Derived.Test.YtficopkjpdfilaaSizes
import Derived.Test.YtficopkjpdfilaaRowW
import Derived.WalkKit
import Derived.WalkSpells
import Derived.WalkLawsBesides
import Derived.BigQuiet
import Derived.Deep.QuietTactic
import Derived.Lib.Hide
import Derived.Deep.DeepCutAuto
import Derived.Deep.RegionWith
import Derived.Deep.LoopGhost
import Derived.StillTailTactics
import Derived.Laws.BytesArg
namespace Go.Proofs.Ytficopkjpdfilaa
def bitsOf : Nat → Nat → List Bool
  | 0, _ => []
  | n + 1, v => (v / 2 ^ n % 2 == 1) :: bitsOf n v
def numOf (l : List Bool) : Nat := l.foldl (fun n b => 2 * n + b.toNat) 0
def unpack (bs : List Nat) : List Bool := bs.flatMap (bitsOf 8)
def byteAt (L : List Bool) (i : Nat) : Nat := numOf ((List.range 8).map fun k => L.getD (8 * i + k) false)
def pack (L : List Bool) : List Nat := (List.range ((L.length + 7) / 8)).map (byteAt L)

@[simp] theorem bitsOf_length : ∀ n v, (bitsOf n v).length = n
  | 0, _ => rfl
  | n + 1, v => by simp [bitsOf, bitsOf_length n v]
theorem numOf_snoc (l : List Bool) (b : Bool) : numOf (l ++ [b]) = 2 * numOf l + b.toNat := by simp [numOf, List.foldl_append]
theorem numOf_from (l : List Bool) : ∀ a : Nat, l.foldl (fun n b => 2 * n + b.toNat) a = a * 2 ^ l.length + numOf l := by
  induction l with
  | nil => intro a; simp [numOf]
  | cons b l ih =>
    intro a
    have h0 := ih (2 * 0 + b.toNat)
    simp only [List.foldl_cons, List.length_cons, numOf] at ih h0 ⊢
    rw [ih, h0]
    rw [Nat.pow_succ, Nat.add_mul, Nat.mul_comm 2 a, Nat.mul_assoc, Nat.mul_comm 2 (2 ^ l.length)]
    simp [Nat.add_assoc]
theorem numOf_cons (b : Bool) (l : List Bool) : numOf (b :: l) = b.toNat * 2 ^ l.length + numOf l := by
  have := numOf_from l (2 * 0 + b.toNat)
  simpa [numOf] using this
theorem numOf_lt (l : List Bool) : numOf l < 2 ^ l.length := by
  induction l with
  | nil => simp [numOf]
  | cons b l ih =>
    rw [numOf_cons, List.length_cons, Nat.pow_succ]
    cases b <;> simp <;> omega
theorem numOf_bitsOf : ∀ n v, numOf (bitsOf n v) = v % 2 ^ n
  | 0, v => by simp [bitsOf, numOf, Nat.mod_one]
  | n + 1, v => by
    rw [bitsOf, numOf_cons, numOf_bitsOf n v, bitsOf_length, Nat.pow_succ, Nat.mod_mul]
    have : v / 2 ^ n % 2 = 0 ∨ v / 2 ^ n % 2 = 1 := by omega
    rcases this with h | h <;> simp [h] <;> omega
theorem bitsOf_get (n v k : Nat) (h : k < n) : (bitsOf n v)[k]? = some (v / 2 ^ (n - 1 - k) % 2 == 1) := by
  induction n generalizing k with
  | zero => omega
  | succ n ih =>
    cases k with
    | zero => simp [bitsOf]
    | succ k =>
      have := ih k (by omega)
      simp only [bitsOf, List.getElem?_cons_succ]
      rw [this]
      have e : n + 1 - 1 - (k + 1) = n - 1 - k := by omega
      rw [e]
@[simp] theorem unpack_length (bs : List Nat) : (unpack bs).length = 8 * bs.length := by
  induction bs with
  | nil => rfl
  | cons x bs ih => simp only [unpack, List.flatMap_cons, List.length_append, bitsOf_length, List.length_cons] at ih ⊢; omega
theorem unpack_get (bs : List Nat) (p : Nat) (h : p < 8 * bs.length) : (unpack bs)[p]? = some (bs.getD (p / 8) 0 / 2 ^ (7 - p % 8) % 2 == 1) := by
  induction bs generalizing p with
  | nil => simp at h
  | cons x bs ih =>
    simp only [unpack, List.flatMap_cons] at ih ⊢
    by_cases hp : p < 8
    · rw [List.getElem?_append_left (by simpa using hp), bitsOf_get 8 x p hp]
      have e1 : p / 8 = 0 := by omega
      have e2 : p % 8 = p := by omega
      rw [e1, e2]; simp
    · rw [List.getElem?_append_right (by simp; omega), bitsOf_length, ih (p - 8) (by simp at h; omega)]
      have e1 : p / 8 = (p - 8) / 8 + 1 := by omega
      have e2 : (p - 8) % 8 = p % 8 := by omega
      rw [e1, e2]; simp
theorem numOf8 (f : Nat → Bool) : numOf ((List.range 8).map f) = 128 * (f 0).toNat + 64 * (f 1).toNat + 32 * (f 2).toNat + 16 * (f 3).toNat + 8 * (f 4).toNat + 4 * (f 5).toNat + 2 * (f 6).toNat + (f 7).toNat := by
  have : List.range 8 = [0, 1, 2, 3, 4, 5, 6, 7] := by decide
  rw [this]; simp only [List.map, numOf, List.foldl]; omega
theorem byteAt_lt (L : List Bool) (i : Nat) : byteAt L i < 256 := by
  have := numOf_lt ((List.range 8).map fun k => L.getD (8 * i + k) false)
  simpa [byteAt] using this
@[simp] theorem pack_length (L : List Bool) : (pack L).length = (L.length + 7) / 8 := by simp [pack]
theorem pack_get (L : List Bool) (i : Nat) (h : i < (L.length + 7) / 8) : (pack L)[i]? = some (byteAt L i) := by
  simp [pack, h]
theorem pack_getD (L : List Bool) (i : Nat) : (pack L).getD i 0 = byteAt L i := by
  by_cases h : i < (L.length + 7) / 8
  · simp [List.getD, pack_get L i h]
  · have : (pack L)[i]? = none := by rw [List.getElem?_eq_none]; simp; omega
    rw [List.getD_eq_getElem?_getD, this, byteAt, numOf8]
    have hz : ∀ k, L.getD (8 * i + k) false = false := fun k => by
      rw [List.getD_eq_getElem?_getD, List.getElem?_eq_none (by omega)]; rfl
    simp only [hz]; rfl
theorem pack_mem (L : List Bool) : ∀ x ∈ pack L, x < 256 := by
  intro x hx
  simp only [pack, List.mem_map] at hx
  obtain ⟨i, _, rfl⟩ := hx
  exact byteAt_lt L i
theorem getD_snoc_ne (L : List Bool) (x : Bool) (j : Nat) (h : j ≠ L.length) : (L ++ [x]).getD j false = L.getD j false := by
  simp only [List.getD_eq_getElem?_getD]
  by_cases hj : j < L.length
  · rw [List.getElem?_append_left hj]
  · rw [List.getElem?_eq_none (by simp; omega), List.getElem?_eq_none (by omega)]
theorem getD_snoc_eq (L : List Bool) (x : Bool) : (L ++ [x]).getD L.length false = x := by
  simp [List.getD_eq_getElem?_getD]
theorem getD_past (L : List Bool) (j : Nat) (h : L.length ≤ j) : L.getD j false = false := by
  rw [List.getD_eq_getElem?_getD, List.getElem?_eq_none h]; rfl
theorem byteAt_snoc_false (L : List Bool) (i : Nat) : byteAt (L ++ [false]) i = byteAt L i := by
  unfold byteAt
  congr 1
  apply List.map_congr_left
  intro k _
  by_cases h : 8 * i + k = L.length
  · rw [h, getD_snoc_eq, getD_past _ _ (Nat.le_refl _)]
  · exact getD_snoc_ne L false _ h
theorem byteAt_snoc_other (L : List Bool) (x : Bool) (i : Nat) (h : i ≠ L.length / 8) : byteAt (L ++ [x]) i = byteAt L i := by
  unfold byteAt
  congr 1
  apply List.map_congr_left
  intro k hk
  have hk : k < 8 := by simpa using hk
  exact getD_snoc_ne L x _ (by omega)
theorem or_bit (k : Nat) (hk : k < 8) (a b c d e f g h : Bool) (h0 : k ≤ 0 → a = false) (h1 : k ≤ 1 → b = false) (h2 : k ≤ 2 → c = false) (h3 : k ≤ 3 → d = false) (h4 : k ≤ 4 → e = false) (h5 : k ≤ 5 → f = false) (h6 : k ≤ 6 → g = false) (h7 : k ≤ 7 → h = false) :
    128 * (if 0 = k then true else a).toNat + 64 * (if 1 = k then true else b).toNat + 32 * (if 2 = k then true else c).toNat + 16 * (if 3 = k then true else d).toNat + 8 * (if 4 = k then true else e).toNat + 4 * (if 5 = k then true else f).toNat + 2 * (if 6 = k then true else g).toNat + (if 7 = k then true else h).toNat =
    (128 * a.toNat + 64 * b.toNat + 32 * c.toNat + 16 * d.toNat + 8 * e.toNat + 4 * f.toNat + 2 * g.toNat + h.toNat) ||| (128 / 2 ^ k) := by
  have hh : k = 0 ∨ k = 1 ∨ k = 2 ∨ k = 3 ∨ k = 4 ∨ k = 5 ∨ k = 6 ∨ k = 7 := by omega
  rcases hh with rfl | rfl | rfl | rfl | rfl | rfl | rfl | rfl
  · rw [h0 (by omega), h1 (by omega), h2 (by omega), h3 (by omega), h4 (by omega), h5 (by omega), h6 (by omega), h7 (by omega)]; decide
  · rw [h1 (by omega), h2 (by omega), h3 (by omega), h4 (by omega), h5 (by omega), h6 (by omega), h7 (by omega)]; clear h0 h1 h2 h3 h4 h5 h6 h7; revert a; decide
  · rw [h2 (by omega), h3 (by omega), h4 (by omega), h5 (by omega), h6 (by omega), h7 (by omega)]; clear h0 h1 h2 h3 h4 h5 h6 h7; revert a b; decide
  · rw [h3 (by omega), h4 (by omega), h5 (by omega), h6 (by omega), h7 (by omega)]; clear h0 h1 h2 h3 h4 h5 h6 h7; revert a b c; decide
  · rw [h4 (by omega), h5 (by omega), h6 (by omega), h7 (by omega)]; clear h0 h1 h2 h3 h4 h5 h6 h7; revert a b c d; decide
  · rw [h5 (by omega), h6 (by omega), h7 (by omega)]; clear h0 h1 h2 h3 h4 h5 h6 h7; revert a b c d e; decide
  · rw [h6 (by omega), h7 (by omega)]; clear h0 h1 h2 h3 h4 h5 h6 h7; revert a b c d e f; decide
  · rw [h7 (by omega)]; clear h0 h1 h2 h3 h4 h5 h6 h7; revert a b c d e f g; decide
theorem byteAt_snoc_true (L : List Bool) : byteAt (L ++ [true]) (L.length / 8) = byteAt L (L.length / 8) ||| 128 / 2 ^ (L.length % 8) := by
  unfold byteAt
  rw [numOf8, numOf8]
  have e : ∀ k, k < 8 → (L ++ [true]).getD (8 * (L.length / 8) + k) false = if k = L.length % 8 then true else L.getD (8 * (L.length / 8) + k) false := by
    intro k hk
    by_cases h : k = L.length % 8
    · rw [if_pos h]
      have : 8 * (L.length / 8) + k = L.length := by omega
      rw [this, getD_snoc_eq]
    · rw [if_neg h]; exact getD_snoc_ne L true _ (by omega)
  have z : ∀ k, L.length % 8 ≤ k → L.getD (8 * (L.length / 8) + k) false = false := fun k hk => getD_past L _ (by omega)
  rw [e 0 (by omega), e 1 (by omega), e 2 (by omega), e 3 (by omega), e 4 (by omega), e 5 (by omega), e 6 (by omega), e 7 (by omega)]
  exact or_bit (L.length % 8) (by omega) _ _ _ _ _ _ _ _ (z 0) (z 1) (z 2) (z 3) (z 4) (z 5) (z 6) (z 7)
theorem pack_false_new (L : List Bool) (h : L.length % 8 = 0) : pack (L ++ [false]) = pack L ++ [0] := by
  apply List.ext_getElem?
  intro i
  by_cases hi : i < (L.length + 7) / 8
  · rw [pack_get _ _ (by simp; omega), List.getElem?_append_left (by simpa using hi), pack_get _ _ hi, byteAt_snoc_false]
  · by_cases hi2 : i = (L.length + 7) / 8
    · rw [pack_get _ _ (by simp; omega), List.getElem?_append_right (by simp; omega), byteAt_snoc_false, ← pack_getD, List.getD_eq_getElem?_getD, List.getElem?_eq_none (by simp; omega)]
      simp [hi2]
    · rw [List.getElem?_eq_none (by simp; omega), List.getElem?_eq_none (by simp; omega)]
theorem pack_false_old (L : List Bool) (h : L.length % 8 ≠ 0) : pack (L ++ [false]) = pack L := by
  apply List.ext_getElem?
  intro i
  by_cases hi : i < (L.length + 7) / 8
  · rw [pack_get _ _ (by simp; omega), pack_get _ _ hi, byteAt_snoc_false]
  · rw [List.getElem?_eq_none (by simp; omega), List.getElem?_eq_none (by simp; omega)]
theorem pack_true (L : List Bool) : pack (L ++ [true]) = (pack (L ++ [false])).set (L.length / 8) (byteAt L (L.length / 8) ||| 128 / 2 ^ (L.length % 8)) := by
  apply List.ext_getElem?
  intro i
  rw [List.getElem?_set]
  by_cases hi : i < (L.length + 8) / 8
  · rw [pack_get _ _ (by simp; omega), pack_get _ _ (by simp; omega)]
    by_cases h2 : L.length / 8 = i
    · rw [if_pos h2, if_pos (by simp; omega), ← h2, byteAt_snoc_true]
    · rw [if_neg h2, byteAt_snoc_false, byteAt_snoc_other L true i (by omega)]
  · rw [List.getElem?_eq_none (by simp; omega), if_neg (by omega), List.getElem?_eq_none (by simp; omega)]
theorem bit8 : ∀ (k : Nat) (_ : k < 8) (a b c d e f g h : Bool), ((128 * a.toNat + 64 * b.toNat + 32 * c.toNat + 16 * d.toNat + 8 * e.toNat + 4 * f.toNat + 2 * g.toNat + h.toNat) / 2 ^ (7 - k) % 2 == 1) =
    (if k = 0 then a else if k = 1 then b else if k = 2 then c else if k = 3 then d else if k = 4 then e else if k = 5 then f else if k = 6 then g else h) := by decide
theorem byteAt_bit (L : List Bool) (i k : Nat) (hk : k < 8) : (byteAt L i / 2 ^ (7 - k) % 2 == 1) = L.getD (8 * i + k) false := by
  unfold byteAt
  rw [numOf8, bit8 k hk]
  match k, hk with
  | 0, _ => rfl
  | 1, _ => rfl
  | 2, _ => rfl
  | 3, _ => rfl
  | 4, _ => rfl
  | 5, _ => rfl
  | 6, _ => rfl
  | 7, _ => rfl
theorem unpack_pack_get (L : List Bool) (p : Nat) (h : p < L.length) : (unpack (pack L))[p]? = L[p]? := by
  rw [unpack_get _ _ (by simp; omega), pack_getD, byteAt_bit _ _ _ (by omega)]
  have : 8 * (p / 8) + p % 8 = p := by omega
  rw [this, List.getD_eq_getElem?_getD, List.getElem?_eq_getElem h]
  rfl
theorem unpack_pack_take (L : List Bool) : (unpack (pack L)).take L.length = L := by
  apply List.ext_getElem?
  intro p
  by_cases h : p < L.length
  · rw [List.getElem?_take_of_lt h, unpack_pack_get L p h]
  · rw [List.getElem?_eq_none (by simp; omega), List.getElem?_eq_none (by omega)]
/-- the number in the next bits of bytes -/
def numAt (bs : List Nat) (at_ n : Nat) : Nat := numOf (((unpack bs).drop at_).take n)
theorem numAt_succ (bs : List Nat) (at_ n : Nat) (h : at_ + n < 8 * bs.length) : numAt bs at_ (n + 1) = 2 * numAt bs at_ n + (bs.getD ((at_ + n) / 8) 0 / 2 ^ (7 - (at_ + n) % 8) % 2 == 1).toNat := by
  unfold numAt
  rw [← numOf_snoc]
  congr 1
  have hg := unpack_get bs (at_ + n) h
  rw [List.take_add_one, List.getElem?_drop, hg]
  rfl
theorem numAt_zero (bs : List Nat) (at_ : Nat) : numAt bs at_ 0 = 0 := by simp [numAt, numOf]
theorem numAt_lt (bs : List Nat) (at_ n : Nat) : numAt bs at_ n < 2 ^ n := by
  have h := numOf_lt (((unpack bs).drop at_).take n)
  have : (((unpack bs).drop at_).take n).length ≤ n := List.length_take_le _ _
  exact Nat.lt_of_lt_of_le h (Nat.pow_le_pow_right (by omega) this)
theorem mask_cast (q : Nat) : (128 : Int) / 2 ^ (q % 8) = ((128 / 2 ^ (q % 8) : Nat) : Int) := by simp
theorem mask_pow (k : Nat) (h : k < 8) : 128 / 2 ^ k = 2 ^ (7 - k) := by
  have hh : k = 0 ∨ k = 1 ∨ k = 2 ∨ k = 3 ∨ k = 4 ∨ k = 5 ∨ k = 6 ∨ k = 7 := by omega
  rcases hh with rfl | rfl | rfl | rfl | rfl | rfl | rfl | rfl <;> decide
theorem mask_lt (q : Nat) : 128 / 2 ^ (q % 8) < 256 := Nat.lt_of_le_of_lt (Nat.div_le_self _ _) (by omega)
theorem bit_test (x q : Nat) (hx : x < 256) : (bits BinOp.and IntKind.u8 (x : Int) (128 / 2 ^ (q % 8)) != 0) = (x / 2 ^ (7 - q % 8) % 2 == 1) := by
  rw [mask_cast, u8_and_nat x _ hx (mask_lt q), mask_pow _ (by omega), nat_bit]
  have hp : 0 < 2 ^ (7 - q % 8) := Nat.two_pow_pos _
  have : x / 2 ^ (7 - q % 8) % 2 = 0 ∨ x / 2 ^ (7 - q % 8) % 2 = 1 := by omega
  rcases this with h | h <;> rw [h]
  · simp
  · rw [Bool.eq_iff_iff]; simp; intro h0; exact absurd h0 (by
      have := Int.natCast_pos.2 hp
      push_cast at this
      omega)
theorem or_one (n : Nat) (h : n < 2147483648) : bits BinOp.or IntKind.i64 ((n : Int) * 2) 1 = ((2 * n + 1 : Nat) : Int) := by
  rw [bits_join .i64 62 (by decide) (fun n h0 h1 => IntWalk.i64_in n (by omega)) 1 _ _ (by omega) (by omega) (by omega) (by omega) (by omega) (by omega)]
  push_cast; omega
theorem and_one (v pl : Nat) (h : v < 4294967296) : (bits BinOp.and IntKind.i64 ((v : Int) / 2 ^ pl) 1 == 1) = (v / 2 ^ pl % 2 == 1) := by
  have e : (v : Int) / 2 ^ pl = ((v / 2 ^ pl : Nat) : Int) := by simp
  have hle : v / 2 ^ pl ≤ v := Nat.div_le_self _ _
  rw [e]
  obtain ⟨q, hq⟩ : ∃ q, q = v / 2 ^ pl := ⟨_, rfl⟩
  rw [← hq] at hle ⊢
  have hm := bits_mask .i64 62 (by decide) (fun n h0 h1 => IntWalk.i64_in n (by omega)) 1 (by decide) (q : Int) (by omega) (by omega)
  have : (2 : Int) ^ 1 - 1 = 1 := rfl
  rw [this] at hm
  rw [hm, Bool.eq_iff_iff]
  simp only [beq_iff_eq]
  omega
end Go.Proofs.Ytficopkjpdfilaa
/-
  What bits.rightWidth, mask, Left, check, slices.Clone, bits.Read and number do, for every input within the stated bounds.
-/
namespace Go.Proofs.Ytficopkjpdfilaa
open Go.RowKit

def rw (n : Int) : Bool := decide (1 ≤ n ∧ n ≤ 32)

set_option maxRecDepth 100000 in
set_option maxHeartbeats 400000 in
theorem rightWidth_any (n : Int) (w : World) :
    Calls Try.prog 70 #[.int .i64 n] w fun e w' => e = .returned (.bool (rw n)) ∧ w = w' := by
  by_cases h1 : 1 ≤ n <;> by_cases h2 : n ≤ 32
  all_goals
    go_enter Try.func70, Try.ntmps70
    go_wp2
    go_ret
    refine ⟨?_, rfl⟩
    simp [rw, h1, h2]

set_option maxRecDepth 100000 in
set_option maxHeartbeats 400000 in
theorem mask_any (n : Nat) (w : World) (hn : n ≤ 9223372036854775807) :
    Calls Try.prog 71 #[.int .i64 n] w fun e w' => e = .returned (.int .u8 ((128 / 2 ^ (n % 8) : Nat) : Int)) ∧ w' = w := by
  have e1 := mask_cast n
  have He := Lib.hid e1; clear e1
  go_enter Try.func71, Try.ntmps71
  go_wp2
  go_ret
  refine ⟨?_, rfl⟩
  rw [← He.out]; rfl
set_option maxRecDepth 100000 in
set_option maxHeartbeats 400000 in
theorem left_any (b : Nat) (a : Option Addr) (len cap : Nat) (n e : Int) (w : World) (hl : len ≤ 1152921504606846975) (hn : 0 ≤ n) (hn2 : n ≤ 8 * len) 
   (h : w.heap[b]? = some (.cells #[.slice a len cap, .int .i64 n, .int .i64 e] 114 (0,0))) :
    Calls Try.prog 51 #[.pointer (some ⟨b, 0, none⟩)] w fun e w' => e = .returned (.int .i64 (8 * len - n)) ∧ ∃ k, w' = w.drewN k := by
  have hc : w.cell? ⟨b, 1, none⟩ = some (.int .i64 n) := by simp [World.cell?, h]
  have hc0 : w.cell? ⟨b, 0, none⟩ = some (.slice a len cap) := by simp [World.cell?, h]
  clear h
  have e1 : IntKind.i64.wrap (8 * len) = 8 * len := IntWalk.i64_in _ (by omega)
  have e2 : IntKind.i64.wrap (8 * len - n) = 8 * len - n := IntWalk.i64_in _ (by omega)
  go_enter Try.func51, Try.ntmps51
  go_wp2
  go_quiet (fail)
  go_wp2
  go_ret
  exact ⟨rfl, _, rfl⟩
def sumTo (f : Nat → Int) : Nat → Int
  | 0 => 0
  | n + 1 => sumTo f n + f n
/-- what check answers: 2 for a wrong width, 10 if they are too many, 0 -/
def chk (f : Nat → Int) (n : Nat) (left : Int) : Int :=
  if ∃ i, i < n ∧ ¬ (1 ≤ f i ∧ f i ≤ 32) then 2 else if left < sumTo f n then 10 else 0
theorem sumTo_le (f : Nat → Int) (n : Nat) (h : ∀ i, i < n → 1 ≤ f i ∧ f i ≤ 32) : n ≤ sumTo f n ∧ sumTo f n ≤ 32 * n := by
  induction n with
  | zero => simp [sumTo]
  | succ n ih =>
    have h1 := ih (fun i hi => h i (by omega))
    have h2 := h n (by omega)
    simp only [sumTo]; omega
open Classical in
set_option maxRecDepth 100000 in
set_option maxHeartbeats 400000 in
theorem check_any (b : Nat) (a : Option Addr) (len cap : Nat) (at_ e : Int) (w : World) (hl : len ≤ 1152921504606846975) (hn : 0 ≤ at_) (hn2 : at_ ≤ 8 * len) 
   (h : w.heap[b]? = some (.cells #[.slice a len cap, .int .i64 at_, .int .i64 e] 114 (0,0)))
   (A : Option Addr) (n c : Nat) (f : Nat → Int) (hnb : n ≤ 35184372088832) (hf : ∀ i, i < n → ∃ ad, A = some ad ∧ w.cell? (ad.add i) = some (.int .i64 (f i))) :
    Calls Try.prog 65 #[.pointer (some ⟨b, 0, none⟩), .slice A n c] w fun e w' => e = .returned (.int .i64 (chk f n (8 * len - at_))) ∧ ∃ k, w' = w.drewN k := by
  go_enter Try.func65, Try.ntmps65
  go_wp2
  go_loop [5, 10] (fun s i => ∃ k : Nat, k ≤ n ∧ i = .int .i64 k ∧ s = .int .i64 (sumTo f k) ∧ (∀ j, j < k → 1 ≤ f j ∧ f j ≤ 32)) (fun _ i => n - (intOf i).toNat)
  case atStart => exact ⟨0, Nat.zero_le _, rfl, rfl, fun j hj => absurd hj (by omega)⟩
  case round =>
    obtain ⟨k, hk, rfl, rfl, hall⟩ := hrel
    have hs := sumTo_le f k hall
    by_cases hlt : k < n
    · obtain ⟨ad, rfl, hc⟩ := hf k hlt
      have H := Lib.hid hall; clear hall
      have Hf := Lib.hid hf; clear hf
      have Hh := Lib.hid h; clear h
      by_cases hr : 1 ≤ f k ∧ f k ≤ 32
      · have hrw : rw (f k) = true := by simp [rw, hr]
        obtain ⟨hr1, hr2⟩ := hr
        go_wp2_with (go_at_call 70; refine (rightWidth_any _ _).mono ?_; rintro e w' ⟨rfl, rfl⟩)
        go_round
        case rel => exact ⟨k + 1, by omega, by go_num, rfl, fun j hj => by
          rcases Nat.lt_succ_iff_lt_or_eq.1 hj with h1 | rfl
          · exact H.out j h1
          · exact ⟨hr1, hr2⟩⟩
        case measure => simp [intOf]; omega
      · have hrw : rw (f k) = false := by simp only [rw, hr, decide_false]
        have HR := Lib.hid hr; clear hr
        go_wp2_with (go_at_call 70; refine (rightWidth_any _ _).mono ?_; rintro e w' ⟨rfl, rfl⟩)
        go_ret
        refine ⟨?_, 0, rfl⟩
        have : chk f n (8 * len - at_) = 2 := by unfold chk; rw [if_pos ⟨k, hlt, HR.out⟩]
        rw [this]; rfl
    · obtain rfl : k = n := by omega
      have H := Lib.hid hall; clear hall
      have Hf := Lib.hid hf; clear hf
      have Hh := Lib.hid h; clear h
      by_cases hgt : 8 * (len : Int) - at_ < sumTo f k
      all_goals
        go_wp2_with (go_at_call 51; refine (left_any b a len cap at_ e _ hl hn hn2 Hh.out).mono ?_; rintro e w' ⟨rfl, kk, rfl⟩)
        go_ret
        refine ⟨?_, _, rfl⟩
      · have : chk f k (8 * len - at_) = 10 := by
          unfold chk; rw [if_neg, if_pos hgt]
          rintro ⟨i, hi, hb⟩; exact hb (H.out i hi)
        rw [this]; rfl
      · have : chk f k (8 * len - at_) = 0 := by
          unfold chk; rw [if_neg, if_neg (by omega)]
          rintro ⟨i, hi, hb⟩; exact hb (H.out i hi)
        rw [this]; rfl
set_option maxRecDepth 100000 in
set_option maxHeartbeats 400000 in
theorem read_any (A : Option Addr) (n c : Nat) (F : Nat → Prop) (f : Nat → Value) (w : World) (hA : Arr w F A n f) (hn : A = none → n = 0 ∧ c = 0) (h1 : ∀ i, i < n → (f i).oneCell' = true) (hb : n ≤ 140737488351232) :
    Calls Try.prog 48 #[.slice A n c] w fun e w' => ∃ A' c' b, e = .returned (.pointer (some ⟨b, 0, none⟩)) ∧ Has w' b 114 #[.slice A' n c', .int .i64 0, .int .i64 0] ∧ w'.ownsRow w.heap.size 5 1 (.slice A' n c') n ((List.range n).map f) ∧ New w w' ∧ w.heap.size ≤ b := by
  have HA := Lib.hid hA; clear hA
  have H1 := Lib.hid h1; clear h1
  have HN := Lib.hid hn; clear hn
  go_enter Try.func48, Try.ntmps48
  go_wp2_with (go_at_call 64; refine (clone_any A n c F f _ HA.out HN.out H1.out (by omega)).mono ?_; rintro e w' ⟨A', c', rfl, ho, hg⟩; have Ho := Lib.hid ho; have Hg := Lib.hid hg; clear ho hg)
  go_ret
  exact ⟨_, _, _, rfl, Has.new _ _ _, Ho.out.alloc _, Hg.out.alloc _, Hg.out.size⟩
/-- a reader of the bytes bs at bit p -/
def Rd (w : World) (b : Nat) (bs : List Nat) (p : Nat) (er : Int) : Prop :=
  ∃ A c, Has w b 114 #[.slice A bs.length c, .int .i64 (p : Int), .int .i64 er] ∧ w.ownsRow 0 5 1 (.slice A bs.length c) bs.length (bs.map bV)
theorem Rd.chg {S : Nat → Prop} {w w' : World} {b : Nat} {bs : List Nat} {p : Nat} {er : Int} (h : Rd w b bs p er) (c : Chg S w w') (hS : ∀ k, k < w.heap.size → ¬ S k) : Rd w' b bs p er := by
  obtain ⟨A, cc, h1, h2⟩ := h
  refine ⟨A, cc, h1.chg c (hS _ h1.lt), own_chg h2 c fun k hk => hS _ ?_⟩
  exact (h2.lt k hk).2

set_option maxRecDepth 100000 in
set_option maxHeartbeats 1000000 in
theorem number_any (b : Nat) (bs : List Nat) (p : Nat) (er : Int) (width : Nat) (w : World) (h : Rd w b bs p er) (hp : p + width ≤ 8 * bs.length) (hw : width ≤ 32) (hl : bs.length ≤ 140737488351232) (h256 : ∀ x ∈ bs, x < 256) :
    Calls Try.prog 66 #[.pointer (some ⟨b, 0, none⟩), .int .i64 width] w fun e w' => e = .returned (.int .i64 (numAt bs p width)) ∧ Rd w' b bs (p + width) er ∧ Chg (· = b) w w' := by
  have H := Lib.hid h; clear h
  have H256 := Lib.hid h256; clear h256
  go_enter Try.func66, Try.ntmps66
  go_wp2
  go_loopw [5, 7] (fun n i wr => ∃ k : Nat, k ≤ width ∧ i = .int .i64 k ∧ n = .int .i64 (numAt bs p k) ∧ Rd wr b bs (p + k) er ∧ Chg (· = b) w wr) (fun _ i _ => width - (intOf i).toNat)
  case atStart => exact ⟨0, Nat.zero_le _, rfl, by rw [numAt_zero]; rfl, H.out, Chg.refl _ _⟩
  case round =>
    obtain ⟨k, hk, rfl, rfl, hR, hC⟩ := hrel
    have HC := Lib.hid hC; clear hC
    by_cases hlt : k < width
    · have hnl := numAt_lt bs p k
      have hn31 : (numAt bs p k) < 2147483648 := Nat.lt_of_lt_of_le hnl (Nat.pow_le_pow_right (n := 2) (by omega) (show k ≤ 31 by omega))
      clear hnl
      obtain ⟨N, hN⟩ : ∃ N, N = numAt bs p k := ⟨_, rfl⟩
      rw [← hN] at hn31 ⊢
      have HN := Lib.hid hN; clear hN
      obtain ⟨q, hq⟩ : ∃ q, q = p + k := ⟨_, rfl⟩
      rw [← hq] at hR
      have hq8 : q < 8 * bs.length := by omega
      have Hq := Lib.hid hq; clear hq
      obtain ⟨A, c, hH, hO⟩ := hR
      obtain ⟨g, rfl, hcell⟩ : ∃ g, A = some ⟨g, 0, none⟩ ∧ wr.cell? ⟨g, q / 8, none⟩ = some (.int .u8 ((bs.getD (q / 8) 0 : Nat) : Int)) := by
        rcases hO.2 with ⟨_, hn⟩ | ⟨g, c', cur, hv, _⟩
        · omega
        · simp only [Value.slice.injEq] at hv
          obtain ⟨rfl, _, rfl⟩ := hv
          refine ⟨g, rfl, ?_⟩
          rw [hO.cellAt (q / 8) (by omega)]
          have : q / 8 < bs.length := by omega
          simp [bV, List.getElem?_eq_getElem this]
      have hc0 := hH.cell 0
      have hc1 := hH.cell 1
      have hf1 := hH.free 1
      simp at hc0 hc1
      have hB := H256.out (bs.getD (q / 8) 0) (by
        have : q / 8 < bs.length := by omega
        simp [List.getElem?_eq_getElem this])
      obtain ⟨x, hx⟩ : ∃ x, x = bs.getD (q / 8) 0 := ⟨_, rfl⟩
      rw [← hx] at hB hcell
      have Hx := Lib.hid hx; clear hx
      have HH := Lib.hid hH; clear hH
      have HO := Lib.hid hO; clear hO
      have hqd : (q : Int) / 8 < (bs.length : Int) := by omega
      have hqd0 : 0 ≤ (q : Int) / 8 := by omega
      have hqt : ((q : Int) / 8).toNat = q / 8 := by omega
      have e1 : IntKind.i64.wrap ((q : Int) / 8) = (q : Int) / 8 := IntWalk.i64_in _ (by omega)
      go_wp2
      go_quiet ((go_at_call 71; exact Calls.quiet_of_same (mask_any _ _ (by omega))))
      go_wp2
      all_goals
        have hbit := numAt_succ bs p k (by omega)
        rw [← Hq.out, ← HN.out, ← Hx.out] at hbit
        have hH' := ((HH.out.drewN nq).set 1 (.int .i64 (q + 1)))
        have hO' := own_chg (S := (· = b)) HO.out (((Chg.refl (· = b) wr).drewN nq).setCell (p := ⟨b, 1, none⟩) (fun _ => rfl) (.int .i64 (q + 1))) (fun k hk e => own_apart HO.out HH.out (by decide) (e ▸ hk))
        have hC' := (HC.out.drewN nq).setCell (p := ⟨b, 1, none⟩) (fun _ => rfl) (.int .i64 (q + 1))
        have hq1 : p + (k + 1) = q + 1 := by have := Hq.out; omega
        have hR' : Rd ((wr.drewN nq).setCell ⟨b, 1, none⟩ (.int .i64 (q + 1))) b bs (p + (k + 1)) er := by
          rw [hq1]; exact ⟨_, _, hH', hO'⟩
        go_roundw
        case rel =>
          refine ⟨k + 1, by omega, by go_num, ?_, hR', hC'⟩
          rw [hbit, ← bit_test x q hB]
          first
            | (have ht : (bits BinOp.and IntKind.u8 (x : Int) (128 / 2 ^ (q % 8)) != 0) = true := by assumption
               rw [ht, or_one N hn31]; rfl)
            | (have ht : (bits BinOp.and IntKind.u8 (x : Int) (128 / 2 ^ (q % 8)) != 0) = false := by assumption
               rw [ht]; simp; omega)
        case measure => simp [intOf]; omega
    · obtain rfl : k = width := by omega
      have HR := Lib.hid hR; clear hR
      go_wp2
      go_ret
      exact ⟨rfl, HR.out, HC.out⟩
end Go.Proofs.Ytficopkjpdfilaa
/-
  What (*bits.Reader).Err, Left and Take do, for every input within the stated bounds.
-/
namespace Go.Proofs.Ytficopkjpdfilaa
open Go.RowKit

set_option maxRecDepth 100000 in
set_option maxHeartbeats 400000 in
theorem err_any (b : Nat) (bs : List Nat) (p : Nat) (er : Int) (w : World) (h : Rd w b bs p er) :
    Calls Try.prog 50 #[.pointer (some ⟨b, 0, none⟩)] w fun e w' => e = .returned (.int .i64 er) ∧ w = w' := by
  obtain ⟨A, c, hH, _⟩ := h
  have hc := hH.cell 2
  simp at hc
  clear hH
  go_enter Try.func50, Try.ntmps50
  go_wp2
  go_ret
  exact ⟨rfl, rfl⟩
theorem rd_left (b : Nat) (bs : List Nat) (p : Nat) (er : Int) (w : World) (h : Rd w b bs p er) (hl : bs.length ≤ 1152921504606846975) (hp : p ≤ 8 * bs.length) :
    Calls Try.prog 51 #[.pointer (some ⟨b, 0, none⟩)] w fun e w' => e = .returned (.int .i64 (8 * bs.length - p)) ∧ ∃ k, w' = w.drewN k := by
  obtain ⟨A, c, hH, _⟩ := h
  exact left_any b A bs.length c p er w hl (by omega) (by omega) hH

theorem own_own_apart {w : World} {base e size n base' e' size' n' : Nat} {v v' : Value} {xs xs' : List Value} (h : w.ownsRow base e size v n xs) (h' : w.ownsRow base' e' size' v' n' xs') (hne : e ≠ e') (k : Nat) (hk : v.ownBlock = some k) : v'.ownBlock ≠ some k := by
  rcases h.2 with ⟨rfl, _⟩ | ⟨g, cap, cur, rfl, _, hh, _⟩
  · simp [Value.ownBlock] at hk
  · have : g = k := by simpa [Value.ownBlock] using hk
    subst this
    exact own_apart (t := e) h' hh (fun e => hne e.symm)
theorem Rd.has {w : World} {b : Nat} {bs : List Nat} {p : Nat} {er : Int} (h : Rd w b bs p er) : ∃ cs, Has w b 114 cs := by
  obtain ⟨A, c, hH, _⟩ := h
  exact ⟨_, hH⟩
theorem Rd.beside {w w' : World} {b : Nat} {bs : List Nat} {p : Nat} {er : Int} (h : Rd w b bs p er) {base e size n : Nat} {v : Value} {xs : List Value} (ho : w.ownsRow base e size v n xs) (h5 : e ≠ 5) (h54 : e ≠ 114) (c : Chg (fun k => v.ownBlock = some k) w w') : Rd w' b bs p er := by
  obtain ⟨A, cc, hH, hO⟩ := h
  exact ⟨A, cc, hH.chg c (own_apart ho hH h54), own_chg hO c fun k hk hk' => own_own_apart hO ho (fun e => h5 e.symm) k hk hk'⟩

def sumN (g : Nat → Nat) : Nat → Nat
  | 0 => 0
  | n + 1 => sumN g n + g n
theorem sumTo_cast (g : Nat → Nat) (n : Nat) : sumTo (fun i => (g i : Int)) n = (sumN g n : Int) := by
  induction n with
  | zero => rfl
  | succ n ih => simp only [sumTo, sumN, ih]; omega
theorem sumN_mono (g : Nat → Nat) {k n : Nat} (h : k ≤ n) : sumN g k ≤ sumN g n := by
  induction n with
  | zero => obtain rfl : k = 0 := by omega
            exact Nat.le_refl _
  | succ n ih =>
    rcases Nat.lt_or_ge n k with h1 | h1
    · obtain rfl : k = n + 1 := by omega
      exact Nat.le_refl _
    · have := ih h1; simp only [sumN]; omega
def jV (n : Nat) : Value := .int .i64 (n : Int)
def nums (bs : List Nat) (p : Nat) (g : Nat → Nat) (i : Nat) : Value := jV (numAt bs (p + sumN g i) (g i))
set_option maxRecDepth 100000 in
set_option maxHeartbeats 400000 in
/-- Take beside an error. -/
theorem take_dead (b : Nat) (bs : List Nat) (p : Nat) (er : Int) (v : Value) (w : World) (h : Rd w b bs p er) (he : (er != 0) = true) :
    Calls Try.prog 49 #[.pointer (some ⟨b, 0, none⟩), v] w fun e w' => e = .returned (.slice none 0 0) ∧ w = w' := by
  obtain ⟨A, c, hH, _⟩ := h
  have hc := hH.cell 2
  simp at hc
  clear hH
  go_enter Try.func49, Try.ntmps49
  go_wp2
  go_ret
  exact ⟨rfl, rfl⟩
set_option maxRecDepth 100000 in
set_option maxHeartbeats 1000000 in
/-- Take of what isn't to be had. -/
theorem take_no (b : Nat) (bs : List Nat) (p : Nat) (w : World) (h : Rd w b bs p 0) (hl : bs.length ≤ 1152921504606846975) (hp : p ≤ 8 * bs.length)
    (A : Option Addr) (n c : Nat) (F : Nat → Prop) (f : Nat → Int) (hnb : n ≤ 35184372088832) (hA : Arr w F A n (fun i => .int .i64 (f i))) (hc : (chk f n (8 * bs.length - p) != 0) = true) :
    Calls Try.prog 49 #[.pointer (some ⟨b, 0, none⟩), .slice A n c] w fun e w' => e = .returned (.slice none 0 0) ∧ Rd w' b bs p (chk f n (8 * bs.length - p)) ∧ Chg (· = b) w w' := by
  obtain ⟨A0, c0, hH, hO⟩ := h
  have hc2 := hH.cell 2
  have hf2 := hH.free 2
  simp at hc2
  have HH := Lib.hid hH; clear hH
  have HO := Lib.hid hO; clear hO
  have HA := Lib.hid hA; clear hA
  have H := check_any b A0 bs.length c0 p 0 w hl (by omega) (by omega) HH.out A n c f hnb (fun i hi => by obtain ⟨a, ha, _, hx⟩ := HA.out i hi; exact ⟨a, ha, hx⟩)
  have HK := Lib.hid H; clear H
  obtain ⟨ck, hck⟩ : ∃ ck, ck = chk f n (8 * bs.length - p) := ⟨_, rfl⟩
  rw [← hck] at HK hc ⊢
  clear hck
  go_enter Try.func49, Try.ntmps49
  go_wp2_with (go_at_call 65; refine HK.out.mono ?_; rintro e w' ⟨rfl, kk, rfl⟩)
  go_ret
  exact ⟨rfl, ⟨_, _, (HH.out.drewN kk).set 2 _, own_chg (S := (· = b)) HO.out (((Chg.refl (· = b) w).drewN kk).setCell (p := ⟨b, 2, none⟩) (fun _ => rfl) _) (fun k hk e => own_apart HO.out HH.out (by decide) (e ▸ hk))⟩,
    ((Chg.refl (· = b) w).drewN kk).setCell (p := ⟨b, 2, none⟩) (fun _ => rfl) _⟩
theorem chk_ok (g : Nat → Nat) (n : Nat) (left : Int) (hg : ∀ i, i < n → 1 ≤ g i ∧ g i ≤ 32) (h : (sumN g n : Int) ≤ left) : chk (fun i => (g i : Int)) n left = 0 := by
  unfold chk
  rw [if_neg, if_neg]
  · rw [sumTo_cast]; omega
  · rintro ⟨i, hi, hb⟩
    have := hg i hi
    refine hb ⟨?_, ?_⟩ <;> dsimp only <;> omega
theorem range_snoc {α : Type} (f : Nat → α) (k : Nat) : (List.range (k + 1)).map f = (List.range k).map f ++ [f k] := by simp [List.range_succ]
set_option maxRecDepth 100000 in
set_option maxHeartbeats 2000000 in
/-- Take of what is there. -/
theorem take_ok (b : Nat) (bs : List Nat) (p : Nat) (w : World) (h : Rd w b bs p 0) (hl : bs.length ≤ 140737488351232) (h256 : ∀ x ∈ bs, x < 256)
    (A : Option Addr) (n c : Nat) (F : Nat → Prop) (g : Nat → Nat) (hnb : n ≤ 17592186044416) (hA : Arr w F A n (fun i => jV (g i))) (hF : ∀ k, F k → k < w.heap.size ∧ k ≠ b) (hg : ∀ i, i < n → 1 ≤ g i ∧ g i ≤ 32) (hp : p + sumN g n ≤ 8 * bs.length) :
    Calls Try.prog 49 #[.pointer (some ⟨b, 0, none⟩), .slice A n c] w fun e w' => ∃ A' c', e = .returned (.slice A' n c') ∧ w'.ownsRow w.heap.size 3 1 (.slice A' n c') n ((List.range n).map (nums bs p g)) ∧ Rd w' b bs (p + sumN g n) 0 ∧ Chg (· = b) w w' := by
  obtain ⟨A0, c0, hH, hO⟩ := h
  have hc2 := hH.cell 2
  have hf2 := hH.free 2
  simp at hc2
  have HH := Lib.hid hH; clear hH
  have HO := Lib.hid hO; clear hO
  have HA := Lib.hid hA; clear hA
  have HG := Lib.hid hg; clear hg
  have HF := Lib.hid hF; clear hF
  have H256 := Lib.hid h256; clear h256
  have H := check_any b A0 bs.length c0 p 0 w (by omega) (by omega) (by omega) HH.out A n c (fun i => (g i : Int)) (by omega) (fun i hi => by obtain ⟨a, ha, _, hx⟩ := HA.out i hi; exact ⟨a, ha, hx⟩)
  rw [chk_ok g n _ HG.out (by omega)] at H
  have HK := Lib.hid H; clear H
  obtain ⟨i0, hi, hz0, hz1, hz2⟩ := info_parts Try.info3
  have hR0 : ∀ kk, Rd ((w.drewN kk).setCell ⟨b, 2, none⟩ (.int .i64 0)) b bs (p + sumN g 0) 0 := fun kk => ⟨_, _, (HH.out.drewN kk).set 2 _, own_chg (S := (· = b)) HO.out (((Chg.refl (· = b) w).drewN kk).setCell (p := ⟨b, 2, none⟩) (fun _ => rfl) _) (fun k hk e => own_apart HO.out HH.out (by decide) (e ▸ hk))⟩
  have hC0 : ∀ kk, Chg (· = b) w ((w.drewN kk).setCell ⟨b, 2, none⟩ (.int .i64 0)) := fun kk => ((Chg.refl (· = b) w).drewN kk).setCell (p := ⟨b, 2, none⟩) (fun _ => rfl) _
  have HR0 := Lib.hid hR0; clear hR0
  have HC0 := Lib.hid hC0; clear hC0
  have hbl := HH.out.lt
  go_enter Try.func49, Try.ntmps49
  go_wp2_with (first
    | (go_at_call 65; refine HK.out.mono ?_; rintro e w' ⟨rfl, kk, rfl⟩)
    | (at_make; refine wpList_make_own _ rfl _ _ 67 rfl w.heap.size 3 i0 (.int .i64 0) 1 Try.underlying67 hi hz0 hz1 .i64 .i64 _ n rfl rfl rfl ?m1 ?m2 ?m3 ?_))
  case m1 => rw [hz2]; omega
  case m2 => simp only [maxLen]; omega
  case m3 => exact (HC0.out kk).size
  intro wm hom hgm
  have Hom := Lib.hid hom; clear hom
  have HC := Lib.hid ((HC0.out kk).grown hgm (by intro k hk; cases hk))
  have HR : Hid (Rd wm b bs (p + sumN g 0) 0) := Lib.hid ((HR0.out kk).chg (S := fun _ => False) ⟨hgm.os, hgm.tape, hgm.output, hgm.size, fun k hk _ => hgm.block k hk (by simp)⟩ fun _ _ f => f)
  clear hgm HC0 HR0 HK
  go_wp2
  go_loopw [5, 29] (fun v i wr => ∃ (k : Nat) (A' : Option Addr) (c' : Nat), k ≤ n ∧ i = .int .i64 k ∧ v = .slice A' k c' ∧ wr.ownsRow w.heap.size 3 1 (.slice A' k c') k ((List.range k).map (nums bs p g)) ∧ Rd wr b bs (p + sumN g k) 0 ∧ Chg (· = b) w wr) (fun _ i _ => n - (intOf i).toNat)
  case atStart => exact ⟨0, _, _, Nat.zero_le _, rfl, rfl, Hom.out, HR.out, HC.out⟩
  case round =>
    clear Hom HC HR
    obtain ⟨k, A', c', hk, rfl, rfl, hO', hR', hC'⟩ := hrel
    by_cases hlt : k < n
    · have hgk := HG.out k hlt
      have hsm := sumN_mono g (show k + 1 ≤ n by omega)
      obtain ⟨gk, hgk'⟩ : ∃ gk, gk = g k := ⟨_, rfl⟩
      have hs1 : sumN g (k + 1) = sumN g k + gk := by rw [hgk']; rfl
      obtain ⟨ad, rfl, hadB, hcell⟩ := (HA.out.chg hC' HF.out) k hlt
      simp only [jV] at hcell
      rw [← hgk'] at hcell hgk
      have Hgk := Lib.hid hgk'; clear hgk'
      have Hs1 := Lib.hid hs1
      have hN := number_any b bs (p + sumN g k) 0 gk wr hR' (by omega) (by omega) hl H256.out
      clear hs1
      have HN := Lib.hid hN; clear hN
      have HO' := Lib.hid hO'; clear hO'
      have HR' := Lib.hid hR'; clear hR'
      have HC' := Lib.hid hC'; clear hC'
      have hsz := HC'.out.size
      go_wp2_with (first
        | (go_at_call 66; refine HN.out.mono ?_; rintro e w1 ⟨rfl, hR1, hC1⟩; have HR1 := Lib.hid hR1; have HC1 := Lib.hid hC1; clear hR1 hC1)
        | (at_builtin; refine wpList_append_one rfl _ _ 67 rfl w.heap.size 3 i0 (.int .i64 0) 1 8 Try.underlying67 hi hz0 hz1 hz2 rfl (by decide) _ k ((List.range k).map (nums bs p g)) rfl (own_chg HO'.out HC1.out ?a0) #[_] rfl rfl ?a1 ?a2 ?a3 ?a4 ?_))
      case a0 =>
        obtain ⟨cs, hcs⟩ := HR'.out.has
        exact fun k hk e => own_apart HO'.out hcs (by decide) (e ▸ hk)
      case a1 => first | rfl | (intro u hu; simp at hu; subst hu; rfl)
      case a2 => simp only [maxLen]; omega
      case a3 => omega
      case a4 => have := HC1.out.size; omega
      intro A2 c2 w2 hO2 hC2 hF2
      have HO1 : wr.ownsRow w.heap.size 3 1 (.slice A' k c') k ((List.range k).map (nums bs p g)) := HO'.out
      have HO1' : w1.ownsRow w.heap.size 3 1 (.slice A' k c') k ((List.range k).map (nums bs p g)) := by
        obtain ⟨cs, hcs⟩ := HR'.out.has
        exact own_chg HO'.out HC1.out fun k hk e => own_apart HO'.out hcs (by decide) (e ▸ hk)
      have HR2 : Hid (Rd w2 b bs (p + sumN g (k + 1)) 0) := by
        have := HR1.out.beside HO1' (by decide) (by decide) hC2
        rw [Hs1.out, ← Nat.add_assoc]
        exact this
      have HC2 : Hid (Chg (· = b) w w2) := (HC'.out.trans HC1.out (fun _ _ e => e)).trans hC2 (fun i hi hk => by
        have := (HO'.out.lt i hk).1; omega)
      have HO2 : Hid (w2.ownsRow w.heap.size 3 1 (.slice A2 (k + 1) c2) (k + 1) ((List.range (k + 1)).map (nums bs p g))) := by
        rw [range_snoc, nums, jV, ← Hgk.out]; exact hO2
      clear hO2 hC2 hF2 HO1 HO1'
      go_wp2
      go_roundw
      case rel => exact ⟨k + 1, A2, c2, by omega, by go_num, rfl, HO2.out, HR2.out, HC2.out⟩
      case measure => simp [intOf]; omega
    · obtain rfl : k = n := by omega
      have HO' := Lib.hid hO'; clear hO'
      have HR' := Lib.hid hR'; clear hR'
      have HC' := Lib.hid hC'; clear hC'
      go_wp2
      go_ret
      exact ⟨A', c', rfl, HO'.out, HR'.out, HC'.out⟩
end Go.Proofs.Ytficopkjpdfilaa
/-
  What (bits.Field).right does for every input; the state of a writer.
-/
namespace Go.Proofs.Ytficopkjpdfilaa
open Go.RowKit
theorem Try.cells91 : Try.prog.cellsOf 91 = 2 := by kernel_rfl

theorem qs {P : Program} {f : FuncId} {args : Array Value} {w : World} {n : Nat} {v : Value} (h : Calls P f args (w.drewN n) fun e w' => e = .returned v ∧ w.drewN n = w') : Calls P f args (w.drewN n) fun e w' => e = .returned v ∧ ∃ m, w' = w.drewN m :=
  h.mono fun _ _ ⟨he, hw⟩ => ⟨he, n, hw.symm⟩
theorem two_pow_le (n : Nat) (h : n ≤ 32) : (2 : Int) ^ n ≤ 4294967296 := by
  have h' : (2 : Nat) ^ n ≤ 2 ^ 32 := Nat.pow_le_pow_right (by omega) h
  have : (((2 : Nat) ^ n : Nat) : Int) ≤ ((2 ^ 32 : Nat) : Int) := by exact_mod_cast h'
  simpa using this
theorem two_pow_pos (n : Nat) : (0 : Int) < 2 ^ n := Int.pow_pos (by omega)
def okF (wd v : Int) : Bool := decide (1 ≤ wd ∧ wd ≤ 32 ∧ 0 ≤ v ∧ v < 2 ^ wd.toNat)
set_option maxRecDepth 100000 in
set_option maxHeartbeats 400000 in
theorem bright_any (wd v : Int) (w : World) :
    Calls Try.prog 62 #[.agg #[.int .i64 wd, .int .i64 v]] w fun e w' => e = .returned (.bool (okF wd v)) ∧ New w w' := by
  by_cases h1 : 1 ≤ wd ∧ wd ≤ 32
  · have hrw : rw wd = true := by simp [rw, h1]
    obtain ⟨h1, h2⟩ := h1
    by_cases h3 : 0 ≤ v
    · go_enter Try.func62, Try.ntmps62
      go_wp2
      go_quiet ((go_at_call 70; exact qs (rightWidth_any _ _)))
      go_wp2
      go_ret
      refine ⟨?_, ((Chg.refl _ _).alloc _).drewN _⟩
      have e2 : IntKind.i64.wrap (2 ^ wd.toNat) = 2 ^ wd.toNat := IntWalk.i64_in _ (by have := two_pow_le wd.toNat (by omega); have := two_pow_pos wd.toNat; omega)
      show Ending.returned (.bool (decide (v < IntKind.i64.wrap (2 ^ wd.toNat)))) = _
      rw [e2]
      simp [okF, h1, h2, h3]
    · have hd : decide (0 ≤ v) = false := by simpa using h3
      have Hn := Lib.hid h3; clear h3
      go_enter Try.func62, Try.ntmps62
      go_wp2
      go_quiet ((go_at_call 70; exact qs (rightWidth_any _ _)))
      go_wp2
      go_ret
      refine ⟨?_, ((Chg.refl _ _).alloc _).drewN _⟩
      have : okF wd v = false := by simp only [okF, decide_eq_false_iff_not]; exact fun h => absurd h.2.2.1 (by have := Hn.out; omega)
      rw [this]; rfl
  · have hrw : rw wd = false := by simp only [rw, h1, decide_false]
    have Hn := Lib.hid h1; clear h1
    go_enter Try.func62, Try.ntmps62
    go_wp2
    go_quiet ((go_at_call 70; exact qs (rightWidth_any _ _)))
    go_wp2
    go_ret
    refine ⟨?_, ((Chg.refl _ _).alloc _).drewN _⟩
    have : okF wd v = false := by simp only [okF, decide_eq_false_iff_not]; exact fun h => Hn.out ⟨h.1, h.2.1⟩
    rw [this]; rfl

/-- a writer of the bits L: its block b, the slice v of its bytes -/
def Wrt (w : World) (b : Nat) (v : Value) (L : List Bool) : Prop :=
  Has w b 88 #[v, .int .i64 (L.length : Int)] ∧ w.ownsRow 0 5 1 v (pack L).length ((pack L).map bV)
theorem Wrt.chg {S : Nat → Prop} {w w' : World} {b : Nat} {v : Value} {L : List Bool} (h : Wrt w b v L) (c : Chg S w w') (hb : ¬ S b) (hv : ∀ k, v.ownBlock = some k → ¬ S k) : Wrt w' b v L :=
  ⟨h.1.chg c hb, own_chg h.2 c hv⟩
def WrX (w wr : World) (b : Nat) (v vr : Value) : Prop := Chg (fun k => k = b ∨ v.ownBlock = some k) w wr ∧ (vr.ownBlock = v.ownBlock ∨ ∀ k, vr.ownBlock = some k → w.heap.size ≤ k)
theorem WrX.append {w wr w' : World} {b : Nat} {v vr vr' : Value} (h : WrX w wr b v vr) (hc : Chg (fun k => vr.ownBlock = some k) wr w') (hf : vr'.ownBlock = vr.ownBlock ∨ ∀ k, vr'.ownBlock = some k → wr.heap.size ≤ k) : WrX w w' b v vr' := by
  obtain ⟨h1, h2⟩ := h
  refine ⟨h1.trans hc fun i hi hk => ?_, ?_⟩
  · rcases h2 with h2 | h2
    · exact Or.inr (by rw [← h2]; exact hk)
    · exact absurd (h2 i hk) (by omega)
  · rcases hf with hf | hf
    · rcases h2 with h2 | h2
      · exact Or.inl (hf.trans h2)
      · exact Or.inr fun k hk => h2 k (by rw [← hf]; exact hk)
    · exact Or.inr fun k hk => Nat.le_trans h1.size (hf k hk)
theorem WrX.step {w wr w' : World} {b : Nat} {v vr : Value} (h : WrX w wr b v vr) (hc : Chg (fun k => k = b ∨ vr.ownBlock = some k) wr w') : WrX w w' b v vr := by
  obtain ⟨h1, h2⟩ := h
  refine ⟨h1.trans hc fun i hi hk => ?_, h2⟩
  rcases hk with hk | hk
  · exact Or.inl hk
  · rcases h2 with h2 | h2
    · exact Or.inr (by rw [← h2]; exact hk)
    · exact absurd (h2 i hk) (by omega)
/-- the state in the midst of writing a bit: what the bytes are, what the count is -/
def Mid (w0 wr : World) (b : Nat) (v vr : Value) (m cnt : Nat) (Pk : List Nat) (width value : Nat) : Prop :=
  Has wr b 88 #[vr, .int .i64 (cnt : Int)] ∧ wr.ownsRow 0 5 1 vr m (Pk.map bV) ∧ Has wr w0.heap.size 91 #[.int .i64 (width : Int), .int .i64 (value : Int)] ∧ WrX w0 wr b v vr
end Go.Proofs.Ytficopkjpdfilaa
/-
  What (*bits.Writer).put does: it appends the bits of the number.
-/
namespace Go.Proofs.Ytficopkjpdfilaa
open Go.RowKit
set_option maxRecDepth 100000 in
set_option maxHeartbeats 1000000 in
theorem put_any (b : Nat) (v : Value) (L : List Bool) (width value : Nat) (w : World) (h : Wrt w b v L) (hw1 : 1 ≤ width) (hw2 : width ≤ 32) (hv : value < 4294967296) (hL : L.length + 32 ≤ 562949953421312) :
    Calls Try.prog 63 #[.pointer (some ⟨b, 0, none⟩), .agg #[.int .i64 width, .int .i64 value]] w fun e w' => e = .returned (.tuple #[]) ∧ ∃ v', Wrt w' b v' (L ++ bitsOf width value) ∧ WrX w w' b v v' := by
  obtain ⟨i0, hi, hz0, hz1, hz2⟩ := info_parts Try.info5
  have H := Lib.hid h; clear h
  go_enter Try.func63, Try.ntmps63
  go_wp2
  go_loopg [4] width (fun gk i wr => ∃ (k : Nat) (z : Int) (vr : Value), k ≤ width ∧ gk = width - k ∧ i = .int .i64 z ∧ z = (width : Int) - 1 - k ∧ Mid w wr b v vr (pack (L ++ (bitsOf width value).take k)).length (L ++ (bitsOf width value).take k).length (pack (L ++ (bitsOf width value).take k)) width value)
  case atStart => 
    refine ⟨0, _, v, by omega, by simp, rfl, by simp, ?_⟩
    rw [List.take_zero, List.append_nil]
    exact ⟨H.out.1.alloc _, H.out.2.alloc _, Has.new _ _ _, (Chg.refl _ _).alloc _, Or.inl rfl⟩
  case round =>
    obtain ⟨k, z, vr, hk, rfl, rfl, hz, hM⟩ := hrel
    by_cases hlt : k < width
    · obtain ⟨pl, hpl⟩ : ∃ pl : Nat, z = (pl : Int) := ⟨z.toNat, by omega⟩
      subst hpl
      have hk2 : pl + k + 1 = width := by omega
      have Hk := Lib.hid hk2; clear hz hk2
      have hpl31 : pl ≤ 31 := by have := Hk.out; omega
      obtain ⟨L', hL'⟩ : ∃ L', L' = L ++ (bitsOf width value).take k := ⟨_, rfl⟩
      rw [← hL'] at hM
      have hl' : L'.length ≤ L.length + 32 := by rw [hL']; simp; omega
      obtain ⟨cnt, hcnt⟩ : ∃ cnt, cnt = L'.length := ⟨_, rfl⟩
      rw [← hcnt] at hl' hM
      have hB : cnt ≤ 562949953421312 := by omega
      have HL' := Lib.hid hL'; clear hL'
      obtain ⟨m, hm⟩ : ∃ m, m = (pack L').length := ⟨_, rfl⟩
      have hm1 : 8 * m ≤ cnt + 7 := by rw [hm, hcnt]; simp; omega
      have hm2 : cnt ≤ 8 * m := by rw [hm, hcnt]; simp; omega
      rw [← hm] at hM
      have Hm := Lib.hid hm; clear hm
      have Hcnt := Lib.hid hcnt; clear hcnt
      obtain ⟨A, c, rfl, _⟩ := own_form hM.2.1
      have hc0 := hM.1.cell 0
      have hc1 := hM.1.cell 1
      have hf0 := hM.1.free 0
      simp at hc0 hc1
      have HM := Lib.hid hM; clear hM
      go_upto_if 17 with (fail)
      go_cut [] (fun wc => ∃ A m c, Mid w wc b v (.slice A m c) m cnt (pack (L' ++ [false])) width value ∧ cnt / 8 < m)
      case first =>
        by_cases h8 : cnt % 8 = 0
        · have h8' : ((cnt : Int) % 8 == 0) = true := by simp; omega
          have hm3 : cnt / 8 = m := by omega
          have Hm3 := Lib.hid hm3; clear hm3
          have H8 := Lib.hid h8; clear h8
          go_wp2_with (at_builtin; refine wpList_append_one rfl _ _ 56 rfl 0 5 i0 (.int .u8 0) 1 1 Try.underlying56 hi hz0 hz1 hz2 rfl (by decide) _ m ((pack L').map bV) rfl HM.out.2.1 #[_] rfl rfl ?a1 ?a2 ?a3 ?a4 ?_)
          case a1 => first | rfl | (intro u hu; simp at hu; subst hu; rfl)
          case a2 => simp only [maxLen]; omega
          case a3 => omega
          case a4 => omega
          intro A2 c2 w2 hO2 hC2 hF2
          have HO2 := Lib.hid hO2; clear hO2
          have HC2 := Lib.hid hC2; clear hC2
          have HF2 := Lib.hid hF2; clear hF2
          have hne : ¬ (Value.slice A m c).ownBlock = some b := own_apart HM.out.2.1 HM.out.1 (by decide)
          have hb2 := HM.out.1.chg HC2.out hne
          have hf2 := hb2.free 0
          have hc2 := hb2.cell 0
          simp at hc2
          have Hb2 := Lib.hid hb2; clear hb2
          have Hne := Lib.hid hne; clear hne
          go_wp2
          go_meet
          case rel =>
            refine ⟨A2, m + 1, c2, ⟨Hb2.out.set 0 _, ?_, ?_, ?_⟩, by have := Hm3.out; omega⟩
            · have e1 : pack (L' ++ [false]) = pack L' ++ [0] := pack_false_new L' (by rw [← Hcnt.out]; exact H8.out)
              rw [e1, List.map_append]
              refine own_chg (S := (· = b)) HO2.out ((Chg.refl (· = b) _).setCell (p := ⟨b, 0, none⟩) (fun _ => rfl) _) (fun k hk e => own_apart HO2.out Hb2.out (by decide) (e ▸ hk))
            · exact (HM.out.2.2.1.chg HC2.out (own_apart HM.out.2.1 HM.out.2.2.1 (by decide))).far (HM.out.2.2.1.apart HM.out.1 (by decide)) _
            · exact (HM.out.2.2.2.append HC2.out HF2.out).step ((Chg.refl _ _).setCell (p := ⟨b, 0, none⟩) (fun _ => Or.inl rfl) _)
        · have h8' : ((cnt : Int) % 8 == 0) = false := by simp; omega
          have hm3 : cnt / 8 < m := by omega
          have Hm3 := Lib.hid hm3; clear hm3
          have H8 := Lib.hid h8; clear h8
          go_wp2
          go_meet
          case rel =>
            refine ⟨A, m, c, ⟨HM.out.1, ?_, HM.out.2.2.1, HM.out.2.2.2⟩, Hm3.out⟩
            have e1 : pack (L' ++ [false]) = pack L' := pack_false_old L' (by rw [← Hcnt.out]; exact H8.out)
            rw [e1]; exact HM.out.2.1
      case rest =>
        clear hc0 hc1 hf0 HM
        obtain ⟨A, m, c, hM, hm3⟩ := hcut
        have hc0 := hM.1.cell 0
        have hc1 := hM.1.cell 1
        have hf1 := hM.1.free 1
        have hF1 := hM.2.2.1.cell 1
        simp at hc0 hc1 hF1
        have HM := Lib.hid hM; clear hM
        go_upto_if 32 with (fail)
        go_cut [] (fun wd => Mid w wd b v (.slice A m c) m cnt (pack (L' ++ [value / 2 ^ pl % 2 == 1])) width value)
        case first =>
          have hand := and_one value pl hv
          by_cases hx : value / 2 ^ pl % 2 = 1
          · have hxb : (value / 2 ^ pl % 2 == 1) = true := by simp [hx]
            rw [hxb] at hand
            have HXB := Lib.hid hxb; clear hx hxb
            have hqd : (cnt : Int) / 8 < (m : Int) := by omega
            have hqd0 : 0 ≤ (cnt : Int) / 8 := by omega
            have hqt : ((cnt : Int) / 8).toNat = cnt / 8 := by omega
            have e1 : IntKind.i64.wrap ((cnt : Int) / 8) = (cnt : Int) / 8 := IntWalk.i64_in _ (by omega)
            obtain ⟨g, rfl, hcell, hfree⟩ : ∃ g, A = some ⟨g, 0, none⟩ ∧ wc.cell? ⟨g, cnt / 8, none⟩ = some (.int .u8 ((byteAt L' (cnt / 8) : Nat) : Int)) ∧ wc.frozen? ⟨g, cnt / 8, none⟩ = false := by
              rcases HM.out.2.1.2 with ⟨_, hn⟩ | ⟨g, c', cur, hv, _⟩
              · omega
              · simp only [Value.slice.injEq] at hv
                obtain ⟨rfl, _, rfl⟩ := hv
                refine ⟨g, rfl, ?_, HM.out.2.1.frozenAt _⟩
                rw [HM.out.2.1.cellAt (cnt / 8) (by omega), List.getElem?_map, pack_get _ _ (by rw [List.length_append, ← Hcnt.out]; simp; omega), byteAt_snoc_false]
                rfl
            have hbl := byteAt_lt L' (cnt / 8)
            obtain ⟨x, hx⟩ : ∃ x, x = byteAt L' (cnt / 8) := ⟨_, rfl⟩
            rw [← hx] at hbl hcell
            have Hx := Lib.hid hx; clear hx
            go_wp2
            refine wp_region_still_tail 18 (by kernel_rfl) (by kernel_rfl) ?_
            simp only [List.take_succ_cons, List.take_zero, List.drop_succ_cons, List.drop_zero]
            repeat (first | still_step | still_call (mask_any cnt _ (by omega)))
            refine wpStill_nil ?_
            change wpList _ _ _ _ _ wc.drew
            go_wp2
            go_meet
            case rel =>
              have hor : bits BinOp.or IntKind.u8 (x : Int) (128 / 2 ^ (cnt % 8)) = ((x ||| 128 / 2 ^ (cnt % 8) : Nat) : Int) := by rw [mask_cast, u8_or_nat x _ hbl (mask_lt cnt)]
              rw [hor, HXB.out, pack_true, ← Hcnt.out, ← Hx.out]
              have hM := HM.out
              refine ⟨(hM.1.far (p := ⟨g, cnt / 8, none⟩) (fun e => own_apart hM.2.1 hM.1 (by decide) (by rw [e]; rfl)) _).drew, ?_, (hM.2.2.1.far (p := ⟨g, cnt / 8, none⟩) (fun e => own_apart hM.2.1 hM.2.2.1 (by decide) (by rw [e]; rfl)) _).drew, hM.2.2.2.step (((Chg.refl _ _).setCell (p := ⟨g, cnt / 8, none⟩) (fun _ => Or.inr rfl) _).drew)⟩
              rw [List.map_set]
              exact (hM.2.1.stored (cnt / 8) _).1.drew
          · have hxb : (value / 2 ^ pl % 2 == 1) = false := by simp; omega
            rw [hxb] at hand
            have HXB := Lib.hid hxb; clear hx hxb
            go_wp2
            go_meet
            case rel =>
              rw [HXB.out]; exact HM.out
        case rest =>
          clear hc0 hc1 hf1 hF1 HM
          have hM := hcut
          clear hcut
          have hc1 := hM.1.cell 1
          have hf1 := hM.1.free 1
          simp at hc1
          have HM := Lib.hid hM; clear hM
          go_wp2
          go_roundg (width - (k + 1))
          case measure => omega
          case rel =>
            have hM := HM.out
            have e2 : L ++ (bitsOf width value).take (k + 1) = L' ++ [value / 2 ^ pl % 2 == 1] := by
              rw [HL'.out, List.append_assoc, List.take_add_one, bitsOf_get width value k hlt]
              have : width - 1 - k = pl := by have := Hk.out; omega
              rw [this]; rfl
            refine ⟨k + 1, _, .slice A m c, by omega, rfl, rfl, by have := Hk.out; omega, ?_⟩
            rw [e2]
            have em : (pack (L' ++ [value / 2 ^ pl % 2 == 1])).length = m := by have := hM.2.1.1; simpa using this
            have ec : (L' ++ [value / 2 ^ pl % 2 == 1]).length = cnt + 1 := by rw [List.length_append, ← Hcnt.out]; rfl
            rw [em, ec]
            refine ⟨hM.1.set 1 _, own_chg (S := (· = b)) hM.2.1 ((Chg.refl (· = b) _).setCell (p := ⟨b, 1, none⟩) (fun _ => rfl) _) (fun k hk e => own_apart hM.2.1 hM.1 (by decide) (e ▸ hk)), hM.2.2.1.far (hM.2.2.1.apart hM.1 (by decide)) _, hM.2.2.2.step ((Chg.refl _ _).setCell (p := ⟨b, 1, none⟩) (fun _ => Or.inl rfl) _)⟩
    · obtain rfl : k = width := by omega
      have hz' : z = -1 := by omega
      clear hz
      subst hz'
      have HM := Lib.hid hM; clear hM
      go_wp2
      go_end0
      have hM := HM.out
      have e2 : (bitsOf k value).take k = bitsOf k value := List.take_of_length_le (by simp)
      rw [e2] at hM
      exact ⟨rfl, vr, ⟨hM.1, hM.2.1⟩, hM.2.2.2⟩
end Go.Proofs.Ytficopkjpdfilaa
/-
  What (*bits.Writer).Put, Len and Bytes do, for every input within the stated bounds.
-/
namespace Go.Proofs.Ytficopkjpdfilaa
open Go.RowKit

/-- n fields in memory, in a block of F -/
def Flds (w : World) (F : Nat → Prop) (A : Option Addr) (n : Nat) (fw fv : Nat → Int) : Prop :=
  ∀ i, i < n → ∃ a, A = some a ∧ F a.block ∧ w.cell? (a.add (i * 2)) = some (.int .i64 (fw i)) ∧ w.cell? ⟨(a.add (i * 2)).block, (a.add (i * 2)).off + 1, none⟩ = some (.int .i64 (fv i))
theorem Flds.chg {w w' : World} {S F : Nat → Prop} {n : Nat} {A : Option Addr} {fw fv : Nat → Int} (h : Flds w F A n fw fv) (c : Chg S w w') (hF : ∀ k, F k → k < w.heap.size ∧ ¬ S k) : Flds w' F A n fw fv := fun i hi => by
  obtain ⟨a, rfl, hb, h1, h2⟩ := h i hi
  have e : (a.add (i * 2)).block < w.heap.size ∧ ¬ S (a.add (i * 2)).block := by rw [add_block]; exact hF _ hb
  exact ⟨a, rfl, hb, (c.cell e.1 e.2).trans h1, (c.cell (p := ⟨(a.add (i * 2)).block, _, none⟩) e.1 e.2).trans h2⟩
theorem WrX.trans {w wr w1 w' : World} {b : Nat} {v vr v' : Value} (h : WrX w wr b v vr) (hn : New wr w1) (h2 : WrX w1 w' b vr v') : WrX w w' b v v' := by
  obtain ⟨c1, f1⟩ := h
  obtain ⟨c2, f2⟩ := h2
  refine ⟨(c1.then_new hn).trans c2 fun i hi hk => ?_, ?_⟩
  · rcases hk with hk | hk
    · exact Or.inl hk
    · rcases f1 with f1 | f1
      · exact Or.inr (by rw [← f1]; exact hk)
      · exact absurd (f1 i hk) (by omega)
  · rcases f2 with f2 | f2
    · rcases f1 with f1 | f1
      · exact Or.inl (f2.trans f1)
      · exact Or.inr fun k hk => f1 k (by rw [← f2]; exact hk)
    · exact Or.inr fun k hk => Nat.le_trans (c1.then_new hn).size (f2 k hk)
set_option maxRecDepth 100000 in
set_option maxHeartbeats 1000000 in
theorem Put_no (b : Nat) (F : Nat → Prop) (A : Option Addr) (n c : Nat) (fw fv : Nat → Int) (w : World) (hA : Flds w F A n fw fv) (hF : ∀ k, F k → k < w.heap.size) (hn : n ≤ 140737488351232) (j : Nat) (hj : j < n) (hbad : okF (fw j) (fv j) = false) :
    Calls Try.prog 43 #[.pointer (some ⟨b, 0, none⟩), .slice A n c] w fun e w' => e = .returned (.int .i64 2) ∧ New w w' := by
  have HA := Lib.hid hA; clear hA
  have Hbad := Lib.hid hbad; clear hbad
  have HF := Lib.hid hF; clear hF
  go_enter Try.func43, Try.ntmps43
  go_wp2
  go_loopg [11] n (fun gk i wr => ∃ k : Nat, k ≤ j ∧ gk = n - k ∧ i = .int .i64 k ∧ New w wr)
  case atStart => exact ⟨0, by omega, by omega, rfl, Chg.refl _ _⟩
  case round =>
    obtain ⟨k, hk, rfl, rfl, hC⟩ := hrel
    have hlt : k < n := by omega
    obtain ⟨a, rfl, hab, h1, h2⟩ := (HA.out.chg hC (fun k hk => ⟨HF.out k hk, fun f => f⟩)) k hlt
    have HC := Lib.hid hC; clear hC
    obtain ⟨x, hx⟩ : ∃ x, x = fw k := ⟨_, rfl⟩
    obtain ⟨y, hy⟩ : ∃ y, y = fv k := ⟨_, rfl⟩
    rw [← hx] at h1
    rw [← hy] at h2
    by_cases hok : okF x y = true
    · have hkj : k < j := by
        rcases Nat.lt_or_ge k j with h | h
        · exact h
        · obtain rfl : k = j := by omega
          rw [hx, hy, Hbad.out] at hok; cases hok
      have Hx := Lib.hid hx; clear hx
      have Hy := Lib.hid hy; clear hy
      go_wp2_with (go_at_call 62; refine (bright_any _ _ _).mono ?_; rintro e w' ⟨rfl, hN⟩; have HN := Lib.hid hN; clear hN)
      go_roundg (n - (k + 1))
      case measure => omega
      case rel => exact ⟨k + 1, by omega, rfl, by go_num, ((HC.out.alloc _).then_new HN.out)⟩
    · have hok : okF x y = false := by simpa using hok
      clear hx hy
      go_wp2_with (go_at_call 62; refine (bright_any _ _ _).mono ?_; rintro e w' ⟨rfl, hN⟩; have HN := Lib.hid hN; clear hN)
      go_ret
      exact ⟨rfl, ((HC.out.alloc _).then_new HN.out)⟩
def fbits (fw fv : Nat → Int) : Nat → List Bool
  | 0 => []
  | n + 1 => fbits fw fv n ++ bitsOf (fw n).toNat (fv n).toNat
theorem okF_bounds {x y : Int} (h : okF x y = true) : 1 ≤ x ∧ x ≤ 32 ∧ 0 ≤ y ∧ y < 4294967296 ∧ y < 2 ^ x.toNat := by
  simp only [okF, decide_eq_true_eq] at h
  have := two_pow_le x.toNat (by omega)
  exact ⟨h.1, h.2.1, h.2.2.1, by omega, h.2.2.2⟩
theorem fbits_len (fw fv : Nat → Int) (n : Nat) (h : ∀ i, i < n → okF (fw i) (fv i) = true) : (fbits fw fv n).length ≤ 32 * n := by
  induction n with
  | zero => simp [fbits]
  | succ n ih =>
    have h1 := ih (fun i hi => h i (by omega))
    have h2 := okF_bounds (h n (by omega))
    simp only [fbits, List.length_append, bitsOf_length]; omega
set_option maxRecDepth 100000 in
set_option maxHeartbeats 1000000 in
theorem Put_ok (b : Nat) (F : Nat → Prop) (v : Value) (L : List Bool) (A : Option Addr) (n c : Nat) (fw fv : Nat → Int) (w : World) (hW : Wrt w b v L) (hA : Flds w F A n fw fv) (hF : ∀ k, F k → k < w.heap.size ∧ k ≠ b ∧ v.ownBlock ≠ some k)
    (hn : L.length + 32 * n + 32 ≤ 562949953421312) (hok : ∀ j, j < n → okF (fw j) (fv j) = true) :
    Calls Try.prog 43 #[.pointer (some ⟨b, 0, none⟩), .slice A n c] w fun e w' => e = .returned (.int .i64 0) ∧ ∃ v', Wrt w' b v' (L ++ fbits fw fv n) ∧ WrX w w' b v v' := by
  have HA := Lib.hid hA; clear hA
  have Hok := Lib.hid hok; clear hok
  have HW := Lib.hid hW; clear hW
  have HF := Lib.hid hF; clear hF
  go_enter Try.func43, Try.ntmps43
  go_wp2
  go_loopg [4, 11] n (fun gk r i wr => ∃ k : Nat, k ≤ n ∧ gk = n - k ∧ r = .int .i64 0 ∧ i = .int .i64 k ∧ New w wr)
  case atStart => exact ⟨0, by omega, by omega, rfl, rfl, Chg.refl _ _⟩
  case round =>
    obtain ⟨k, hk, rfl, rfl, rfl, hC⟩ := hrel
    by_cases hlt : k < n
    · obtain ⟨a, rfl, hab, h1, h2⟩ := (HA.out.chg hC (fun k hk => ⟨(HF.out k hk).1, fun f => f⟩)) k hlt
      have HC := Lib.hid hC; clear hC
      have hok := Hok.out k hlt
      obtain ⟨x, hx⟩ : ∃ x, x = fw k := ⟨_, rfl⟩
      obtain ⟨y, hy⟩ : ∃ y, y = fv k := ⟨_, rfl⟩
      rw [← hx] at h1 hok
      rw [← hy] at h2 hok
      clear hx hy
      go_wp2_with (go_at_call 62; refine (bright_any _ _ _).mono ?_; rintro e w' ⟨rfl, hN⟩; have HN := Lib.hid hN; clear hN)
      go_roundg (n - (k + 1))
      case measure => omega
      case rel => exact ⟨k + 1, by omega, rfl, rfl, by go_num, ((HC.out.alloc _).then_new HN.out)⟩
    · have HC := Lib.hid hC; clear hC
      go_wp2
      go_loopg [21] n (fun gk i wr => ∃ (k : Nat) (vr : Value), k ≤ n ∧ gk = n - k ∧ i = .int .i64 k ∧ Wrt wr b vr (L ++ fbits fw fv k) ∧ WrX w wr b v vr)
      case atStart => exact ⟨0, v, by omega, by omega, rfl, by rw [fbits, List.append_nil]; exact HW.out.chg HC.out (fun f => f) (fun _ _ f => f), HC.out.of_new, Or.inl rfl⟩
      case round =>
        clear hk HC hlt
        obtain ⟨k, vr, hk, rfl, rfl, hW', hX⟩ := hrel
        by_cases hlt : k < n
        · obtain ⟨a, rfl, hab, h1, h2⟩ := (HA.out.chg hX.1 (fun i hi => ⟨(HF.out i hi).1, fun e => by
            rcases e with e | e
            · exact (HF.out i hi).2.1 e
            · exact (HF.out i hi).2.2 e⟩)) k hlt
          have hok := Hok.out k hlt
          have hfl := fbits_len fw fv k (fun i hi => Hok.out i (by omega))
          obtain ⟨x, hx⟩ : ∃ x, x = fw k := ⟨_, rfl⟩
          obtain ⟨y, hy⟩ : ∃ y, y = fv k := ⟨_, rfl⟩
          rw [← hx] at h1 hok
          rw [← hy] at h2 hok
          obtain ⟨b1, b2, b3, b4, b5⟩ := okF_bounds hok
          obtain ⟨xn, rfl⟩ : ∃ xn : Nat, x = (xn : Int) := ⟨x.toNat, by omega⟩
          obtain ⟨yn, rfl⟩ : ∃ yn : Nat, y = (yn : Int) := ⟨y.toNat, by omega⟩
          have Hx := Lib.hid hx; clear hx
          have Hy := Lib.hid hy; clear hy
          have HW' := Lib.hid hW'; clear hW'
          have HX := Lib.hid hX; clear hX
          clear hok b5 b3
          have hP := fun wy (c : Chg (fun _ => False) wr wy) => put_any b vr (L ++ fbits fw fv k) xn yn wy (HW'.out.chg c (fun f => f) (fun _ _ f => f)) (by omega) (by omega) (by omega) (by rw [List.length_append]; omega)
          have HP := Lib.hid hP; clear hP
          go_wp2_with (go_at_call 63; refine (HP.out _ ((Chg.refl _ _).alloc _)).mono ?_; rintro e w' ⟨rfl, v', hW2, hX2⟩; have HW2 := Lib.hid hW2; have HX2 := Lib.hid hX2; clear hW2 hX2)
          go_roundg (n - (k + 1))
          case measure => omega
          case rel =>
            refine ⟨k + 1, v', by omega, rfl, by go_num, ?_, ?_⟩
            · rw [fbits, ← Hx.out, ← Hy.out, ← List.append_assoc]; exact HW2.out
            · exact HX.out.trans ((Chg.refl _ _).alloc _) HX2.out
        · obtain rfl : k = n := by omega
          have HW' := Lib.hid hW'; clear hW'
          have HX := Lib.hid hX; clear hX
          go_wp2
          go_ret
          exact ⟨rfl, vr, HW'.out, HX.out⟩
theorem range_getD {α : Type} (l : List α) (d : α) : (List.range l.length).map (fun i => l.getD i d) = l := by
  apply List.ext_getElem?
  intro i
  by_cases hi : i < l.length
  · simp [hi]
  · rw [List.getElem?_eq_none (by simp; omega), List.getElem?_eq_none (by omega)]
theorem getD_mem {α : Type} (l : List α) (d : α) {i : Nat} (h : i < l.length) : l.getD i d ∈ l := by
  simp [List.getD_eq_getElem?_getD, List.getElem?_eq_getElem h]
set_option maxRecDepth 100000 in
set_option maxHeartbeats 400000 in
/-- the bytes of a writer, in new memory -/
theorem Bytes_any (b : Nat) (v : Value) (L : List Bool) (w : World) (h : Wrt w b v L) (hL : L.length + 7 ≤ 562949953421312) :
    Calls Try.prog 45 #[.pointer (some ⟨b, 0, none⟩)] w fun e w' => ∃ A' c', e = .returned (.slice A' (pack L).length c') ∧ w'.ownsRow w.heap.size 5 1 (.slice A' (pack L).length c') (pack L).length ((pack L).map bV) ∧ New w w' := by
  obtain ⟨hH, hO⟩ := h
  obtain ⟨A, c, rfl, hnil⟩ := own_form hO
  have hml : (pack L).length ≤ 140737488351232 := by simp; omega
  obtain ⟨m, hm⟩ : ∃ m, m = (pack L).length := ⟨_, rfl⟩
  have hxl : ((pack L).map bV).length = m := by rw [List.length_map, hm]
  have h1 : ∀ x ∈ (pack L).map bV, x.oneCell' = true := by intro x hx; rw [List.mem_map] at hx; obtain ⟨y, _, rfl⟩ := hx; rfl
  rw [← hm] at hH hO hnil hml ⊢
  clear hm
  have hc0 := hH.cell 0
  simp at hc0
  have hcl := clone_any A m c _ (fun i => ((pack L).map bV).getD i undef) w (Arr.of_own hO) hnil (fun i hi => h1 _ (getD_mem _ _ (by omega))) (by omega)
  rw [← hxl, range_getD, hxl] at hcl
  clear hH hO hnil h1 hxl
  have HC := Lib.hid hcl; clear hcl
  go_enter Try.func45, Try.ntmps45
  go_wp2_with (go_at_call 64; refine HC.out.mono ?_; rintro e w' ⟨A', c', rfl, ho, hn⟩; have HO := Lib.hid ho; have HN := Lib.hid hn; clear ho hn)
  go_ret
  exact ⟨_, _, rfl, HO.out, HN.out⟩
end Go.Proofs.Ytficopkjpdfilaa
/-
  Facts that laws over bits share: bytes as strings, Read of bytes in memory, what was put is taken so.
-/
namespace Go.Proofs.Ytficopkjpdfilaa
open Go.RowKit

theorem Wr_zero (w : World) : Wrt (w.alloc (.cells #[.slice none 0 0, .int .i64 0] 88)) w.heap.size (.slice none 0 0) [] :=
  ⟨Has.new _ _ _, World.ownsRow_nil _ _ _ _⟩
/-- Read of bytes that lie in memory -/
theorem bRead_any (A : Option Addr) (n c : Nat) (F : Nat → Prop) (bs : List Nat) (w : World) (hA : Arr w F A n (fun i => bV (bs.getD i 0))) (hlen : bs.length = n) (hn : A = none → n = 0 ∧ c = 0) (hb : n ≤ 140737488351232) :
    Calls Try.prog 48 #[.slice A n c] w fun e w' => ∃ b, e = .returned (.pointer (some ⟨b, 0, none⟩)) ∧ Rd w' b bs 0 0 ∧ New w w' ∧ w.heap.size ≤ b := by
  refine (read_any A n c F _ w hA hn (fun i hi => rfl) hb).mono ?_
  rintro e w' ⟨A', c', b, rfl, hH, hO, hN, hbl⟩
  subst hlen
  rw [map_getD_bV] at hO
  refine ⟨b, rfl, ⟨A', c', hH, own_base hO (by intro k _; omega)⟩, hN, hbl⟩
theorem Rd.other {w w' : World} {b b' : Nat} {bs bs' : List Nat} {p p' : Nat} {er er' : Int} (h : Rd w b bs p er) (h' : Rd w b' bs' p' er') (hne : b ≠ b') (c : Chg (· = b') w w') : Rd w' b bs p er := by
  obtain ⟨A, cc, hH, hO⟩ := h
  obtain ⟨cs, hcs⟩ := h'.has
  exact ⟨A, cc, hH.chg c hne, own_chg hO c fun k hk e => own_apart hO hcs (by decide) (e ▸ hk)⟩
theorem Rd.new {w w' : World} {b : Nat} {bs : List Nat} {p : Nat} {er : Int} (h : Rd w b bs p er) (c : New w w') : Rd w' b bs p er := h.chg c fun _ _ f => f
theorem Wrt.new {w w' : World} {b : Nat} {v : Value} {L : List Bool} (h : Wrt w b v L) (c : New w w') : Wrt w' b v L := h.chg c (fun f => f) fun _ _ f => f
theorem Wrt.beside {w w' : World} {b : Nat} {vw : Value} {L : List Bool} (h : Wrt w b vw L) {base e size n : Nat} {v : Value} {xs : List Value} (ho : w.ownsRow base e size v n xs) (h5 : e ≠ 5) (h26 : e ≠ 88) (c : Chg (fun k => v.ownBlock = some k) w w') : Wrt w' b vw L :=
  ⟨h.1.chg c (own_apart ho h.1 h26), own_chg h.2 c fun k hk hk' => own_own_apart h.2 ho (fun e => h5 e.symm) k hk hk'⟩
theorem fbits_succ_take (fw fv : Nat → Int) (i n : Nat) (h : i ≤ n) : ∃ R, fbits fw fv n = fbits fw fv i ++ R := by
  induction n with
  | zero => obtain rfl : i = 0 := by omega
            exact ⟨[], by simp⟩
  | succ n ih =>
    rcases Nat.lt_or_ge n i with h1 | h1
    · obtain rfl : i = n + 1 := by omega
      exact ⟨[], by simp⟩
    · obtain ⟨R, hR⟩ := ih h1
      exact ⟨R ++ bitsOf (fw n).toNat (fv n).toNat, by rw [fbits, hR, List.append_assoc]⟩
theorem fbits_sum (fw fv : Nat → Int) (n : Nat) : (fbits fw fv n).length = sumN (fun i => (fw i).toNat) n := by
  induction n with
  | zero => rfl
  | succ n ih => simp only [fbits, List.length_append, bitsOf_length, sumN, ih]
/-- what was put is taken so -/
theorem numAt_fbits (fw fv : Nat → Int) (n i : Nat) (hi : i < n) (hok : okF (fw i) (fv i) = true) : numAt (pack (fbits fw fv n)) (sumN (fun i => (fw i).toNat) i) (fw i).toNat = (fv i).toNat := by
  obtain ⟨R, hR⟩ := fbits_succ_take fw fv (i + 1) n (by omega)
  have hb := okF_bounds hok
  have hL := unpack_pack_take (fbits fw fv n)
  have hle : (fbits fw fv n).length = sumN (fun i => (fw i).toNat) i + (fw i).toNat + R.length := by
    rw [hR, List.length_append, fbits_sum]; rfl
  unfold numAt
  have : (((unpack (pack (fbits fw fv n))).drop (sumN (fun i => (fw i).toNat) i)).take (fw i).toNat) = bitsOf (fw i).toNat (fv i).toNat := by
    have e1 : ((unpack (pack (fbits fw fv n))).drop (sumN (fun i => (fw i).toNat) i)).take (fw i).toNat = (((unpack (pack (fbits fw fv n))).take (fbits fw fv n).length).drop (sumN (fun i => (fw i).toNat) i)).take (fw i).toNat := by
      rw [List.drop_take, List.take_take]
      congr 1
      omega
    rw [e1, hL, hR, fbits, ← fbits_sum fw fv i, List.append_assoc, List.drop_left, List.take_append_of_le_length (by simp)]
    rw [List.take_of_length_le (by simp)]
  rw [this, numOf_bitsOf]
  apply Nat.mod_eq_of_lt
  have h2 := hb.2.2.2.2
  have : ((fv i).toNat : Int) < ((2 ^ (fw i).toNat : Nat) : Int) := by
    rw [Int.natCast_pow]
    have := hb.2.2.1
    simp only [Int.toNat_of_nonneg this]
    exact h2
  exact_mod_cast this
theorem own_arr_ints {w : World} {base n c : Nat} {A : Option Addr} {f : Nat → Int} (h : w.ownsRow base 3 1 (.slice A n c) n ((List.range n).map (fun i => .int .i64 (f i)))) (h0 : ∀ i, i < n → 0 ≤ f i) : Arr w (fun k => Value.ownBlock (.slice A n c) = some k) A n (fun i => jV (f i).toNat) := by
  intro i hi
  obtain ⟨a, ha, hb, hc⟩ := Arr.of_own h i hi
  refine ⟨a, ha, hb, ?_⟩
  rw [hc]
  have := h0 i hi
  simp [hi, jV, Int.toNat_of_nonneg this]
def fcells (fw fv : Nat → Int) : Nat → List Value
  | 0 => []
  | n + 1 => fcells fw fv n ++ [.int .i64 (fw n), .int .i64 (fv n)]
theorem fcells_len (fw fv : Nat → Int) (n : Nat) : (fcells fw fv n).length = n * 2 := by
  induction n with
  | zero => rfl
  | succ n ih => simp only [fcells, List.length_append, ih, List.length_cons, List.length_nil]; omega
theorem fcells_get (fw fv : Nat → Int) (n i : Nat) (h : i < n) : (fcells fw fv n)[i * 2]? = some (.int .i64 (fw i)) ∧ (fcells fw fv n)[i * 2 + 1]? = some (.int .i64 (fv i)) := by
  induction n with
  | zero => omega
  | succ n ih =>
    simp only [fcells]
    rcases Nat.lt_or_ge i n with h1 | h1
    · have := ih h1
      rw [List.getElem?_append_left (by rw [fcells_len]; omega), List.getElem?_append_left (by rw [fcells_len]; omega)]
      exact this
    · obtain rfl : i = n := by omega
      rw [List.getElem?_append_right (by rw [fcells_len]; omega), List.getElem?_append_right (by rw [fcells_len]; omega), fcells_len]
      have e1 : i * 2 - i * 2 = 0 := by omega
      have e2 : i * 2 + 1 - i * 2 = 1 := by omega
      rw [e1, e2]
      exact ⟨rfl, rfl⟩
theorem fcells_one (fw fv : Nat → Int) (n : Nat) : ∀ u ∈ fcells fw fv n, u.oneCell' = true := by
  induction n with
  | zero => simp [fcells]
  | succ n ih =>
    intro u hu
    simp only [fcells, List.mem_append, List.mem_cons, List.not_mem_nil, or_false] at hu
    rcases hu with hu | rfl | rfl
    · exact ih u hu
    · rfl
    · rfl
theorem Flds.cells {w : World} {F : Nat → Prop} {A : Option Addr} {n : Nat} {fw fv : Nat → Int} (h : Flds w F A n fw fv) : ∀ j u, (fcells fw fv n)[j]? = some u → ∃ ad, A = some ad ∧ w.cell? (ad.add j) = some u := by
  intro j u hu
  have hj : j < n * 2 := by
    rcases Nat.lt_or_ge j (n * 2) with h1 | h1
    · exact h1
    · rw [List.getElem?_eq_none (by rw [fcells_len]; exact h1)] at hu; cases hu
  obtain ⟨q, hq⟩ : ∃ q, q = j / 2 := ⟨_, rfl⟩
  obtain ⟨a, rfl, _, h1, h2⟩ := h q (by omega)
  have hg := fcells_get fw fv n q (by omega)
  rcases (show j = q * 2 ∨ j = q * 2 + 1 by omega) with e | e
  · rw [e, hg.1] at hu
    simp only [Option.some.injEq] at hu
    subst hu
    exact ⟨a, rfl, by rw [e]; exact h1⟩
  · rw [e, hg.2] at hu
    simp only [Option.some.injEq] at hu
    subst hu
    refine ⟨a, rfl, ?_⟩
    have e2 : (a.add (q * 2)).add 1 = a.add (q * 2 + 1) := by
      unfold Addr.add
      by_cases h0 : q * 2 = 0 <;> simp [h0, Nat.add_assoc]
    rw [e, ← e2]
    exact h2
def fcat (n : Nat) (f g : Nat → Int) (i : Nat) : Int := if i < n then f i else g (i - n)
theorem fcells_congr (fw fv fw' fv' : Nat → Int) (n : Nat) (h : ∀ i, i < n → fw i = fw' i ∧ fv i = fv' i) : fcells fw fv n = fcells fw' fv' n := by
  induction n with
  | zero => rfl
  | succ n ih => simp only [fcells]; rw [ih (fun i hi => h i (by omega)), (h n (by omega)).1, (h n (by omega)).2]
theorem fcells_cat (fw fv gw gv : Nat → Int) (n m : Nat) : fcells (fcat n fw gw) (fcat n fv gv) (n + m) = fcells fw fv n ++ fcells gw gv m := by
  induction m with
  | zero =>
    simp only [Nat.add_zero, fcells, List.append_nil]
    exact fcells_congr _ _ _ _ n (fun i hi => by simp [fcat, hi])
  | succ m ih =>
    rw [← Nat.add_assoc, fcells, ih, fcells, List.append_assoc]
    have h1 : ¬ n + m < n := by omega
    simp [fcat, h1]
theorem fbits_congr (fw fv fw' fv' : Nat → Int) (n : Nat) (h : ∀ i, i < n → fw i = fw' i ∧ fv i = fv' i) : fbits fw fv n = fbits fw' fv' n := by
  induction n with
  | zero => rfl
  | succ n ih => simp only [fbits]; rw [ih (fun i hi => h i (by omega)), (h n (by omega)).1, (h n (by omega)).2]
theorem fbits_cat (fw fv gw gv : Nat → Int) (n m : Nat) : fbits (fcat n fw gw) (fcat n fv gv) (n + m) = fbits fw fv n ++ fbits gw gv m := by
  induction m with
  | zero =>
    simp only [Nat.add_zero, fbits, List.append_nil]
    exact fbits_congr _ _ _ _ n (fun i hi => by simp [fcat, hi])
  | succ m ih =>
    rw [← Nat.add_assoc, fbits, ih, fbits, List.append_assoc]
    have h1 : ¬ n + m < n := by omega
    simp [fcat, h1]
/-- fields in a row of the call's own -/
theorem Flds.of_own {w : World} {base c : Nat} {A : Option Addr} {n : Nat} {fw fv : Nat → Int} (h : w.ownsRow base 91 2 (.slice A n c) n (fcells fw fv n)) : Flds w (fun k => Value.ownBlock (.slice A n c) = some k) A n fw fv := by
  intro i hi
  rcases h.2 with ⟨hv, hn⟩ | ⟨g, cap, cur, hv, _, hg, _⟩
  · omega
  · simp only [Value.slice.injEq] at hv
    obtain ⟨rfl, _, rfl⟩ := hv
    have hh := fcells_get fw fv n i hi
    have hadd : (⟨g, 0, none⟩ : Addr).add (i * 2) = ⟨g, i * 2, none⟩ := by unfold Addr.add; split <;> simp_all
    refine ⟨_, rfl, rfl, ?_, ?_⟩
    · rw [hadd, h.cellAt (i * 2) (by omega)]; exact hh.1
    · rw [hadd, h.cellAt (i * 2 + 1) (by omega)]; exact hh.2
end Go.Proofs.Ytficopkjpdfilaa
