/-
  Rows of bytes that are known whole: made, laid over by copy, written byte by byte, read as a string.
-/
import Derived.Test.YtkcokcanakljnaaSeqC
import Derived.Laws.CopyOwn
import Derived.Laws.BitsAllLaws
import Derived.Laws.BitsLemmas
import Derived.IntWalk
import Derived.Test.YtkcokcanakljnaaRows
import Derived.Test.YtkcokcanakljnaaIqE
import Derived.WalkKit
import Derived.WalkSpells
import Derived.WalkLawsBesides
import Derived.BigQuiet
import Derived.Deep.QuietTactic
import Derived.Lib.Hide
import Derived.Deep.DeepCutAuto
import Derived.Deep.RegionWith
import Derived.Deep.LoopGhost
import Derived.StillTailTactics
import Derived.Laws.BytesArg
import Derived.Test.YtkcokcanakljnaaIpB
import Derived.Test.YtkcokcanakljnaaIqH
import Derived.Deep.RegionHeldLaw
import Derived.BigRegion
import Derived.Test.YtkcokcanakljnaaIqB
import Derived.Test.YtkcokcanakljnaaIqM
import Derived.Lib.SmallJoins
namespace Go.Proofs.Ytkcokcanakljnaa
open Go.ChangeShapes Go.WideShapes Go.ChangeAt Go.RowKit
theorem Try.size5 (w : World) : (sizeOf 5).run Try.prog w = .ok 1 w := by
  obtain ⟨i0, hi, hz0, hz1, hz2⟩ := info_parts Try.info5
  simp [sizeOf, typeInfo, hi, hz1]
theorem Try.sizes5 : (Try.prog.info? 5).map (·.size) = some 1 := by kernel_rfl
/-- copy into a block that is known whole -/
theorem wpList_copy_has {w : World} {ops : Array Oper} {rest : List Oper} {o : Oper} {a : Act} {Q : Exit → Act → World → Prop} (hgd : o.guard = none) (d s : Operand)
    (ho : o.op = .call { callee := .builtin .copy, args := #[d, s], argTypes := #[27, 27] }) (g off m c : Nat) (hd : a.eval d = .slice (some ⟨g, off, none⟩) m c)
    (A : Option Addr) (n cs : Nat) (hs : a.eval s = .slice A n cs) (t : TypeId) (cur : List Value) (hg : Has w g t cur.toArray)
    (F : Nat → Prop) (f : Nat → Value) (hA : Arr w F A n f) (h1 : ∀ i, i < n → (f i).oneCell' = true) (hfit : off + m ≤ cur.length)
    (h : ∀ w', Has w' g t (splice cur off ((List.range (Nat.min n m)).map f)).toArray → Chg (· = g) w w' → wpList Try.prog ops Q rest (a.put o.dst (goInt (Nat.min n m))) w') :
    wpList Try.prog ops Q (o :: rest) a w := by
  have hle : Nat.min n m ≤ n := Nat.min_le_left n m
  have hle2 : Nat.min n m ≤ m := Nat.min_le_right n m
  by_cases h0 : Nat.min n m = 0
  · refine wpList_copy_nothing hgd d s 27 27 ho 5 Try.underlying27 Try.sizes5 _ _ _ _ _ _ hd hs h0 ?_
    rw [h0] at h
    exact h w (by simpa [splice] using hg) (Chg.refl _ _)
  · obtain ⟨ad, rfl, _, _⟩ := hA 0 (by omega)
    have hl : ((List.range (Nat.min n m)).map f).length = Nat.min n m := by simp
    refine wpList_copy_own hgd d s 27 27 ho 5 Try.underlying27 Try.sizes5 g off m c ad n cs hd hs cur.toArray t hg ((List.range (Nat.min n m)).map f) hl ?_ (by rw [hl, List.size_toArray]; omega) ?_ ?_
    · intro j v hv
      obtain ⟨hj, rfl⟩ := map_range_get hv
      obtain ⟨ad', ha, _, hc⟩ := hA j (by omega)
      cases ha
      exact hc
    · intro v hv
      simp only [List.mem_map, List.mem_range] at hv
      obtain ⟨j, hj, rfl⟩ := hv
      exact h1 j (by omega)
    · rw [hl]
      refine h _ (by have := setRow_heap w g cur.toArray (splice cur off ((List.range (Nat.min n m)).map f)).toArray t (0, 0) hg; simpa [Has, splice] using this) ⟨rfl, rfl, rfl, by simp [World.setRow], fun k _ hk => setRow_other w g k _ hk⟩
theorem splice_small {B bs : List Nat} {off : Nat} (hB : ∀ x ∈ B, x < 256) (hb : ∀ x ∈ bs, x < 256) : ∀ x ∈ splice B off bs, x < 256 := by
  intro x hx
  unfold splice at hx
  simp only [List.mem_append] at hx
  rcases hx with hx | hx | hx
  · exact hB x (List.mem_of_mem_take hx)
  · exact hb x hx
  · exact hB x (List.mem_of_mem_drop hx)
theorem bs_range (bs : List Nat) (n : Nat) (h : bs.length = n) : (List.range n).map (fun i => bV (bs.getD i 0)) = bs.map bV := by subst h; exact map_getD_bV bs
/-- block g holds just the bytes bs -/
def Row (w : World) (g : Nat) (bs : List Nat) : Prop := Has w g 5 (bs.map bV).toArray
theorem Row.chg {w w' : World} {S : Nat → Prop} {g : Nat} {bs : List Nat} (h : Row w g bs) (c : Chg S w w') (hS : ¬ S g) : Row w' g bs := Has.chg h c hS
theorem Row.new {w w' : World} {g : Nat} {bs : List Nat} (h : Row w g bs) (c : New w w') : Row w' g bs := Has.chg h c fun f => f
theorem Row.lt {w : World} {g : Nat} {bs : List Nat} (h : Row w g bs) : g < w.heap.size := Has.lt h
theorem Row.arr {w : World} {g n : Nat} {bs : List Nat} (h : Row w g bs) (hn : bs.length = n) : Arr w (· = g) (some ⟨g, 0, none⟩) n (fun i => bV (bs.getD i 0)) := by
  subst hn
  intro i hi
  refine ⟨_, rfl, rfl, ?_⟩
  have hadd : (⟨g, 0, none⟩ : Addr).add i = ⟨g, i, none⟩ := by unfold Addr.add; split <;> simp_all
  rw [hadd, Has.cell h]
  simp [hi]
theorem Row.string {w : World} {g n c : Nat} {bs : List Nat} (h : Row w g bs) (hn : bs.length = n) (hb : ∀ x ∈ bs, x < 256) : (convert 27 9 (.slice (some ⟨g, 0, none⟩) n c)).run Try.prog w = .ok (.string (bstr bs)) w :=
  arr_string Try.underlying27 Try.underlying5 Try.underlying9 (h.arr hn) hn hb (fun h => by cases h)
theorem own_str {w : World} {base n c : Nat} {A : Option Addr} {bs : List Nat} (h : w.ownsRow base 5 1 (.slice A n c) n (bs.map bV)) : (convert 27 9 (.slice A n c)).run Try.prog w = .ok (.string (bstr bs)) w :=
  own_string Try.underlying27 Try.underlying5 Try.underlying9 h
/-- noughts by their number -/
def zs (n : Nat) : List Nat := List.replicate n 0
theorem zs_len (n : Nat) : (zs n).length = n := List.length_replicate
theorem zs_small (n : Nat) : ∀ x ∈ zs n, x < 256 := fun x hx => by rw [(List.mem_replicate.1 hx).2]; decide
/-- the first n bytes, filled up by noughts -/
def pad (n : Nat) (xs : List Nat) : List Nat := splice (zs n) 0 (xs.take n)
theorem pad_len (n : Nat) (xs : List Nat) : (pad n xs).length = n := by
  unfold pad
  rw [length_splice _ _ _ (by simp [zs]; omega), zs_len]
theorem pad_small (n : Nat) (xs : List Nat) (h : ∀ x ∈ xs, x < 256) : ∀ x ∈ pad n xs, x < 256 := splice_small (zs_small n) fun x hx => h x (List.mem_of_mem_take hx)
/-- 'make([]byte, n)' -/
theorem wpList_make_row {w : World} {ops : Array Oper} {rest : List Oper} {o : Oper} {a : Act} {Q : Exit → Act → World → Prop} (hgd : o.guard = none) (l c : Operand) (hop : o.op = Op.makeSlice 27 l c)
    (L : Int) (n : Nat) (hl : a.eval l = .int .i64 L) (hc : a.eval c = .int .i64 L) (hL : L = (n : Int)) (hn : n ≤ 1000)
    (hK : ∀ g w', Hid (w.heap.size = g) → Row w' g (zs n) → New w w' → wpList Try.prog ops Q rest (a.put o.dst (.slice (some ⟨g, 0, none⟩) n n)) w') :
    wpList Try.prog ops Q (o :: rest) a w := by
  obtain ⟨i0, hi, hz0, hz1, hz2⟩ := info_parts Try.info5
  refine wpList_make_full w hgd l c 27 hop w.heap.size 5 i0 (.int .u8 0) 1 Try.underlying27 hi hz0 hz1 .i64 .i64 L L n hl hc hL hL (by rw [hz2]; omega) (by simp only [maxLen]; omega) (Nat.le_refl _) ?_
  intro w' ho hg
  refine hK _ w' rfl ?_ (Chg.grown (Chg.refl _ _) hg (by intro k hk; cases hk))
  rcases ho.2 with ⟨hv, _⟩ | ⟨g', cap, cur, hv, _, hh, _, _, hs, ht⟩
  · cases hv
  · simp only [Value.slice.injEq, Option.some.injEq, Addr.mk.injEq, and_true, true_and] at hv
    obtain ⟨rfl, rfl⟩ := hv
    rw [List.take_of_length_le (by rw [Array.length_toList, hs]; omega)] at ht
    have h1 : (Value.int IntKind.u8 0).cells = #[.int .u8 0] := rfl
    rw [h1, Nat.mul_one, toList_madeCells_one] at ht
    have : cur = ((zs n).map bV).toArray := by
      apply Array.toList_inj.1
      rw [ht]
      simp [zs, bV]
    unfold Row Has
    rw [hh, this]
theorem take_range {xs : List Nat} {n m : Nat} (hl : xs.length = n) : (List.range (Nat.min n m)).map (fun i => bV (xs.getD i 0)) = (xs.take m).map bV := by
  subst hl
  apply List.ext_getElem?
  intro i
  rw [List.getElem?_map, List.getElem?_map, List.getElem?_take]
  by_cases hi : i < Nat.min xs.length m
  · rw [List.getElem?_range hi]
    have h1 : i < xs.length := Nat.lt_of_lt_of_le hi (Nat.min_le_left _ _)
    have h2 : i < m := Nat.lt_of_lt_of_le hi (Nat.min_le_right _ _)
    simp [h1, h2]
  · rw [List.getElem?_eq_none (by simpa using hi)]
    by_cases h2 : i < m
    · have h1 : ¬ i < xs.length := fun h => hi (Nat.lt_min.2 ⟨h, h2⟩)
      simp [h2, h1]
    · simp [h2]
theorem splice_map (B bs : List Nat) (off : Nat) : splice (B.map bV) off (bs.map bV) = (splice B off bs).map bV := by
  simp [splice]
/-- 'copy(b, xs)' onto noughts -/
theorem wpList_copy_pad {w : World} {ops : Array Oper} {rest : List Oper} {o : Oper} {a : Act} {Q : Exit → Act → World → Prop} (hgd : o.guard = none) (d s : Operand)
    (ho : o.op = .call { callee := .builtin .copy, args := #[d, s], argTypes := #[27, 27] }) (g m : Nat) (hd : a.eval d = .slice (some ⟨g, 0, none⟩) m m)
    (A : Option Addr) (n c : Nat) (hs : a.eval s = .slice A n c) (hg : Row w g (zs m))
    (F : Nat → Prop) (xs : List Nat) (hA : Arr w F A n (fun i => bV (xs.getD i 0))) (hl : xs.length = n)
    (h : ∀ w', Row w' g (pad m xs) → Chg (· = g) w w' → wpList Try.prog ops Q rest (a.put o.dst (goInt (Nat.min n m))) w') :
    wpList Try.prog ops Q (o :: rest) a w := by
  refine wpList_copy_has hgd d s ho g 0 m m hd A n c hs 5 _ hg F _ hA (fun _ _ => rfl) (by simp [zs]) ?_
  intro w' hH hC
  rw [take_range hl, splice_map] at hH
  exact h w' hH hC
theorem Row.set {w : World} {g i x : Nat} {bs : List Nat} (h : Row w g bs) : Row (w.setCell ⟨g, i, none⟩ (.int .u8 (x : Int))) g (bs.set i x) := by
  have := Has.set h i (bV x)
  unfold Row
  rw [List.map_set]
  simpa [bV] using this
/-- a byte of which all bits are turned is a byte -/
theorem turn_byte (y : Nat) (hy : y < 256) : ∃ z : Nat, bits .xor .u8 (y : Int) 255 = (z : Int) ∧ z < 256 := by
  have h := u8_xor_nat y 255 hy (by decide)
  exact ⟨y ^^^ 255, h, Nat.xor_lt_two_pow (n := 8) hy (by decide)⟩
theorem map_set_bV (ys : List Nat) (t z : Nat) : (ys.map bV).set t (.int .u8 (z : Int)) = (ys.set t z).map bV := by rw [List.map_set]; rfl
theorem set_small {ys : List Nat} {t z : Nat} (h : ∀ x ∈ ys, x < 256) (hz : z < 256) : ∀ x ∈ ys.set t z, x < 256 := by
  intro x hx
  rcases List.mem_or_eq_of_mem_set hx with h1 | h1
  · exact h x h1
  · omega
theorem own_byte {w : World} {base q c n t : Nat} {ys : List Nat} (h : w.ownsRow base 5 1 (.slice (some ⟨q, 0, none⟩) n c) n (ys.map bV)) (hy : ∀ y ∈ ys, y < 256) (ht : t < n) : ∃ y : Nat, w.cell? ⟨q, t, none⟩ = some (.int .u8 (y : Int)) ∧ y < 256 ∧ w.frozen? ⟨q, t, none⟩ = false := by
  have hl := own_length h
  refine ⟨ys.getD t 0, ?_, getD_lt ys hy t, own_free h t⟩
  have := h.cellAt t (by omega)
  rw [this, List.getElem?_map, List.getElem?_eq_getElem (by omega)]
  simp [bV, List.getElem?_eq_getElem (show t < ys.length by omega)]
theorem own_turn {w : World} {base q c n t z : Nat} {ys : List Nat} (h : w.ownsRow base 5 1 (.slice (some ⟨q, 0, none⟩) n c) n (ys.map bV)) : (w.setCell ⟨q, t, none⟩ (.int .u8 (z : Int))).ownsRow base 5 1 (.slice (some ⟨q, 0, none⟩) n c) n ((ys.set t z).map bV) ∧ Chg (· = q) w (w.setCell ⟨q, t, none⟩ (.int .u8 (z : Int))) := by
  refine ⟨?_, Chg.setCell (S := (· = q)) (Chg.refl _ _) (fun _ => rfl) _⟩
  rw [← map_set_bV]
  exact own_put h t _
/-- the index of a sector out of any number -/
theorem turn_in (i n : Int) (hn : 0 < n) (hb : n ≤ 1000) : (∃ j : Nat, Int.tmod (Int.tmod i n + n) n = (j : Int) ∧ (j : Int) < n) ∧ wrap64 (Int.tmod i n + n) = Int.tmod i n + n := by
  have h1 : Int.tmod i n < n := Int.tmod_lt_of_pos i hn
  have h2 : -n < Int.tmod i n := Int.lt_tmod_of_pos i hn
  have h3 := Int.emod_nonneg (Int.tmod i n + n) (show n ≠ 0 by omega)
  have h4 := Int.emod_lt_of_pos (Int.tmod i n + n) hn
  refine ⟨⟨((Int.tmod i n + n) % n).toNat, ?_, by omega⟩, w64 _ (by omega) (by omega)⟩
  rw [Int.tmod_eq_emod_of_nonneg (by omega)]
  omega
end Go.Proofs.Ytkcokcanakljnaa
/-
  Plain mathematics of bit fields: numbers as bits, bits as bytes, and back.
-/
namespace Go.Proofs.Ytkcokcanakljnaa
def bitsOf : Nat → Nat → List Bool
  | 0, _ => []
  | n + 1, v => (v / 2 ^ n % 2 == 1) :: bitsOf n v
def numOf (l : List Bool) : Nat := l.foldl (fun n b => 2 * n + b.toNat) 0
def unpack (bs : List Nat) : List Bool := bs.flatMap (bitsOf 8)
def byteAt (L : List Bool) (i : Nat) : Nat := numOf ((List.range 8).map fun k => L.getD (8 * i + k) false)
def pack (L : List Bool) : List Nat := (List.range ((L.length + 7) / 8)).map (byteAt L)

@[simp] theorem bitsOf_length : ∀ n v, (bitsOf n v).length = n
  | 0, _ => rfl
  | n + 1, v => by simp [bitsOf, bitsOf_length n v]
theorem numOf_snoc (l : List Bool) (b : Bool) : numOf (l ++ [b]) = 2 * numOf l + b.toNat := by simp [numOf, List.foldl_append]
theorem numOf_from (l : List Bool) : ∀ a : Nat, l.foldl (fun n b => 2 * n + b.toNat) a = a * 2 ^ l.length + numOf l := by
  induction l with
  | nil => intro a; simp [numOf]
  | cons b l ih =>
    intro a
    have h0 := ih (2 * 0 + b.toNat)
    simp only [List.foldl_cons, List.length_cons, numOf] at ih h0 ⊢
    rw [ih, h0]
    rw [Nat.pow_succ, Nat.add_mul, Nat.mul_comm 2 a, Nat.mul_assoc, Nat.mul_comm 2 (2 ^ l.length)]
    simp [Nat.add_assoc]
theorem numOf_cons (b : Bool) (l : List Bool) : numOf (b :: l) = b.toNat * 2 ^ l.length + numOf l := by
  have := numOf_from l (2 * 0 + b.toNat)
  simpa [numOf] using this
theorem numOf_lt (l : List Bool) : numOf l < 2 ^ l.length := by
  induction l with
  | nil => simp [numOf]
  | cons b l ih =>
    rw [numOf_cons, List.length_cons, Nat.pow_succ]
    cases b <;> simp <;> omega
theorem numOf_bitsOf : ∀ n v, numOf (bitsOf n v) = v % 2 ^ n
  | 0, v => by simp [bitsOf, numOf, Nat.mod_one]
  | n + 1, v => by
    rw [bitsOf, numOf_cons, numOf_bitsOf n v, bitsOf_length, Nat.pow_succ, Nat.mod_mul]
    have : v / 2 ^ n % 2 = 0 ∨ v / 2 ^ n % 2 = 1 := by omega
    rcases this with h | h <;> simp [h] <;> omega
theorem bitsOf_get (n v k : Nat) (h : k < n) : (bitsOf n v)[k]? = some (v / 2 ^ (n - 1 - k) % 2 == 1) := by
  induction n generalizing k with
  | zero => omega
  | succ n ih =>
    cases k with
    | zero => simp [bitsOf]
    | succ k =>
      have := ih k (by omega)
      simp only [bitsOf, List.getElem?_cons_succ]
      rw [this]
      have e : n + 1 - 1 - (k + 1) = n - 1 - k := by omega
      rw [e]
@[simp] theorem unpack_length (bs : List Nat) : (unpack bs).length = 8 * bs.length := by
  induction bs with
  | nil => rfl
  | cons x bs ih => simp only [unpack, List.flatMap_cons, List.length_append, bitsOf_length, List.length_cons] at ih ⊢; omega
theorem unpack_get (bs : List Nat) (p : Nat) (h : p < 8 * bs.length) : (unpack bs)[p]? = some (bs.getD (p / 8) 0 / 2 ^ (7 - p % 8) % 2 == 1) := by
  induction bs generalizing p with
  | nil => simp at h
  | cons x bs ih =>
    simp only [unpack, List.flatMap_cons] at ih ⊢
    by_cases hp : p < 8
    · rw [List.getElem?_append_left (by simpa using hp), bitsOf_get 8 x p hp]
      have e1 : p / 8 = 0 := by omega
      have e2 : p % 8 = p := by omega
      rw [e1, e2]; simp
    · rw [List.getElem?_append_right (by simp; omega), bitsOf_length, ih (p - 8) (by simp at h; omega)]
      have e1 : p / 8 = (p - 8) / 8 + 1 := by omega
      have e2 : (p - 8) % 8 = p % 8 := by omega
      rw [e1, e2]; simp
theorem numOf8 (f : Nat → Bool) : numOf ((List.range 8).map f) = 128 * (f 0).toNat + 64 * (f 1).toNat + 32 * (f 2).toNat + 16 * (f 3).toNat + 8 * (f 4).toNat + 4 * (f 5).toNat + 2 * (f 6).toNat + (f 7).toNat := by
  have : List.range 8 = [0, 1, 2, 3, 4, 5, 6, 7] := by decide
  rw [this]; simp only [List.map, numOf, List.foldl]; omega
theorem byteAt_lt (L : List Bool) (i : Nat) : byteAt L i < 256 := by
  have := numOf_lt ((List.range 8).map fun k => L.getD (8 * i + k) false)
  simpa [byteAt] using this
@[simp] theorem pack_length (L : List Bool) : (pack L).length = (L.length + 7) / 8 := by simp [pack]
theorem pack_get (L : List Bool) (i : Nat) (h : i < (L.length + 7) / 8) : (pack L)[i]? = some (byteAt L i) := by
  simp [pack, h]
theorem pack_getD (L : List Bool) (i : Nat) : (pack L).getD i 0 = byteAt L i := by
  by_cases h : i < (L.length + 7) / 8
  · simp [List.getD, pack_get L i h]
  · have : (pack L)[i]? = none := by rw [List.getElem?_eq_none]; simp; omega
    rw [List.getD_eq_getElem?_getD, this, byteAt, numOf8]
    have hz : ∀ k, L.getD (8 * i + k) false = false := fun k => by
      rw [List.getD_eq_getElem?_getD, List.getElem?_eq_none (by omega)]; rfl
    simp only [hz]; rfl
theorem pack_mem (L : List Bool) : ∀ x ∈ pack L, x < 256 := by
  intro x hx
  simp only [pack, List.mem_map] at hx
  obtain ⟨i, _, rfl⟩ := hx
  exact byteAt_lt L i
theorem getD_snoc_ne (L : List Bool) (x : Bool) (j : Nat) (h : j ≠ L.length) : (L ++ [x]).getD j false = L.getD j false := by
  simp only [List.getD_eq_getElem?_getD]
  by_cases hj : j < L.length
  · rw [List.getElem?_append_left hj]
  · rw [List.getElem?_eq_none (by simp; omega), List.getElem?_eq_none (by omega)]
theorem getD_snoc_eq (L : List Bool) (x : Bool) : (L ++ [x]).getD L.length false = x := by
  simp [List.getD_eq_getElem?_getD]
theorem getD_past (L : List Bool) (j : Nat) (h : L.length ≤ j) : L.getD j false = false := by
  rw [List.getD_eq_getElem?_getD, List.getElem?_eq_none h]; rfl
theorem byteAt_snoc_false (L : List Bool) (i : Nat) : byteAt (L ++ [false]) i = byteAt L i := by
  unfold byteAt
  congr 1
  apply List.map_congr_left
  intro k _
  by_cases h : 8 * i + k = L.length
  · rw [h, getD_snoc_eq, getD_past _ _ (Nat.le_refl _)]
  · exact getD_snoc_ne L false _ h
theorem byteAt_snoc_other (L : List Bool) (x : Bool) (i : Nat) (h : i ≠ L.length / 8) : byteAt (L ++ [x]) i = byteAt L i := by
  unfold byteAt
  congr 1
  apply List.map_congr_left
  intro k hk
  have hk : k < 8 := by simpa using hk
  exact getD_snoc_ne L x _ (by omega)
theorem or_bit (k : Nat) (hk : k < 8) (a b c d e f g h : Bool) (h0 : k ≤ 0 → a = false) (h1 : k ≤ 1 → b = false) (h2 : k ≤ 2 → c = false) (h3 : k ≤ 3 → d = false) (h4 : k ≤ 4 → e = false) (h5 : k ≤ 5 → f = false) (h6 : k ≤ 6 → g = false) (h7 : k ≤ 7 → h = false) :
    128 * (if 0 = k then true else a).toNat + 64 * (if 1 = k then true else b).toNat + 32 * (if 2 = k then true else c).toNat + 16 * (if 3 = k then true else d).toNat + 8 * (if 4 = k then true else e).toNat + 4 * (if 5 = k then true else f).toNat + 2 * (if 6 = k then true else g).toNat + (if 7 = k then true else h).toNat =
    (128 * a.toNat + 64 * b.toNat + 32 * c.toNat + 16 * d.toNat + 8 * e.toNat + 4 * f.toNat + 2 * g.toNat + h.toNat) ||| (128 / 2 ^ k) := by
  have hh : k = 0 ∨ k = 1 ∨ k = 2 ∨ k = 3 ∨ k = 4 ∨ k = 5 ∨ k = 6 ∨ k = 7 := by omega
  rcases hh with rfl | rfl | rfl | rfl | rfl | rfl | rfl | rfl
  · rw [h0 (by omega), h1 (by omega), h2 (by omega), h3 (by omega), h4 (by omega), h5 (by omega), h6 (by omega), h7 (by omega)]; decide
  · rw [h1 (by omega), h2 (by omega), h3 (by omega), h4 (by omega), h5 (by omega), h6 (by omega), h7 (by omega)]; clear h0 h1 h2 h3 h4 h5 h6 h7; revert a; decide
  · rw [h2 (by omega), h3 (by omega), h4 (by omega), h5 (by omega), h6 (by omega), h7 (by omega)]; clear h0 h1 h2 h3 h4 h5 h6 h7; revert a b; decide
  · rw [h3 (by omega), h4 (by omega), h5 (by omega), h6 (by omega), h7 (by omega)]; clear h0 h1 h2 h3 h4 h5 h6 h7; revert a b c; decide
  · rw [h4 (by omega), h5 (by omega), h6 (by omega), h7 (by omega)]; clear h0 h1 h2 h3 h4 h5 h6 h7; revert a b c d; decide
  · rw [h5 (by omega), h6 (by omega), h7 (by omega)]; clear h0 h1 h2 h3 h4 h5 h6 h7; revert a b c d e; decide
  · rw [h6 (by omega), h7 (by omega)]; clear h0 h1 h2 h3 h4 h5 h6 h7; revert a b c d e f; decide
  · rw [h7 (by omega)]; clear h0 h1 h2 h3 h4 h5 h6 h7; revert a b c d e f g; decide
theorem byteAt_snoc_true (L : List Bool) : byteAt (L ++ [true]) (L.length / 8) = byteAt L (L.length / 8) ||| 128 / 2 ^ (L.length % 8) := by
  unfold byteAt
  rw [numOf8, numOf8]
  have e : ∀ k, k < 8 → (L ++ [true]).getD (8 * (L.length / 8) + k) false = if k = L.length % 8 then true else L.getD (8 * (L.length / 8) + k) false := by
    intro k hk
    by_cases h : k = L.length % 8
    · rw [if_pos h]
      have : 8 * (L.length / 8) + k = L.length := by omega
      rw [this, getD_snoc_eq]
    · rw [if_neg h]; exact getD_snoc_ne L true _ (by omega)
  have z : ∀ k, L.length % 8 ≤ k → L.getD (8 * (L.length / 8) + k) false = false := fun k hk => getD_past L _ (by omega)
  rw [e 0 (by omega), e 1 (by omega), e 2 (by omega), e 3 (by omega), e 4 (by omega), e 5 (by omega), e 6 (by omega), e 7 (by omega)]
  exact or_bit (L.length % 8) (by omega) _ _ _ _ _ _ _ _ (z 0) (z 1) (z 2) (z 3) (z 4) (z 5) (z 6) (z 7)
theorem pack_false_new (L : List Bool) (h : L.length % 8 = 0) : pack (L ++ [false]) = pack L ++ [0] := by
  apply List.ext_getElem?
  intro i
  by_cases hi : i < (L.length + 7) / 8
  · rw [pack_get _ _ (by simp; omega), List.getElem?_append_left (by simpa using hi), pack_get _ _ hi, byteAt_snoc_false]
  · by_cases hi2 : i = (L.length + 7) / 8
    · rw [pack_get _ _ (by simp; omega), List.getElem?_append_right (by simp; omega), byteAt_snoc_false, ← pack_getD, List.getD_eq_getElem?_getD, List.getElem?_eq_none (by simp; omega)]
      simp [hi2]
    · rw [List.getElem?_eq_none (by simp; omega), List.getElem?_eq_none (by simp; omega)]
theorem pack_false_old (L : List Bool) (h : L.length % 8 ≠ 0) : pack (L ++ [false]) = pack L := by
  apply List.ext_getElem?
  intro i
  by_cases hi : i < (L.length + 7) / 8
  · rw [pack_get _ _ (by simp; omega), pack_get _ _ hi, byteAt_snoc_false]
  · rw [List.getElem?_eq_none (by simp; omega), List.getElem?_eq_none (by simp; omega)]
theorem pack_true (L : List Bool) : pack (L ++ [true]) = (pack (L ++ [false])).set (L.length / 8) (byteAt L (L.length / 8) ||| 128 / 2 ^ (L.length % 8)) := by
  apply List.ext_getElem?
  intro i
  rw [List.getElem?_set]
  by_cases hi : i < (L.length + 8) / 8
  · rw [pack_get _ _ (by simp; omega), pack_get _ _ (by simp; omega)]
    by_cases h2 : L.length / 8 = i
    · rw [if_pos h2, if_pos (by simp; omega), ← h2, byteAt_snoc_true]
    · rw [if_neg h2, byteAt_snoc_false, byteAt_snoc_other L true i (by omega)]
  · rw [List.getElem?_eq_none (by simp; omega), if_neg (by omega), List.getElem?_eq_none (by simp; omega)]
theorem bit8 : ∀ (k : Nat) (_ : k < 8) (a b c d e f g h : Bool), ((128 * a.toNat + 64 * b.toNat + 32 * c.toNat + 16 * d.toNat + 8 * e.toNat + 4 * f.toNat + 2 * g.toNat + h.toNat) / 2 ^ (7 - k) % 2 == 1) =
    (if k = 0 then a else if k = 1 then b else if k = 2 then c else if k = 3 then d else if k = 4 then e else if k = 5 then f else if k = 6 then g else h) := by decide
theorem byteAt_bit (L : List Bool) (i k : Nat) (hk : k < 8) : (byteAt L i / 2 ^ (7 - k) % 2 == 1) = L.getD (8 * i + k) false := by
  unfold byteAt
  rw [numOf8, bit8 k hk]
  match k, hk with
  | 0, _ => rfl
  | 1, _ => rfl
  | 2, _ => rfl
  | 3, _ => rfl
  | 4, _ => rfl
  | 5, _ => rfl
  | 6, _ => rfl
  | 7, _ => rfl
theorem unpack_pack_get (L : List Bool) (p : Nat) (h : p < L.length) : (unpack (pack L))[p]? = L[p]? := by
  rw [unpack_get _ _ (by simp; omega), pack_getD, byteAt_bit _ _ _ (by omega)]
  have : 8 * (p / 8) + p % 8 = p := by omega
  rw [this, List.getD_eq_getElem?_getD, List.getElem?_eq_getElem h]
  rfl
theorem unpack_pack_take (L : List Bool) : (unpack (pack L)).take L.length = L := by
  apply List.ext_getElem?
  intro p
  by_cases h : p < L.length
  · rw [List.getElem?_take_of_lt h, unpack_pack_get L p h]
  · rw [List.getElem?_eq_none (by simp; omega), List.getElem?_eq_none (by omega)]
/-- the number in the next bits of bytes -/
def numAt (bs : List Nat) (at_ n : Nat) : Nat := numOf (((unpack bs).drop at_).take n)
theorem numAt_succ (bs : List Nat) (at_ n : Nat) (h : at_ + n < 8 * bs.length) : numAt bs at_ (n + 1) = 2 * numAt bs at_ n + (bs.getD ((at_ + n) / 8) 0 / 2 ^ (7 - (at_ + n) % 8) % 2 == 1).toNat := by
  unfold numAt
  rw [← numOf_snoc]
  congr 1
  have hg := unpack_get bs (at_ + n) h
  rw [List.take_add_one, List.getElem?_drop, hg]
  rfl
theorem numAt_zero (bs : List Nat) (at_ : Nat) : numAt bs at_ 0 = 0 := by simp [numAt, numOf]
theorem numAt_lt (bs : List Nat) (at_ n : Nat) : numAt bs at_ n < 2 ^ n := by
  have h := numOf_lt (((unpack bs).drop at_).take n)
  have : (((unpack bs).drop at_).take n).length ≤ n := List.length_take_le _ _
  exact Nat.lt_of_lt_of_le h (Nat.pow_le_pow_right (by omega) this)
theorem mask_cast (q : Nat) : (128 : Int) / 2 ^ (q % 8) = ((128 / 2 ^ (q % 8) : Nat) : Int) := by simp
theorem mask_pow (k : Nat) (h : k < 8) : 128 / 2 ^ k = 2 ^ (7 - k) := by
  have hh : k = 0 ∨ k = 1 ∨ k = 2 ∨ k = 3 ∨ k = 4 ∨ k = 5 ∨ k = 6 ∨ k = 7 := by omega
  rcases hh with rfl | rfl | rfl | rfl | rfl | rfl | rfl | rfl <;> decide
theorem mask_lt (q : Nat) : 128 / 2 ^ (q % 8) < 256 := Nat.lt_of_le_of_lt (Nat.div_le_self _ _) (by omega)
theorem bit_test (x q : Nat) (hx : x < 256) : (bits BinOp.and IntKind.u8 (x : Int) (128 / 2 ^ (q % 8)) != 0) = (x / 2 ^ (7 - q % 8) % 2 == 1) := by
  rw [mask_cast, u8_and_nat x _ hx (mask_lt q), mask_pow _ (by omega), nat_bit]
  have hp : 0 < 2 ^ (7 - q % 8) := Nat.two_pow_pos _
  have : x / 2 ^ (7 - q % 8) % 2 = 0 ∨ x / 2 ^ (7 - q % 8) % 2 = 1 := by omega
  rcases this with h | h <;> rw [h]
  · simp
  · rw [Bool.eq_iff_iff]; simp; intro h0; exact absurd h0 (by
      have := Int.natCast_pos.2 hp
      push_cast at this
      omega)
theorem or_one (n : Nat) (h : n < 2147483648) : bits BinOp.or IntKind.i64 ((n : Int) * 2) 1 = ((2 * n + 1 : Nat) : Int) := by
  rw [bits_join .i64 62 (by decide) (fun n h0 h1 => IntWalk.i64_in n (by omega)) 1 _ _ (by omega) (by omega) (by omega) (by omega) (by omega) (by omega)]
  push_cast; omega
theorem and_one (v pl : Nat) (h : v < 4294967296) : (bits BinOp.and IntKind.i64 ((v : Int) / 2 ^ pl) 1 == 1) = (v / 2 ^ pl % 2 == 1) := by
  have e : (v : Int) / 2 ^ pl = ((v / 2 ^ pl : Nat) : Int) := by simp
  have hle : v / 2 ^ pl ≤ v := Nat.div_le_self _ _
  rw [e]
  obtain ⟨q, hq⟩ : ∃ q, q = v / 2 ^ pl := ⟨_, rfl⟩
  rw [← hq] at hle ⊢
  have hm := bits_mask .i64 62 (by decide) (fun n h0 h1 => IntWalk.i64_in n (by omega)) 1 (by decide) (q : Int) (by omega) (by omega)
  have : (2 : Int) ^ 1 - 1 = 1 := rfl
  rw [this] at hm
  rw [hm, Bool.eq_iff_iff]
  simp only [beq_iff_eq]
  omega
end Go.Proofs.Ytkcokcanakljnaa
/-
  What bits.rightWidth, mask, Left, check, slices.Clone, bits.Read and number do, for every input within the stated bounds.
-/
namespace Go.Proofs.Ytkcokcanakljnaa
open Go.RowKit

def rw (n : Int) : Bool := decide (1 ≤ n ∧ n ≤ 32)

set_option maxRecDepth 100000 in
set_option maxHeartbeats 400000 in
theorem rightWidth_any (n : Int) (w : World) :
    Calls Try.prog 92 #[.int .i64 n] w fun e w' => e = .returned (.bool (rw n)) ∧ w = w' := by
  by_cases h1 : 1 ≤ n <;> by_cases h2 : n ≤ 32
  all_goals
    go_enter Try.func92, Try.ntmps92
    go_wp2
    go_ret
    refine ⟨?_, rfl⟩
    simp [rw, h1, h2]

set_option maxRecDepth 100000 in
set_option maxHeartbeats 400000 in
theorem mask_any (n : Nat) (w : World) (hn : n ≤ 9223372036854775807) :
    Calls Try.prog 93 #[.int .i64 n] w fun e w' => e = .returned (.int .u8 ((128 / 2 ^ (n % 8) : Nat) : Int)) ∧ w' = w := by
  have e1 := mask_cast n
  have He := Lib.hid e1; clear e1
  go_enter Try.func93, Try.ntmps93
  go_wp2
  go_ret
  refine ⟨?_, rfl⟩
  rw [← He.out]; rfl
set_option maxRecDepth 100000 in
set_option maxHeartbeats 400000 in
theorem left_any (b : Nat) (a : Option Addr) (len cap : Nat) (n e : Int) (w : World) (hl : len ≤ 1152921504606846975) (hn : 0 ≤ n) (hn2 : n ≤ 8 * len) 
   (h : w.heap[b]? = some (.cells #[.slice a len cap, .int .i64 n, .int .i64 e] 167 (0,0))) :
    Calls Try.prog 102 #[.pointer (some ⟨b, 0, none⟩)] w fun e w' => e = .returned (.int .i64 (8 * len - n)) ∧ ∃ k, w' = w.drewN k := by
  have hc : w.cell? ⟨b, 1, none⟩ = some (.int .i64 n) := by simp [World.cell?, h]
  have hc0 : w.cell? ⟨b, 0, none⟩ = some (.slice a len cap) := by simp [World.cell?, h]
  clear h
  have e1 : IntKind.i64.wrap (8 * len) = 8 * len := IntWalk.i64_in _ (by omega)
  have e2 : IntKind.i64.wrap (8 * len - n) = 8 * len - n := IntWalk.i64_in _ (by omega)
  go_enter Try.func102, Try.ntmps102
  go_wp2
  go_quiet (fail)
  go_wp2
  go_ret
  exact ⟨rfl, _, rfl⟩
def sumTo (f : Nat → Int) : Nat → Int
  | 0 => 0
  | n + 1 => sumTo f n + f n
/-- what check answers: 2 for a wrong width, 10 if they are too many, 0 -/
def chk (f : Nat → Int) (n : Nat) (left : Int) : Int :=
  if ∃ i, i < n ∧ ¬ (1 ≤ f i ∧ f i ≤ 32) then 2 else if left < sumTo f n then 10 else 0
theorem sumTo_le (f : Nat → Int) (n : Nat) (h : ∀ i, i < n → 1 ≤ f i ∧ f i ≤ 32) : n ≤ sumTo f n ∧ sumTo f n ≤ 32 * n := by
  induction n with
  | zero => simp [sumTo]
  | succ n ih =>
    have h1 := ih (fun i hi => h i (by omega))
    have h2 := h n (by omega)
    simp only [sumTo]; omega
open Classical in
set_option maxRecDepth 100000 in
set_option maxHeartbeats 400000 in
theorem check_any (b : Nat) (a : Option Addr) (len cap : Nat) (at_ e : Int) (w : World) (hl : len ≤ 1152921504606846975) (hn : 0 ≤ at_) (hn2 : at_ ≤ 8 * len) 
   (h : w.heap[b]? = some (.cells #[.slice a len cap, .int .i64 at_, .int .i64 e] 167 (0,0)))
   (A : Option Addr) (n c : Nat) (f : Nat → Int) (hnb : n ≤ 35184372088832) (hf : ∀ i, i < n → ∃ ad, A = some ad ∧ w.cell? (ad.add i) = some (.int .i64 (f i))) :
    Calls Try.prog 97 #[.pointer (some ⟨b, 0, none⟩), .slice A n c] w fun e w' => e = .returned (.int .i64 (chk f n (8 * len - at_))) ∧ ∃ k, w' = w.drewN k := by
  go_enter Try.func97, Try.ntmps97
  go_wp2
  go_loop [5, 10] (fun s i => ∃ k : Nat, k ≤ n ∧ i = .int .i64 k ∧ s = .int .i64 (sumTo f k) ∧ (∀ j, j < k → 1 ≤ f j ∧ f j ≤ 32)) (fun _ i => n - (intOf i).toNat)
  case atStart => exact ⟨0, Nat.zero_le _, rfl, rfl, fun j hj => absurd hj (by omega)⟩
  case round =>
    obtain ⟨k, hk, rfl, rfl, hall⟩ := hrel
    have hs := sumTo_le f k hall
    by_cases hlt : k < n
    · obtain ⟨ad, rfl, hc⟩ := hf k hlt
      have H := Lib.hid hall; clear hall
      have Hf := Lib.hid hf; clear hf
      have Hh := Lib.hid h; clear h
      by_cases hr : 1 ≤ f k ∧ f k ≤ 32
      · have hrw : rw (f k) = true := by simp [rw, hr]
        obtain ⟨hr1, hr2⟩ := hr
        go_wp2_with (go_at_call 92; refine (rightWidth_any _ _).mono ?_; rintro e w' ⟨rfl, rfl⟩)
        go_round
        case rel => exact ⟨k + 1, by omega, by go_num, rfl, fun j hj => by
          rcases Nat.lt_succ_iff_lt_or_eq.1 hj with h1 | rfl
          · exact H.out j h1
          · exact ⟨hr1, hr2⟩⟩
        case measure => simp [intOf]; omega
      · have hrw : rw (f k) = false := by simp only [rw, hr, decide_false]
        have HR := Lib.hid hr; clear hr
        go_wp2_with (go_at_call 92; refine (rightWidth_any _ _).mono ?_; rintro e w' ⟨rfl, rfl⟩)
        go_ret
        refine ⟨?_, 0, rfl⟩
        have : chk f n (8 * len - at_) = 2 := by unfold chk; rw [if_pos ⟨k, hlt, HR.out⟩]
        rw [this]; rfl
    · obtain rfl : k = n := by omega
      have H := Lib.hid hall; clear hall
      have Hf := Lib.hid hf; clear hf
      have Hh := Lib.hid h; clear h
      by_cases hgt : 8 * (len : Int) - at_ < sumTo f k
      all_goals
        go_wp2_with (go_at_call 102; refine (left_any b a len cap at_ e _ hl hn hn2 Hh.out).mono ?_; rintro e w' ⟨rfl, kk, rfl⟩)
        go_ret
        refine ⟨?_, _, rfl⟩
      · have : chk f k (8 * len - at_) = 10 := by
          unfold chk; rw [if_neg, if_pos hgt]
          rintro ⟨i, hi, hb⟩; exact hb (H.out i hi)
        rw [this]; rfl
      · have : chk f k (8 * len - at_) = 0 := by
          unfold chk; rw [if_neg, if_neg (by omega)]
          rintro ⟨i, hi, hb⟩; exact hb (H.out i hi)
        rw [this]; rfl
set_option maxRecDepth 100000 in
set_option maxHeartbeats 400000 in
theorem read_any (A : Option Addr) (n c : Nat) (F : Nat → Prop) (f : Nat → Value) (w : World) (hA : Arr w F A n f) (hn : A = none → n = 0 ∧ c = 0) (h1 : ∀ i, i < n → (f i).oneCell' = true) (hb : n ≤ 140737488351232) :
    Calls Try.prog 83 #[.slice A n c] w fun e w' => ∃ A' c' b, e = .returned (.pointer (some ⟨b, 0, none⟩)) ∧ Has w' b 167 #[.slice A' n c', .int .i64 0, .int .i64 0] ∧ w'.ownsRow w.heap.size 5 1 (.slice A' n c') n ((List.range n).map f) ∧ New w w' ∧ w.heap.size ≤ b := by
  have HA := Lib.hid hA; clear hA
  have H1 := Lib.hid h1; clear h1
  have HN := Lib.hid hn; clear hn
  go_enter Try.func83, Try.ntmps83
  go_wp2_with (go_at_call 77; refine (clone_any A n c F f _ HA.out HN.out H1.out (by omega)).mono ?_; rintro e w' ⟨A', c', rfl, ho, hg⟩; have Ho := Lib.hid ho; have Hg := Lib.hid hg; clear ho hg)
  go_ret
  exact ⟨_, _, _, rfl, Has.new _ _ _, Ho.out.alloc _, Hg.out.alloc _, Hg.out.size⟩
/-- a reader of the bytes bs at bit p -/
def Rd (w : World) (b : Nat) (bs : List Nat) (p : Nat) (er : Int) : Prop :=
  ∃ A c, Has w b 167 #[.slice A bs.length c, .int .i64 (p : Int), .int .i64 er] ∧ w.ownsRow 0 5 1 (.slice A bs.length c) bs.length (bs.map bV)
theorem Rd.chg {S : Nat → Prop} {w w' : World} {b : Nat} {bs : List Nat} {p : Nat} {er : Int} (h : Rd w b bs p er) (c : Chg S w w') (hS : ∀ k, k < w.heap.size → ¬ S k) : Rd w' b bs p er := by
  obtain ⟨A, cc, h1, h2⟩ := h
  refine ⟨A, cc, h1.chg c (hS _ h1.lt), own_chg h2 c fun k hk => hS _ ?_⟩
  exact (h2.lt k hk).2

set_option maxRecDepth 100000 in
set_option maxHeartbeats 1000000 in
theorem number_any (b : Nat) (bs : List Nat) (p : Nat) (er : Int) (width : Nat) (w : World) (h : Rd w b bs p er) (hp : p + width ≤ 8 * bs.length) (hw : width ≤ 32) (hl : bs.length ≤ 140737488351232) (h256 : ∀ x ∈ bs, x < 256) :
    Calls Try.prog 98 #[.pointer (some ⟨b, 0, none⟩), .int .i64 width] w fun e w' => e = .returned (.int .i64 (numAt bs p width)) ∧ Rd w' b bs (p + width) er ∧ Chg (· = b) w w' := by
  have H := Lib.hid h; clear h
  have H256 := Lib.hid h256; clear h256
  go_enter Try.func98, Try.ntmps98
  go_wp2
  go_loopw [5, 7] (fun n i wr => ∃ k : Nat, k ≤ width ∧ i = .int .i64 k ∧ n = .int .i64 (numAt bs p k) ∧ Rd wr b bs (p + k) er ∧ Chg (· = b) w wr) (fun _ i _ => width - (intOf i).toNat)
  case atStart => exact ⟨0, Nat.zero_le _, rfl, by rw [numAt_zero]; rfl, H.out, Chg.refl _ _⟩
  case round =>
    obtain ⟨k, hk, rfl, rfl, hR, hC⟩ := hrel
    have HC := Lib.hid hC; clear hC
    by_cases hlt : k < width
    · have hnl := numAt_lt bs p k
      have hn31 : (numAt bs p k) < 2147483648 := Nat.lt_of_lt_of_le hnl (Nat.pow_le_pow_right (n := 2) (by omega) (show k ≤ 31 by omega))
      clear hnl
      obtain ⟨N, hN⟩ : ∃ N, N = numAt bs p k := ⟨_, rfl⟩
      rw [← hN] at hn31 ⊢
      have HN := Lib.hid hN; clear hN
      obtain ⟨q, hq⟩ : ∃ q, q = p + k := ⟨_, rfl⟩
      rw [← hq] at hR
      have hq8 : q < 8 * bs.length := by omega
      have Hq := Lib.hid hq; clear hq
      obtain ⟨A, c, hH, hO⟩ := hR
      obtain ⟨g, rfl, hcell⟩ : ∃ g, A = some ⟨g, 0, none⟩ ∧ wr.cell? ⟨g, q / 8, none⟩ = some (.int .u8 ((bs.getD (q / 8) 0 : Nat) : Int)) := by
        rcases hO.2 with ⟨_, hn⟩ | ⟨g, c', cur, hv, _⟩
        · omega
        · simp only [Value.slice.injEq] at hv
          obtain ⟨rfl, _, rfl⟩ := hv
          refine ⟨g, rfl, ?_⟩
          rw [hO.cellAt (q / 8) (by omega)]
          have : q / 8 < bs.length := by omega
          simp [bV, List.getElem?_eq_getElem this]
      have hc0 := hH.cell 0
      have hc1 := hH.cell 1
      have hf1 := hH.free 1
      simp at hc0 hc1
      have hB := H256.out (bs.getD (q / 8) 0) (by
        have : q / 8 < bs.length := by omega
        simp [List.getElem?_eq_getElem this])
      obtain ⟨x, hx⟩ : ∃ x, x = bs.getD (q / 8) 0 := ⟨_, rfl⟩
      rw [← hx] at hB hcell
      have Hx := Lib.hid hx; clear hx
      have HH := Lib.hid hH; clear hH
      have HO := Lib.hid hO; clear hO
      have hqd : (q : Int) / 8 < (bs.length : Int) := by omega
      have hqd0 : 0 ≤ (q : Int) / 8 := by omega
      have hqt : ((q : Int) / 8).toNat = q / 8 := by omega
      have e1 : IntKind.i64.wrap ((q : Int) / 8) = (q : Int) / 8 := IntWalk.i64_in _ (by omega)
      go_wp2
      go_quiet ((go_at_call 93; exact Calls.quiet_of_same (mask_any _ _ (by omega))))
      go_wp2
      all_goals
        have hbit := numAt_succ bs p k (by omega)
        rw [← Hq.out, ← HN.out, ← Hx.out] at hbit
        have hH' := ((HH.out.drewN nq).set 1 (.int .i64 (q + 1)))
        have hO' := own_chg (S := (· = b)) HO.out (((Chg.refl (· = b) wr).drewN nq).setCell (p := ⟨b, 1, none⟩) (fun _ => rfl) (.int .i64 (q + 1))) (fun k hk e => own_apart HO.out HH.out (by decide) (e ▸ hk))
        have hC' := (HC.out.drewN nq).setCell (p := ⟨b, 1, none⟩) (fun _ => rfl) (.int .i64 (q + 1))
        have hq1 : p + (k + 1) = q + 1 := by have := Hq.out; omega
        have hR' : Rd ((wr.drewN nq).setCell ⟨b, 1, none⟩ (.int .i64 (q + 1))) b bs (p + (k + 1)) er := by
          rw [hq1]; exact ⟨_, _, hH', hO'⟩
        go_roundw
        case rel =>
          refine ⟨k + 1, by omega, by go_num, ?_, hR', hC'⟩
          rw [hbit, ← bit_test x q hB]
          first
            | (have ht : (bits BinOp.and IntKind.u8 (x : Int) (128 / 2 ^ (q % 8)) != 0) = true := by assumption
               rw [ht, or_one N hn31]; rfl)
            | (have ht : (bits BinOp.and IntKind.u8 (x : Int) (128 / 2 ^ (q % 8)) != 0) = false := by assumption
               rw [ht]; simp; omega)
        case measure => simp [intOf]; omega
    · obtain rfl : k = width := by omega
      have HR := Lib.hid hR; clear hR
      go_wp2
      go_ret
      exact ⟨rfl, HR.out, HC.out⟩
end Go.Proofs.Ytkcokcanakljnaa
/-
  What (*bits.Reader).Err, Left and Take do, for every input within the stated bounds.
-/
namespace Go.Proofs.Ytkcokcanakljnaa
open Go.RowKit

theorem rd_left (b : Nat) (bs : List Nat) (p : Nat) (er : Int) (w : World) (h : Rd w b bs p er) (hl : bs.length ≤ 1152921504606846975) (hp : p ≤ 8 * bs.length) :
    Calls Try.prog 102 #[.pointer (some ⟨b, 0, none⟩)] w fun e w' => e = .returned (.int .i64 (8 * bs.length - p)) ∧ ∃ k, w' = w.drewN k := by
  obtain ⟨A, c, hH, _⟩ := h
  exact left_any b A bs.length c p er w hl (by omega) (by omega) hH

theorem own_own_apart {w : World} {base e size n base' e' size' n' : Nat} {v v' : Value} {xs xs' : List Value} (h : w.ownsRow base e size v n xs) (h' : w.ownsRow base' e' size' v' n' xs') (hne : e ≠ e') (k : Nat) (hk : v.ownBlock = some k) : v'.ownBlock ≠ some k := by
  rcases h.2 with ⟨rfl, _⟩ | ⟨g, cap, cur, rfl, _, hh, _⟩
  · simp [Value.ownBlock] at hk
  · have : g = k := by simpa [Value.ownBlock] using hk
    subst this
    exact own_apart (t := e) h' hh (fun e => hne e.symm)
theorem Rd.has {w : World} {b : Nat} {bs : List Nat} {p : Nat} {er : Int} (h : Rd w b bs p er) : ∃ cs, Has w b 167 cs := by
  obtain ⟨A, c, hH, _⟩ := h
  exact ⟨_, hH⟩
theorem Rd.beside {w w' : World} {b : Nat} {bs : List Nat} {p : Nat} {er : Int} (h : Rd w b bs p er) {base e size n : Nat} {v : Value} {xs : List Value} (ho : w.ownsRow base e size v n xs) (h5 : e ≠ 5) (h54 : e ≠ 167) (c : Chg (fun k => v.ownBlock = some k) w w') : Rd w' b bs p er := by
  obtain ⟨A, cc, hH, hO⟩ := h
  exact ⟨A, cc, hH.chg c (own_apart ho hH h54), own_chg hO c fun k hk hk' => own_own_apart hO ho (fun e => h5 e.symm) k hk hk'⟩

def sumN (g : Nat → Nat) : Nat → Nat
  | 0 => 0
  | n + 1 => sumN g n + g n
theorem sumTo_cast (g : Nat → Nat) (n : Nat) : sumTo (fun i => (g i : Int)) n = (sumN g n : Int) := by
  induction n with
  | zero => rfl
  | succ n ih => simp only [sumTo, sumN, ih]; omega
theorem sumN_mono (g : Nat → Nat) {k n : Nat} (h : k ≤ n) : sumN g k ≤ sumN g n := by
  induction n with
  | zero => obtain rfl : k = 0 := by omega
            exact Nat.le_refl _
  | succ n ih =>
    rcases Nat.lt_or_ge n k with h1 | h1
    · obtain rfl : k = n + 1 := by omega
      exact Nat.le_refl _
    · have := ih h1; simp only [sumN]; omega
def jV (n : Nat) : Value := .int .i64 (n : Int)
def nums (bs : List Nat) (p : Nat) (g : Nat → Nat) (i : Nat) : Value := jV (numAt bs (p + sumN g i) (g i))
set_option maxRecDepth 100000 in
set_option maxHeartbeats 400000 in
/-- Take beside an error. -/
theorem take_dead (b : Nat) (bs : List Nat) (p : Nat) (er : Int) (v : Value) (w : World) (h : Rd w b bs p er) (he : (er != 0) = true) :
    Calls Try.prog 84 #[.pointer (some ⟨b, 0, none⟩), v] w fun e w' => e = .returned (.slice none 0 0) ∧ w = w' := by
  obtain ⟨A, c, hH, _⟩ := h
  have hc := hH.cell 2
  simp at hc
  clear hH
  go_enter Try.func84, Try.ntmps84
  go_wp2
  go_ret
  exact ⟨rfl, rfl⟩
set_option maxRecDepth 100000 in
set_option maxHeartbeats 1000000 in
/-- Take of what isn't to be had. -/
theorem take_no (b : Nat) (bs : List Nat) (p : Nat) (w : World) (h : Rd w b bs p 0) (hl : bs.length ≤ 1152921504606846975) (hp : p ≤ 8 * bs.length)
    (A : Option Addr) (n c : Nat) (F : Nat → Prop) (f : Nat → Int) (hnb : n ≤ 35184372088832) (hA : Arr w F A n (fun i => .int .i64 (f i))) (hc : (chk f n (8 * bs.length - p) != 0) = true) :
    Calls Try.prog 84 #[.pointer (some ⟨b, 0, none⟩), .slice A n c] w fun e w' => e = .returned (.slice none 0 0) ∧ Rd w' b bs p (chk f n (8 * bs.length - p)) ∧ Chg (· = b) w w' := by
  obtain ⟨A0, c0, hH, hO⟩ := h
  have hc2 := hH.cell 2
  have hf2 := hH.free 2
  simp at hc2
  have HH := Lib.hid hH; clear hH
  have HO := Lib.hid hO; clear hO
  have HA := Lib.hid hA; clear hA
  have H := check_any b A0 bs.length c0 p 0 w hl (by omega) (by omega) HH.out A n c f hnb (fun i hi => by obtain ⟨a, ha, _, hx⟩ := HA.out i hi; exact ⟨a, ha, hx⟩)
  have HK := Lib.hid H; clear H
  obtain ⟨ck, hck⟩ : ∃ ck, ck = chk f n (8 * bs.length - p) := ⟨_, rfl⟩
  rw [← hck] at HK hc ⊢
  clear hck
  go_enter Try.func84, Try.ntmps84
  go_wp2_with (go_at_call 97; refine HK.out.mono ?_; rintro e w' ⟨rfl, kk, rfl⟩)
  go_ret
  exact ⟨rfl, ⟨_, _, (HH.out.drewN kk).set 2 _, own_chg (S := (· = b)) HO.out (((Chg.refl (· = b) w).drewN kk).setCell (p := ⟨b, 2, none⟩) (fun _ => rfl) _) (fun k hk e => own_apart HO.out HH.out (by decide) (e ▸ hk))⟩,
    ((Chg.refl (· = b) w).drewN kk).setCell (p := ⟨b, 2, none⟩) (fun _ => rfl) _⟩
theorem chk_ok (g : Nat → Nat) (n : Nat) (left : Int) (hg : ∀ i, i < n → 1 ≤ g i ∧ g i ≤ 32) (h : (sumN g n : Int) ≤ left) : chk (fun i => (g i : Int)) n left = 0 := by
  unfold chk
  rw [if_neg, if_neg]
  · rw [sumTo_cast]; omega
  · rintro ⟨i, hi, hb⟩
    have := hg i hi
    refine hb ⟨?_, ?_⟩ <;> dsimp only <;> omega
theorem range_snoc {α : Type} (f : Nat → α) (k : Nat) : (List.range (k + 1)).map f = (List.range k).map f ++ [f k] := by simp [List.range_succ]
set_option maxRecDepth 100000 in
set_option maxHeartbeats 2000000 in
/-- Take of what is there. -/
theorem take_ok (b : Nat) (bs : List Nat) (p : Nat) (w : World) (h : Rd w b bs p 0) (hl : bs.length ≤ 140737488351232) (h256 : ∀ x ∈ bs, x < 256)
    (A : Option Addr) (n c : Nat) (F : Nat → Prop) (g : Nat → Nat) (hnb : n ≤ 17592186044416) (hA : Arr w F A n (fun i => jV (g i))) (hF : ∀ k, F k → k < w.heap.size ∧ k ≠ b) (hg : ∀ i, i < n → 1 ≤ g i ∧ g i ≤ 32) (hp : p + sumN g n ≤ 8 * bs.length) :
    Calls Try.prog 84 #[.pointer (some ⟨b, 0, none⟩), .slice A n c] w fun e w' => ∃ A' c', e = .returned (.slice A' n c') ∧ w'.ownsRow w.heap.size 3 1 (.slice A' n c') n ((List.range n).map (nums bs p g)) ∧ Rd w' b bs (p + sumN g n) 0 ∧ Chg (· = b) w w' := by
  obtain ⟨A0, c0, hH, hO⟩ := h
  have hc2 := hH.cell 2
  have hf2 := hH.free 2
  simp at hc2
  have HH := Lib.hid hH; clear hH
  have HO := Lib.hid hO; clear hO
  have HA := Lib.hid hA; clear hA
  have HG := Lib.hid hg; clear hg
  have HF := Lib.hid hF; clear hF
  have H256 := Lib.hid h256; clear h256
  have H := check_any b A0 bs.length c0 p 0 w (by omega) (by omega) (by omega) HH.out A n c (fun i => (g i : Int)) (by omega) (fun i hi => by obtain ⟨a, ha, _, hx⟩ := HA.out i hi; exact ⟨a, ha, hx⟩)
  rw [chk_ok g n _ HG.out (by omega)] at H
  have HK := Lib.hid H; clear H
  obtain ⟨i0, hi, hz0, hz1, hz2⟩ := info_parts Try.info3
  have hR0 : ∀ kk, Rd ((w.drewN kk).setCell ⟨b, 2, none⟩ (.int .i64 0)) b bs (p + sumN g 0) 0 := fun kk => ⟨_, _, (HH.out.drewN kk).set 2 _, own_chg (S := (· = b)) HO.out (((Chg.refl (· = b) w).drewN kk).setCell (p := ⟨b, 2, none⟩) (fun _ => rfl) _) (fun k hk e => own_apart HO.out HH.out (by decide) (e ▸ hk))⟩
  have hC0 : ∀ kk, Chg (· = b) w ((w.drewN kk).setCell ⟨b, 2, none⟩ (.int .i64 0)) := fun kk => ((Chg.refl (· = b) w).drewN kk).setCell (p := ⟨b, 2, none⟩) (fun _ => rfl) _
  have HR0 := Lib.hid hR0; clear hR0
  have HC0 := Lib.hid hC0; clear hC0
  have hbl := HH.out.lt
  go_enter Try.func84, Try.ntmps84
  go_wp2_with (first
    | (go_at_call 97; refine HK.out.mono ?_; rintro e w' ⟨rfl, kk, rfl⟩)
    | (at_make; refine wpList_make_own _ rfl _ _ 65 rfl w.heap.size 3 i0 (.int .i64 0) 1 Try.underlying65 hi hz0 hz1 .i64 .i64 _ n rfl rfl rfl ?m1 ?m2 ?m3 ?_))
  case m1 => rw [hz2]; omega
  case m2 => simp only [maxLen]; omega
  case m3 => exact (HC0.out kk).size
  intro wm hom hgm
  have Hom := Lib.hid hom; clear hom
  have HC := Lib.hid ((HC0.out kk).grown hgm (by intro k hk; cases hk))
  have HR : Hid (Rd wm b bs (p + sumN g 0) 0) := Lib.hid ((HR0.out kk).chg (S := fun _ => False) ⟨hgm.os, hgm.tape, hgm.output, hgm.size, fun k hk _ => hgm.block k hk (by simp)⟩ fun _ _ f => f)
  clear hgm HC0 HR0 HK
  go_wp2
  go_loopw [5, 29] (fun v i wr => ∃ (k : Nat) (A' : Option Addr) (c' : Nat), k ≤ n ∧ i = .int .i64 k ∧ v = .slice A' k c' ∧ wr.ownsRow w.heap.size 3 1 (.slice A' k c') k ((List.range k).map (nums bs p g)) ∧ Rd wr b bs (p + sumN g k) 0 ∧ Chg (· = b) w wr) (fun _ i _ => n - (intOf i).toNat)
  case atStart => exact ⟨0, _, _, Nat.zero_le _, rfl, rfl, Hom.out, HR.out, HC.out⟩
  case round =>
    clear Hom HC HR
    obtain ⟨k, A', c', hk, rfl, rfl, hO', hR', hC'⟩ := hrel
    by_cases hlt : k < n
    · have hgk := HG.out k hlt
      have hsm := sumN_mono g (show k + 1 ≤ n by omega)
      obtain ⟨gk, hgk'⟩ : ∃ gk, gk = g k := ⟨_, rfl⟩
      have hs1 : sumN g (k + 1) = sumN g k + gk := by rw [hgk']; rfl
      obtain ⟨ad, rfl, hadB, hcell⟩ := (HA.out.chg hC' HF.out) k hlt
      simp only [jV] at hcell
      rw [← hgk'] at hcell hgk
      have Hgk := Lib.hid hgk'; clear hgk'
      have Hs1 := Lib.hid hs1
      have hN := number_any b bs (p + sumN g k) 0 gk wr hR' (by omega) (by omega) hl H256.out
      clear hs1
      have HN := Lib.hid hN; clear hN
      have HO' := Lib.hid hO'; clear hO'
      have HR' := Lib.hid hR'; clear hR'
      have HC' := Lib.hid hC'; clear hC'
      have hsz := HC'.out.size
      go_wp2_with (first
        | (go_at_call 98; refine HN.out.mono ?_; rintro e w1 ⟨rfl, hR1, hC1⟩; have HR1 := Lib.hid hR1; have HC1 := Lib.hid hC1; clear hR1 hC1)
        | (at_builtin; refine wpList_append_one rfl _ _ 65 rfl w.heap.size 3 i0 (.int .i64 0) 1 8 Try.underlying65 hi hz0 hz1 hz2 rfl (by decide) _ k ((List.range k).map (nums bs p g)) rfl (own_chg HO'.out HC1.out ?a0) #[_] rfl rfl ?a1 ?a2 ?a3 ?a4 ?_))
      case a0 =>
        obtain ⟨cs, hcs⟩ := HR'.out.has
        exact fun k hk e => own_apart HO'.out hcs (by decide) (e ▸ hk)
      case a1 => first | rfl | (intro u hu; simp at hu; subst hu; rfl)
      case a2 => simp only [maxLen]; omega
      case a3 => omega
      case a4 => have := HC1.out.size; omega
      intro A2 c2 w2 hO2 hC2 hF2
      have HO1 : wr.ownsRow w.heap.size 3 1 (.slice A' k c') k ((List.range k).map (nums bs p g)) := HO'.out
      have HO1' : w1.ownsRow w.heap.size 3 1 (.slice A' k c') k ((List.range k).map (nums bs p g)) := by
        obtain ⟨cs, hcs⟩ := HR'.out.has
        exact own_chg HO'.out HC1.out fun k hk e => own_apart HO'.out hcs (by decide) (e ▸ hk)
      have HR2 : Hid (Rd w2 b bs (p + sumN g (k + 1)) 0) := by
        have := HR1.out.beside HO1' (by decide) (by decide) hC2
        rw [Hs1.out, ← Nat.add_assoc]
        exact this
      have HC2 : Hid (Chg (· = b) w w2) := (HC'.out.trans HC1.out (fun _ _ e => e)).trans hC2 (fun i hi hk => by
        have := (HO'.out.lt i hk).1; omega)
      have HO2 : Hid (w2.ownsRow w.heap.size 3 1 (.slice A2 (k + 1) c2) (k + 1) ((List.range (k + 1)).map (nums bs p g))) := by
        rw [range_snoc, nums, jV, ← Hgk.out]; exact hO2
      clear hO2 hC2 hF2 HO1 HO1'
      go_wp2
      go_roundw
      case rel => exact ⟨k + 1, A2, c2, by omega, by go_num, rfl, HO2.out, HR2.out, HC2.out⟩
      case measure => simp [intOf]; omega
    · obtain rfl : k = n := by omega
      have HO' := Lib.hid hO'; clear hO'
      have HR' := Lib.hid hR'; clear hR'
      have HC' := Lib.hid hC'; clear hC'
      go_wp2
      go_ret
      exact ⟨A', c', rfl, HO'.out, HR'.out, HC'.out⟩
end Go.Proofs.Ytkcokcanakljnaa
/-
  What (bits.Field).right does for every input; the state of a writer.
-/
namespace Go.Proofs.Ytkcokcanakljnaa
open Go.RowKit
theorem Try.cells102 : Try.prog.cellsOf 102 = 2 := by kernel_rfl

theorem qs {P : Program} {f : FuncId} {args : Array Value} {w : World} {n : Nat} {v : Value} (h : Calls P f args (w.drewN n) fun e w' => e = .returned v ∧ w.drewN n = w') : Calls P f args (w.drewN n) fun e w' => e = .returned v ∧ ∃ m, w' = w.drewN m :=
  h.mono fun _ _ ⟨he, hw⟩ => ⟨he, n, hw.symm⟩
theorem two_pow_le (n : Nat) (h : n ≤ 32) : (2 : Int) ^ n ≤ 4294967296 := by
  have h' : (2 : Nat) ^ n ≤ 2 ^ 32 := Nat.pow_le_pow_right (by omega) h
  have : (((2 : Nat) ^ n : Nat) : Int) ≤ ((2 ^ 32 : Nat) : Int) := by exact_mod_cast h'
  simpa using this
theorem two_pow_pos (n : Nat) : (0 : Int) < 2 ^ n := Int.pow_pos (by omega)
def okF (wd v : Int) : Bool := decide (1 ≤ wd ∧ wd ≤ 32 ∧ 0 ≤ v ∧ v < 2 ^ wd.toNat)
set_option maxRecDepth 100000 in
set_option maxHeartbeats 400000 in
theorem bright_any (wd v : Int) (w : World) :
    Calls Try.prog 75 #[.agg #[.int .i64 wd, .int .i64 v]] w fun e w' => e = .returned (.bool (okF wd v)) ∧ New w w' := by
  by_cases h1 : 1 ≤ wd ∧ wd ≤ 32
  · have hrw : rw wd = true := by simp [rw, h1]
    obtain ⟨h1, h2⟩ := h1
    by_cases h3 : 0 ≤ v
    · go_enter Try.func75, Try.ntmps75
      go_wp2
      go_quiet ((go_at_call 92; exact qs (rightWidth_any _ _)))
      go_wp2
      go_ret
      refine ⟨?_, ((Chg.refl _ _).alloc _).drewN _⟩
      have e2 : IntKind.i64.wrap (2 ^ wd.toNat) = 2 ^ wd.toNat := IntWalk.i64_in _ (by have := two_pow_le wd.toNat (by omega); have := two_pow_pos wd.toNat; omega)
      show Ending.returned (.bool (decide (v < IntKind.i64.wrap (2 ^ wd.toNat)))) = _
      rw [e2]
      simp [okF, h1, h2, h3]
    · have hd : decide (0 ≤ v) = false := by simpa using h3
      have Hn := Lib.hid h3; clear h3
      go_enter Try.func75, Try.ntmps75
      go_wp2
      go_quiet ((go_at_call 92; exact qs (rightWidth_any _ _)))
      go_wp2
      go_ret
      refine ⟨?_, ((Chg.refl _ _).alloc _).drewN _⟩
      have : okF wd v = false := by simp only [okF, decide_eq_false_iff_not]; exact fun h => absurd h.2.2.1 (by have := Hn.out; omega)
      rw [this]; rfl
  · have hrw : rw wd = false := by simp only [rw, h1, decide_false]
    have Hn := Lib.hid h1; clear h1
    go_enter Try.func75, Try.ntmps75
    go_wp2
    go_quiet ((go_at_call 92; exact qs (rightWidth_any _ _)))
    go_wp2
    go_ret
    refine ⟨?_, ((Chg.refl _ _).alloc _).drewN _⟩
    have : okF wd v = false := by simp only [okF, decide_eq_false_iff_not]; exact fun h => Hn.out ⟨h.1, h.2.1⟩
    rw [this]; rfl

/-- a writer of the bits L: its block b, the slice v of its bytes -/
def Wrt (w : World) (b : Nat) (v : Value) (L : List Bool) : Prop :=
  Has w b 99 #[v, .int .i64 (L.length : Int)] ∧ w.ownsRow 0 5 1 v (pack L).length ((pack L).map bV)
theorem Wrt.chg {S : Nat → Prop} {w w' : World} {b : Nat} {v : Value} {L : List Bool} (h : Wrt w b v L) (c : Chg S w w') (hb : ¬ S b) (hv : ∀ k, v.ownBlock = some k → ¬ S k) : Wrt w' b v L :=
  ⟨h.1.chg c hb, own_chg h.2 c hv⟩
def WrX (w wr : World) (b : Nat) (v vr : Value) : Prop := Chg (fun k => k = b ∨ v.ownBlock = some k) w wr ∧ (vr.ownBlock = v.ownBlock ∨ ∀ k, vr.ownBlock = some k → w.heap.size ≤ k)
theorem WrX.append {w wr w' : World} {b : Nat} {v vr vr' : Value} (h : WrX w wr b v vr) (hc : Chg (fun k => vr.ownBlock = some k) wr w') (hf : vr'.ownBlock = vr.ownBlock ∨ ∀ k, vr'.ownBlock = some k → wr.heap.size ≤ k) : WrX w w' b v vr' := by
  obtain ⟨h1, h2⟩ := h
  refine ⟨h1.trans hc fun i hi hk => ?_, ?_⟩
  · rcases h2 with h2 | h2
    · exact Or.inr (by rw [← h2]; exact hk)
    · exact absurd (h2 i hk) (by omega)
  · rcases hf with hf | hf
    · rcases h2 with h2 | h2
      · exact Or.inl (hf.trans h2)
      · exact Or.inr fun k hk => h2 k (by rw [← hf]; exact hk)
    · exact Or.inr fun k hk => Nat.le_trans h1.size (hf k hk)
theorem WrX.step {w wr w' : World} {b : Nat} {v vr : Value} (h : WrX w wr b v vr) (hc : Chg (fun k => k = b ∨ vr.ownBlock = some k) wr w') : WrX w w' b v vr := by
  obtain ⟨h1, h2⟩ := h
  refine ⟨h1.trans hc fun i hi hk => ?_, h2⟩
  rcases hk with hk | hk
  · exact Or.inl hk
  · rcases h2 with h2 | h2
    · exact Or.inr (by rw [← h2]; exact hk)
    · exact absurd (h2 i hk) (by omega)
/-- the state in the midst of writing a bit: what the bytes are, what the count is -/
def Mid (w0 wr : World) (b : Nat) (v vr : Value) (m cnt : Nat) (Pk : List Nat) (width value : Nat) : Prop :=
  Has wr b 99 #[vr, .int .i64 (cnt : Int)] ∧ wr.ownsRow 0 5 1 vr m (Pk.map bV) ∧ Has wr w0.heap.size 102 #[.int .i64 (width : Int), .int .i64 (value : Int)] ∧ WrX w0 wr b v vr
end Go.Proofs.Ytkcokcanakljnaa
/-
  What (*bits.Writer).put does: it appends the bits of the number.
-/
namespace Go.Proofs.Ytkcokcanakljnaa
open Go.RowKit
set_option maxRecDepth 100000 in
set_option maxHeartbeats 1000000 in
theorem put_any (b : Nat) (v : Value) (L : List Bool) (width value : Nat) (w : World) (h : Wrt w b v L) (hw1 : 1 ≤ width) (hw2 : width ≤ 32) (hv : value < 4294967296) (hL : L.length + 32 ≤ 562949953421312) :
    Calls Try.prog 76 #[.pointer (some ⟨b, 0, none⟩), .agg #[.int .i64 width, .int .i64 value]] w fun e w' => e = .returned (.tuple #[]) ∧ ∃ v', Wrt w' b v' (L ++ bitsOf width value) ∧ WrX w w' b v v' := by
  obtain ⟨i0, hi, hz0, hz1, hz2⟩ := info_parts Try.info5
  have H := Lib.hid h; clear h
  go_enter Try.func76, Try.ntmps76
  go_wp2
  go_loopg [4] width (fun gk i wr => ∃ (k : Nat) (z : Int) (vr : Value), k ≤ width ∧ gk = width - k ∧ i = .int .i64 z ∧ z = (width : Int) - 1 - k ∧ Mid w wr b v vr (pack (L ++ (bitsOf width value).take k)).length (L ++ (bitsOf width value).take k).length (pack (L ++ (bitsOf width value).take k)) width value)
  case atStart => 
    refine ⟨0, _, v, by omega, by simp, rfl, by simp, ?_⟩
    rw [List.take_zero, List.append_nil]
    exact ⟨H.out.1.alloc _, H.out.2.alloc _, Has.new _ _ _, (Chg.refl _ _).alloc _, Or.inl rfl⟩
  case round =>
    obtain ⟨k, z, vr, hk, rfl, rfl, hz, hM⟩ := hrel
    by_cases hlt : k < width
    · obtain ⟨pl, hpl⟩ : ∃ pl : Nat, z = (pl : Int) := ⟨z.toNat, by omega⟩
      subst hpl
      have hk2 : pl + k + 1 = width := by omega
      have Hk := Lib.hid hk2; clear hz hk2
      have hpl31 : pl ≤ 31 := by have := Hk.out; omega
      obtain ⟨L', hL'⟩ : ∃ L', L' = L ++ (bitsOf width value).take k := ⟨_, rfl⟩
      rw [← hL'] at hM
      have hl' : L'.length ≤ L.length + 32 := by rw [hL']; simp; omega
      obtain ⟨cnt, hcnt⟩ : ∃ cnt, cnt = L'.length := ⟨_, rfl⟩
      rw [← hcnt] at hl' hM
      have hB : cnt ≤ 562949953421312 := by omega
      have HL' := Lib.hid hL'; clear hL'
      obtain ⟨m, hm⟩ : ∃ m, m = (pack L').length := ⟨_, rfl⟩
      have hm1 : 8 * m ≤ cnt + 7 := by rw [hm, hcnt]; simp; omega
      have hm2 : cnt ≤ 8 * m := by rw [hm, hcnt]; simp; omega
      rw [← hm] at hM
      have Hm := Lib.hid hm; clear hm
      have Hcnt := Lib.hid hcnt; clear hcnt
      obtain ⟨A, c, rfl, _⟩ := own_form hM.2.1
      have hc0 := hM.1.cell 0
      have hc1 := hM.1.cell 1
      have hf0 := hM.1.free 0
      simp at hc0 hc1
      have HM := Lib.hid hM; clear hM
      go_upto_if 17 with (fail)
      go_cut [] (fun wc => ∃ A m c, Mid w wc b v (.slice A m c) m cnt (pack (L' ++ [false])) width value ∧ cnt / 8 < m)
      case first =>
        by_cases h8 : cnt % 8 = 0
        · have h8' : ((cnt : Int) % 8 == 0) = true := by simp; omega
          have hm3 : cnt / 8 = m := by omega
          have Hm3 := Lib.hid hm3; clear hm3
          have H8 := Lib.hid h8; clear h8
          go_wp2_with (at_builtin; refine wpList_append_one rfl _ _ 27 rfl 0 5 i0 (.int .u8 0) 1 1 Try.underlying27 hi hz0 hz1 hz2 rfl (by decide) _ m ((pack L').map bV) rfl HM.out.2.1 #[_] rfl rfl ?a1 ?a2 ?a3 ?a4 ?_)
          case a1 => first | rfl | (intro u hu; simp at hu; subst hu; rfl)
          case a2 => simp only [maxLen]; omega
          case a3 => omega
          case a4 => omega
          intro A2 c2 w2 hO2 hC2 hF2
          have HO2 := Lib.hid hO2; clear hO2
          have HC2 := Lib.hid hC2; clear hC2
          have HF2 := Lib.hid hF2; clear hF2
          have hne : ¬ (Value.slice A m c).ownBlock = some b := own_apart HM.out.2.1 HM.out.1 (by decide)
          have hb2 := HM.out.1.chg HC2.out hne
          have hf2 := hb2.free 0
          have hc2 := hb2.cell 0
          simp at hc2
          have Hb2 := Lib.hid hb2; clear hb2
          have Hne := Lib.hid hne; clear hne
          go_wp2
          go_meet
          case rel =>
            refine ⟨A2, m + 1, c2, ⟨Hb2.out.set 0 _, ?_, ?_, ?_⟩, by have := Hm3.out; omega⟩
            · have e1 : pack (L' ++ [false]) = pack L' ++ [0] := pack_false_new L' (by rw [← Hcnt.out]; exact H8.out)
              rw [e1, List.map_append]
              refine own_chg (S := (· = b)) HO2.out ((Chg.refl (· = b) _).setCell (p := ⟨b, 0, none⟩) (fun _ => rfl) _) (fun k hk e => own_apart HO2.out Hb2.out (by decide) (e ▸ hk))
            · exact (HM.out.2.2.1.chg HC2.out (own_apart HM.out.2.1 HM.out.2.2.1 (by decide))).far (HM.out.2.2.1.apart HM.out.1 (by decide)) _
            · exact (HM.out.2.2.2.append HC2.out HF2.out).step ((Chg.refl _ _).setCell (p := ⟨b, 0, none⟩) (fun _ => Or.inl rfl) _)
        · have h8' : ((cnt : Int) % 8 == 0) = false := by simp; omega
          have hm3 : cnt / 8 < m := by omega
          have Hm3 := Lib.hid hm3; clear hm3
          have H8 := Lib.hid h8; clear h8
          go_wp2
          go_meet
          case rel =>
            refine ⟨A, m, c, ⟨HM.out.1, ?_, HM.out.2.2.1, HM.out.2.2.2⟩, Hm3.out⟩
            have e1 : pack (L' ++ [false]) = pack L' := pack_false_old L' (by rw [← Hcnt.out]; exact H8.out)
            rw [e1]; exact HM.out.2.1
      case rest =>
        clear hc0 hc1 hf0 HM
        obtain ⟨A, m, c, hM, hm3⟩ := hcut
        have hc0 := hM.1.cell 0
        have hc1 := hM.1.cell 1
        have hf1 := hM.1.free 1
        have hF1 := hM.2.2.1.cell 1
        simp at hc0 hc1 hF1
        have HM := Lib.hid hM; clear hM
        go_upto_if 32 with (fail)
        go_cut [] (fun wd => Mid w wd b v (.slice A m c) m cnt (pack (L' ++ [value / 2 ^ pl % 2 == 1])) width value)
        case first =>
          have hand := and_one value pl hv
          by_cases hx : value / 2 ^ pl % 2 = 1
          · have hxb : (value / 2 ^ pl % 2 == 1) = true := by simp [hx]
            rw [hxb] at hand
            have HXB := Lib.hid hxb; clear hx hxb
            have hqd : (cnt : Int) / 8 < (m : Int) := by omega
            have hqd0 : 0 ≤ (cnt : Int) / 8 := by omega
            have hqt : ((cnt : Int) / 8).toNat = cnt / 8 := by omega
            have e1 : IntKind.i64.wrap ((cnt : Int) / 8) = (cnt : Int) / 8 := IntWalk.i64_in _ (by omega)
            obtain ⟨g, rfl, hcell, hfree⟩ : ∃ g, A = some ⟨g, 0, none⟩ ∧ wc.cell? ⟨g, cnt / 8, none⟩ = some (.int .u8 ((byteAt L' (cnt / 8) : Nat) : Int)) ∧ wc.frozen? ⟨g, cnt / 8, none⟩ = false := by
              rcases HM.out.2.1.2 with ⟨_, hn⟩ | ⟨g, c', cur, hv, _⟩
              · omega
              · simp only [Value.slice.injEq] at hv
                obtain ⟨rfl, _, rfl⟩ := hv
                refine ⟨g, rfl, ?_, HM.out.2.1.frozenAt _⟩
                rw [HM.out.2.1.cellAt (cnt / 8) (by omega), List.getElem?_map, pack_get _ _ (by rw [List.length_append, ← Hcnt.out]; simp; omega), byteAt_snoc_false]
                rfl
            have hbl := byteAt_lt L' (cnt / 8)
            obtain ⟨x, hx⟩ : ∃ x, x = byteAt L' (cnt / 8) := ⟨_, rfl⟩
            rw [← hx] at hbl hcell
            have Hx := Lib.hid hx; clear hx
            go_wp2
            refine wp_region_still_tail 18 (by kernel_rfl) (by kernel_rfl) ?_
            simp only [List.take_succ_cons, List.take_zero, List.drop_succ_cons, List.drop_zero]
            repeat (first | still_step | still_call (mask_any cnt _ (by omega)))
            refine wpStill_nil ?_
            change wpList _ _ _ _ _ wc.drew
            go_wp2
            go_meet
            case rel =>
              have hor : bits BinOp.or IntKind.u8 (x : Int) (128 / 2 ^ (cnt % 8)) = ((x ||| 128 / 2 ^ (cnt % 8) : Nat) : Int) := by rw [mask_cast, u8_or_nat x _ hbl (mask_lt cnt)]
              rw [hor, HXB.out, pack_true, ← Hcnt.out, ← Hx.out]
              have hM := HM.out
              refine ⟨(hM.1.far (p := ⟨g, cnt / 8, none⟩) (fun e => own_apart hM.2.1 hM.1 (by decide) (by rw [e]; rfl)) _).drew, ?_, (hM.2.2.1.far (p := ⟨g, cnt / 8, none⟩) (fun e => own_apart hM.2.1 hM.2.2.1 (by decide) (by rw [e]; rfl)) _).drew, hM.2.2.2.step (((Chg.refl _ _).setCell (p := ⟨g, cnt / 8, none⟩) (fun _ => Or.inr rfl) _).drew)⟩
              rw [List.map_set]
              exact (hM.2.1.stored (cnt / 8) _).1.drew
          · have hxb : (value / 2 ^ pl % 2 == 1) = false := by simp; omega
            rw [hxb] at hand
            have HXB := Lib.hid hxb; clear hx hxb
            go_wp2
            go_meet
            case rel =>
              rw [HXB.out]; exact HM.out
        case rest =>
          clear hc0 hc1 hf1 hF1 HM
          have hM := hcut
          clear hcut
          have hc1 := hM.1.cell 1
          have hf1 := hM.1.free 1
          simp at hc1
          have HM := Lib.hid hM; clear hM
          go_wp2
          go_roundg (width - (k + 1))
          case measure => omega
          case rel =>
            have hM := HM.out
            have e2 : L ++ (bitsOf width value).take (k + 1) = L' ++ [value / 2 ^ pl % 2 == 1] := by
              rw [HL'.out, List.append_assoc, List.take_add_one, bitsOf_get width value k hlt]
              have : width - 1 - k = pl := by have := Hk.out; omega
              rw [this]; rfl
            refine ⟨k + 1, _, .slice A m c, by omega, rfl, rfl, by have := Hk.out; omega, ?_⟩
            rw [e2]
            have em : (pack (L' ++ [value / 2 ^ pl % 2 == 1])).length = m := by have := hM.2.1.1; simpa using this
            have ec : (L' ++ [value / 2 ^ pl % 2 == 1]).length = cnt + 1 := by rw [List.length_append, ← Hcnt.out]; rfl
            rw [em, ec]
            refine ⟨hM.1.set 1 _, own_chg (S := (· = b)) hM.2.1 ((Chg.refl (· = b) _).setCell (p := ⟨b, 1, none⟩) (fun _ => rfl) _) (fun k hk e => own_apart hM.2.1 hM.1 (by decide) (e ▸ hk)), hM.2.2.1.far (hM.2.2.1.apart hM.1 (by decide)) _, hM.2.2.2.step ((Chg.refl _ _).setCell (p := ⟨b, 1, none⟩) (fun _ => Or.inl rfl) _)⟩
    · obtain rfl : k = width := by omega
      have hz' : z = -1 := by omega
      clear hz
      subst hz'
      have HM := Lib.hid hM; clear hM
      go_wp2
      go_end0
      have hM := HM.out
      have e2 : (bitsOf k value).take k = bitsOf k value := List.take_of_length_le (by simp)
      rw [e2] at hM
      exact ⟨rfl, vr, ⟨hM.1, hM.2.1⟩, hM.2.2.2⟩
end Go.Proofs.Ytkcokcanakljnaa
/-
  What (*bits.Writer).Put, Len and Bytes do, for every input within the stated bounds.
-/
namespace Go.Proofs.Ytkcokcanakljnaa
open Go.RowKit

/-- n fields in memory, in a block of F -/
def Flds (w : World) (F : Nat → Prop) (A : Option Addr) (n : Nat) (fw fv : Nat → Int) : Prop :=
  ∀ i, i < n → ∃ a, A = some a ∧ F a.block ∧ w.cell? (a.add (i * 2)) = some (.int .i64 (fw i)) ∧ w.cell? ⟨(a.add (i * 2)).block, (a.add (i * 2)).off + 1, none⟩ = some (.int .i64 (fv i))
theorem Flds.chg {w w' : World} {S F : Nat → Prop} {n : Nat} {A : Option Addr} {fw fv : Nat → Int} (h : Flds w F A n fw fv) (c : Chg S w w') (hF : ∀ k, F k → k < w.heap.size ∧ ¬ S k) : Flds w' F A n fw fv := fun i hi => by
  obtain ⟨a, rfl, hb, h1, h2⟩ := h i hi
  have e : (a.add (i * 2)).block < w.heap.size ∧ ¬ S (a.add (i * 2)).block := by rw [add_block]; exact hF _ hb
  exact ⟨a, rfl, hb, (c.cell e.1 e.2).trans h1, (c.cell (p := ⟨(a.add (i * 2)).block, _, none⟩) e.1 e.2).trans h2⟩
theorem WrX.trans {w wr w1 w' : World} {b : Nat} {v vr v' : Value} (h : WrX w wr b v vr) (hn : New wr w1) (h2 : WrX w1 w' b vr v') : WrX w w' b v v' := by
  obtain ⟨c1, f1⟩ := h
  obtain ⟨c2, f2⟩ := h2
  refine ⟨(c1.then_new hn).trans c2 fun i hi hk => ?_, ?_⟩
  · rcases hk with hk | hk
    · exact Or.inl hk
    · rcases f1 with f1 | f1
      · exact Or.inr (by rw [← f1]; exact hk)
      · exact absurd (f1 i hk) (by omega)
  · rcases f2 with f2 | f2
    · rcases f1 with f1 | f1
      · exact Or.inl (f2.trans f1)
      · exact Or.inr fun k hk => f1 k (by rw [← f2]; exact hk)
    · exact Or.inr fun k hk => Nat.le_trans (c1.then_new hn).size (f2 k hk)
set_option maxRecDepth 100000 in
set_option maxHeartbeats 1000000 in
theorem Put_no (b : Nat) (F : Nat → Prop) (A : Option Addr) (n c : Nat) (fw fv : Nat → Int) (w : World) (hA : Flds w F A n fw fv) (hF : ∀ k, F k → k < w.heap.size) (hn : n ≤ 140737488351232) (j : Nat) (hj : j < n) (hbad : okF (fw j) (fv j) = false) :
    Calls Try.prog 38 #[.pointer (some ⟨b, 0, none⟩), .slice A n c] w fun e w' => e = .returned (.int .i64 2) ∧ New w w' := by
  have HA := Lib.hid hA; clear hA
  have Hbad := Lib.hid hbad; clear hbad
  have HF := Lib.hid hF; clear hF
  go_enter Try.func38, Try.ntmps38
  go_wp2
  go_loopg [11] n (fun gk i wr => ∃ k : Nat, k ≤ j ∧ gk = n - k ∧ i = .int .i64 k ∧ New w wr)
  case atStart => exact ⟨0, by omega, by omega, rfl, Chg.refl _ _⟩
  case round =>
    obtain ⟨k, hk, rfl, rfl, hC⟩ := hrel
    have hlt : k < n := by omega
    obtain ⟨a, rfl, hab, h1, h2⟩ := (HA.out.chg hC (fun k hk => ⟨HF.out k hk, fun f => f⟩)) k hlt
    have HC := Lib.hid hC; clear hC
    obtain ⟨x, hx⟩ : ∃ x, x = fw k := ⟨_, rfl⟩
    obtain ⟨y, hy⟩ : ∃ y, y = fv k := ⟨_, rfl⟩
    rw [← hx] at h1
    rw [← hy] at h2
    by_cases hok : okF x y = true
    · have hkj : k < j := by
        rcases Nat.lt_or_ge k j with h | h
        · exact h
        · obtain rfl : k = j := by omega
          rw [hx, hy, Hbad.out] at hok; cases hok
      have Hx := Lib.hid hx; clear hx
      have Hy := Lib.hid hy; clear hy
      go_wp2_with (go_at_call 75; refine (bright_any _ _ _).mono ?_; rintro e w' ⟨rfl, hN⟩; have HN := Lib.hid hN; clear hN)
      go_roundg (n - (k + 1))
      case measure => omega
      case rel => exact ⟨k + 1, by omega, rfl, by go_num, ((HC.out.alloc _).then_new HN.out)⟩
    · have hok : okF x y = false := by simpa using hok
      clear hx hy
      go_wp2_with (go_at_call 75; refine (bright_any _ _ _).mono ?_; rintro e w' ⟨rfl, hN⟩; have HN := Lib.hid hN; clear hN)
      go_ret
      exact ⟨rfl, ((HC.out.alloc _).then_new HN.out)⟩
def fbits (fw fv : Nat → Int) : Nat → List Bool
  | 0 => []
  | n + 1 => fbits fw fv n ++ bitsOf (fw n).toNat (fv n).toNat
theorem okF_bounds {x y : Int} (h : okF x y = true) : 1 ≤ x ∧ x ≤ 32 ∧ 0 ≤ y ∧ y < 4294967296 ∧ y < 2 ^ x.toNat := by
  simp only [okF, decide_eq_true_eq] at h
  have := two_pow_le x.toNat (by omega)
  exact ⟨h.1, h.2.1, h.2.2.1, by omega, h.2.2.2⟩
theorem fbits_len (fw fv : Nat → Int) (n : Nat) (h : ∀ i, i < n → okF (fw i) (fv i) = true) : (fbits fw fv n).length ≤ 32 * n := by
  induction n with
  | zero => simp [fbits]
  | succ n ih =>
    have h1 := ih (fun i hi => h i (by omega))
    have h2 := okF_bounds (h n (by omega))
    simp only [fbits, List.length_append, bitsOf_length]; omega
set_option maxRecDepth 100000 in
set_option maxHeartbeats 1000000 in
theorem Put_ok (b : Nat) (F : Nat → Prop) (v : Value) (L : List Bool) (A : Option Addr) (n c : Nat) (fw fv : Nat → Int) (w : World) (hW : Wrt w b v L) (hA : Flds w F A n fw fv) (hF : ∀ k, F k → k < w.heap.size ∧ k ≠ b ∧ v.ownBlock ≠ some k)
    (hn : L.length + 32 * n + 32 ≤ 562949953421312) (hok : ∀ j, j < n → okF (fw j) (fv j) = true) :
    Calls Try.prog 38 #[.pointer (some ⟨b, 0, none⟩), .slice A n c] w fun e w' => e = .returned (.int .i64 0) ∧ ∃ v', Wrt w' b v' (L ++ fbits fw fv n) ∧ WrX w w' b v v' := by
  have HA := Lib.hid hA; clear hA
  have Hok := Lib.hid hok; clear hok
  have HW := Lib.hid hW; clear hW
  have HF := Lib.hid hF; clear hF
  go_enter Try.func38, Try.ntmps38
  go_wp2
  go_loopg [4, 11] n (fun gk r i wr => ∃ k : Nat, k ≤ n ∧ gk = n - k ∧ r = .int .i64 0 ∧ i = .int .i64 k ∧ New w wr)
  case atStart => exact ⟨0, by omega, by omega, rfl, rfl, Chg.refl _ _⟩
  case round =>
    obtain ⟨k, hk, rfl, rfl, rfl, hC⟩ := hrel
    by_cases hlt : k < n
    · obtain ⟨a, rfl, hab, h1, h2⟩ := (HA.out.chg hC (fun k hk => ⟨(HF.out k hk).1, fun f => f⟩)) k hlt
      have HC := Lib.hid hC; clear hC
      have hok := Hok.out k hlt
      obtain ⟨x, hx⟩ : ∃ x, x = fw k := ⟨_, rfl⟩
      obtain ⟨y, hy⟩ : ∃ y, y = fv k := ⟨_, rfl⟩
      rw [← hx] at h1 hok
      rw [← hy] at h2 hok
      clear hx hy
      go_wp2_with (go_at_call 75; refine (bright_any _ _ _).mono ?_; rintro e w' ⟨rfl, hN⟩; have HN := Lib.hid hN; clear hN)
      go_roundg (n - (k + 1))
      case measure => omega
      case rel => exact ⟨k + 1, by omega, rfl, rfl, by go_num, ((HC.out.alloc _).then_new HN.out)⟩
    · have HC := Lib.hid hC; clear hC
      go_wp2
      go_loopg [21] n (fun gk i wr => ∃ (k : Nat) (vr : Value), k ≤ n ∧ gk = n - k ∧ i = .int .i64 k ∧ Wrt wr b vr (L ++ fbits fw fv k) ∧ WrX w wr b v vr)
      case atStart => exact ⟨0, v, by omega, by omega, rfl, by rw [fbits, List.append_nil]; exact HW.out.chg HC.out (fun f => f) (fun _ _ f => f), HC.out.of_new, Or.inl rfl⟩
      case round =>
        clear hk HC hlt
        obtain ⟨k, vr, hk, rfl, rfl, hW', hX⟩ := hrel
        by_cases hlt : k < n
        · obtain ⟨a, rfl, hab, h1, h2⟩ := (HA.out.chg hX.1 (fun i hi => ⟨(HF.out i hi).1, fun e => by
            rcases e with e | e
            · exact (HF.out i hi).2.1 e
            · exact (HF.out i hi).2.2 e⟩)) k hlt
          have hok := Hok.out k hlt
          have hfl := fbits_len fw fv k (fun i hi => Hok.out i (by omega))
          obtain ⟨x, hx⟩ : ∃ x, x = fw k := ⟨_, rfl⟩
          obtain ⟨y, hy⟩ : ∃ y, y = fv k := ⟨_, rfl⟩
          rw [← hx] at h1 hok
          rw [← hy] at h2 hok
          obtain ⟨b1, b2, b3, b4, b5⟩ := okF_bounds hok
          obtain ⟨xn, rfl⟩ : ∃ xn : Nat, x = (xn : Int) := ⟨x.toNat, by omega⟩
          obtain ⟨yn, rfl⟩ : ∃ yn : Nat, y = (yn : Int) := ⟨y.toNat, by omega⟩
          have Hx := Lib.hid hx; clear hx
          have Hy := Lib.hid hy; clear hy
          have HW' := Lib.hid hW'; clear hW'
          have HX := Lib.hid hX; clear hX
          clear hok b5 b3
          have hP := fun wy (c : Chg (fun _ => False) wr wy) => put_any b vr (L ++ fbits fw fv k) xn yn wy (HW'.out.chg c (fun f => f) (fun _ _ f => f)) (by omega) (by omega) (by omega) (by rw [List.length_append]; omega)
          have HP := Lib.hid hP; clear hP
          go_wp2_with (go_at_call 76; refine (HP.out _ ((Chg.refl _ _).alloc _)).mono ?_; rintro e w' ⟨rfl, v', hW2, hX2⟩; have HW2 := Lib.hid hW2; have HX2 := Lib.hid hX2; clear hW2 hX2)
          go_roundg (n - (k + 1))
          case measure => omega
          case rel =>
            refine ⟨k + 1, v', by omega, rfl, by go_num, ?_, ?_⟩
            · rw [fbits, ← Hx.out, ← Hy.out, ← List.append_assoc]; exact HW2.out
            · exact HX.out.trans ((Chg.refl _ _).alloc _) HX2.out
        · obtain rfl : k = n := by omega
          have HW' := Lib.hid hW'; clear hW'
          have HX := Lib.hid hX; clear hX
          go_wp2
          go_ret
          exact ⟨rfl, vr, HW'.out, HX.out⟩
theorem range_getD {α : Type} (l : List α) (d : α) : (List.range l.length).map (fun i => l.getD i d) = l := by
  apply List.ext_getElem?
  intro i
  by_cases hi : i < l.length
  · simp [hi]
  · rw [List.getElem?_eq_none (by simp; omega), List.getElem?_eq_none (by omega)]
theorem getD_mem {α : Type} (l : List α) (d : α) {i : Nat} (h : i < l.length) : l.getD i d ∈ l := by
  simp [List.getD_eq_getElem?_getD, List.getElem?_eq_getElem h]
set_option maxRecDepth 100000 in
set_option maxHeartbeats 400000 in
/-- the bytes of a writer, in new memory -/
theorem Bytes_any (b : Nat) (v : Value) (L : List Bool) (w : World) (h : Wrt w b v L) (hL : L.length + 7 ≤ 562949953421312) :
    Calls Try.prog 39 #[.pointer (some ⟨b, 0, none⟩)] w fun e w' => ∃ A' c', e = .returned (.slice A' (pack L).length c') ∧ w'.ownsRow w.heap.size 5 1 (.slice A' (pack L).length c') (pack L).length ((pack L).map bV) ∧ New w w' := by
  obtain ⟨hH, hO⟩ := h
  obtain ⟨A, c, rfl, hnil⟩ := own_form hO
  have hml : (pack L).length ≤ 140737488351232 := by simp; omega
  obtain ⟨m, hm⟩ : ∃ m, m = (pack L).length := ⟨_, rfl⟩
  have hxl : ((pack L).map bV).length = m := by rw [List.length_map, hm]
  have h1 : ∀ x ∈ (pack L).map bV, x.oneCell' = true := by intro x hx; rw [List.mem_map] at hx; obtain ⟨y, _, rfl⟩ := hx; rfl
  rw [← hm] at hH hO hnil hml ⊢
  clear hm
  have hc0 := hH.cell 0
  simp at hc0
  have hcl := clone_any A m c _ (fun i => ((pack L).map bV).getD i undef) w (Arr.of_own hO) hnil (fun i hi => h1 _ (getD_mem _ _ (by omega))) (by omega)
  rw [← hxl, range_getD, hxl] at hcl
  clear hH hO hnil h1 hxl
  have HC := Lib.hid hcl; clear hcl
  go_enter Try.func39, Try.ntmps39
  go_wp2_with (go_at_call 77; refine HC.out.mono ?_; rintro e w' ⟨A', c', rfl, ho, hn⟩; have HO := Lib.hid ho; have HN := Lib.hid hn; clear ho hn)
  go_ret
  exact ⟨_, _, rfl, HO.out, HN.out⟩
end Go.Proofs.Ytkcokcanakljnaa
/-
  Facts that laws over bits share: bytes as strings, Read of bytes in memory, what was put is taken so.
-/
namespace Go.Proofs.Ytkcokcanakljnaa
open Go.RowKit

theorem Wr_zero (w : World) : Wrt (w.alloc (.cells #[.slice none 0 0, .int .i64 0] 99)) w.heap.size (.slice none 0 0) [] :=
  ⟨Has.new _ _ _, World.ownsRow_nil _ _ _ _⟩
/-- Read of bytes that lie in memory -/
theorem bRead_any (A : Option Addr) (n c : Nat) (F : Nat → Prop) (bs : List Nat) (w : World) (hA : Arr w F A n (fun i => bV (bs.getD i 0))) (hlen : bs.length = n) (hn : A = none → n = 0 ∧ c = 0) (hb : n ≤ 140737488351232) :
    Calls Try.prog 83 #[.slice A n c] w fun e w' => ∃ b, e = .returned (.pointer (some ⟨b, 0, none⟩)) ∧ Rd w' b bs 0 0 ∧ New w w' ∧ w.heap.size ≤ b := by
  refine (read_any A n c F _ w hA hn (fun i hi => rfl) hb).mono ?_
  rintro e w' ⟨A', c', b, rfl, hH, hO, hN, hbl⟩
  subst hlen
  rw [map_getD_bV] at hO
  refine ⟨b, rfl, ⟨A', c', hH, own_base hO (by intro k _; omega)⟩, hN, hbl⟩
theorem Rd.other {w w' : World} {b b' : Nat} {bs bs' : List Nat} {p p' : Nat} {er er' : Int} (h : Rd w b bs p er) (h' : Rd w b' bs' p' er') (hne : b ≠ b') (c : Chg (· = b') w w') : Rd w' b bs p er := by
  obtain ⟨A, cc, hH, hO⟩ := h
  obtain ⟨cs, hcs⟩ := h'.has
  exact ⟨A, cc, hH.chg c hne, own_chg hO c fun k hk e => own_apart hO hcs (by decide) (e ▸ hk)⟩
theorem Rd.new {w w' : World} {b : Nat} {bs : List Nat} {p : Nat} {er : Int} (h : Rd w b bs p er) (c : New w w') : Rd w' b bs p er := h.chg c fun _ _ f => f
theorem Wrt.new {w w' : World} {b : Nat} {v : Value} {L : List Bool} (h : Wrt w b v L) (c : New w w') : Wrt w' b v L := h.chg c (fun f => f) fun _ _ f => f
theorem Wrt.beside {w w' : World} {b : Nat} {vw : Value} {L : List Bool} (h : Wrt w b vw L) {base e size n : Nat} {v : Value} {xs : List Value} (ho : w.ownsRow base e size v n xs) (h5 : e ≠ 5) (h26 : e ≠ 99) (c : Chg (fun k => v.ownBlock = some k) w w') : Wrt w' b vw L :=
  ⟨h.1.chg c (own_apart ho h.1 h26), own_chg h.2 c fun k hk hk' => own_own_apart h.2 ho (fun e => h5 e.symm) k hk hk'⟩
theorem fbits_succ_take (fw fv : Nat → Int) (i n : Nat) (h : i ≤ n) : ∃ R, fbits fw fv n = fbits fw fv i ++ R := by
  induction n with
  | zero => obtain rfl : i = 0 := by omega
            exact ⟨[], by simp⟩
  | succ n ih =>
    rcases Nat.lt_or_ge n i with h1 | h1
    · obtain rfl : i = n + 1 := by omega
      exact ⟨[], by simp⟩
    · obtain ⟨R, hR⟩ := ih h1
      exact ⟨R ++ bitsOf (fw n).toNat (fv n).toNat, by rw [fbits, hR, List.append_assoc]⟩
theorem fbits_sum (fw fv : Nat → Int) (n : Nat) : (fbits fw fv n).length = sumN (fun i => (fw i).toNat) n := by
  induction n with
  | zero => rfl
  | succ n ih => simp only [fbits, List.length_append, bitsOf_length, sumN, ih]
/-- what was put is taken so -/
theorem numAt_fbits (fw fv : Nat → Int) (n i : Nat) (hi : i < n) (hok : okF (fw i) (fv i) = true) : numAt (pack (fbits fw fv n)) (sumN (fun i => (fw i).toNat) i) (fw i).toNat = (fv i).toNat := by
  obtain ⟨R, hR⟩ := fbits_succ_take fw fv (i + 1) n (by omega)
  have hb := okF_bounds hok
  have hL := unpack_pack_take (fbits fw fv n)
  have hle : (fbits fw fv n).length = sumN (fun i => (fw i).toNat) i + (fw i).toNat + R.length := by
    rw [hR, List.length_append, fbits_sum]; rfl
  unfold numAt
  have : (((unpack (pack (fbits fw fv n))).drop (sumN (fun i => (fw i).toNat) i)).take (fw i).toNat) = bitsOf (fw i).toNat (fv i).toNat := by
    have e1 : ((unpack (pack (fbits fw fv n))).drop (sumN (fun i => (fw i).toNat) i)).take (fw i).toNat = (((unpack (pack (fbits fw fv n))).take (fbits fw fv n).length).drop (sumN (fun i => (fw i).toNat) i)).take (fw i).toNat := by
      rw [List.drop_take, List.take_take]
      congr 1
      omega
    rw [e1, hL, hR, fbits, ← fbits_sum fw fv i, List.append_assoc, List.drop_left, List.take_append_of_le_length (by simp)]
    rw [List.take_of_length_le (by simp)]
  rw [this, numOf_bitsOf]
  apply Nat.mod_eq_of_lt
  have h2 := hb.2.2.2.2
  have : ((fv i).toNat : Int) < ((2 ^ (fw i).toNat : Nat) : Int) := by
    rw [Int.natCast_pow]
    have := hb.2.2.1
    simp only [Int.toNat_of_nonneg this]
    exact h2
  exact_mod_cast this
theorem own_arr_ints {w : World} {base n c : Nat} {A : Option Addr} {f : Nat → Int} (h : w.ownsRow base 3 1 (.slice A n c) n ((List.range n).map (fun i => .int .i64 (f i)))) (h0 : ∀ i, i < n → 0 ≤ f i) : Arr w (fun k => Value.ownBlock (.slice A n c) = some k) A n (fun i => jV (f i).toNat) := by
  intro i hi
  obtain ⟨a, ha, hb, hc⟩ := Arr.of_own h i hi
  refine ⟨a, ha, hb, ?_⟩
  rw [hc]
  have := h0 i hi
  simp [hi, jV, Int.toNat_of_nonneg this]
def fcells (fw fv : Nat → Int) : Nat → List Value
  | 0 => []
  | n + 1 => fcells fw fv n ++ [.int .i64 (fw n), .int .i64 (fv n)]
theorem fcells_len (fw fv : Nat → Int) (n : Nat) : (fcells fw fv n).length = n * 2 := by
  induction n with
  | zero => rfl
  | succ n ih => simp only [fcells, List.length_append, ih, List.length_cons, List.length_nil]; omega
theorem fcells_get (fw fv : Nat → Int) (n i : Nat) (h : i < n) : (fcells fw fv n)[i * 2]? = some (.int .i64 (fw i)) ∧ (fcells fw fv n)[i * 2 + 1]? = some (.int .i64 (fv i)) := by
  induction n with
  | zero => omega
  | succ n ih =>
    simp only [fcells]
    rcases Nat.lt_or_ge i n with h1 | h1
    · have := ih h1
      rw [List.getElem?_append_left (by rw [fcells_len]; omega), List.getElem?_append_left (by rw [fcells_len]; omega)]
      exact this
    · obtain rfl : i = n := by omega
      rw [List.getElem?_append_right (by rw [fcells_len]; omega), List.getElem?_append_right (by rw [fcells_len]; omega), fcells_len]
      have e1 : i * 2 - i * 2 = 0 := by omega
      have e2 : i * 2 + 1 - i * 2 = 1 := by omega
      rw [e1, e2]
      exact ⟨rfl, rfl⟩
theorem fcells_one (fw fv : Nat → Int) (n : Nat) : ∀ u ∈ fcells fw fv n, u.oneCell' = true := by
  induction n with
  | zero => simp [fcells]
  | succ n ih =>
    intro u hu
    simp only [fcells, List.mem_append, List.mem_cons, List.not_mem_nil, or_false] at hu
    rcases hu with hu | rfl | rfl
    · exact ih u hu
    · rfl
    · rfl
theorem Flds.cells {w : World} {F : Nat → Prop} {A : Option Addr} {n : Nat} {fw fv : Nat → Int} (h : Flds w F A n fw fv) : ∀ j u, (fcells fw fv n)[j]? = some u → ∃ ad, A = some ad ∧ w.cell? (ad.add j) = some u := by
  intro j u hu
  have hj : j < n * 2 := by
    rcases Nat.lt_or_ge j (n * 2) with h1 | h1
    · exact h1
    · rw [List.getElem?_eq_none (by rw [fcells_len]; exact h1)] at hu; cases hu
  obtain ⟨q, hq⟩ : ∃ q, q = j / 2 := ⟨_, rfl⟩
  obtain ⟨a, rfl, _, h1, h2⟩ := h q (by omega)
  have hg := fcells_get fw fv n q (by omega)
  rcases (show j = q * 2 ∨ j = q * 2 + 1 by omega) with e | e
  · rw [e, hg.1] at hu
    simp only [Option.some.injEq] at hu
    subst hu
    exact ⟨a, rfl, by rw [e]; exact h1⟩
  · rw [e, hg.2] at hu
    simp only [Option.some.injEq] at hu
    subst hu
    refine ⟨a, rfl, ?_⟩
    have e2 : (a.add (q * 2)).add 1 = a.add (q * 2 + 1) := by
      unfold Addr.add
      by_cases h0 : q * 2 = 0 <;> simp [h0, Nat.add_assoc]
    rw [e, ← e2]
    exact h2
def fcat (n : Nat) (f g : Nat → Int) (i : Nat) : Int := if i < n then f i else g (i - n)
theorem fcells_congr (fw fv fw' fv' : Nat → Int) (n : Nat) (h : ∀ i, i < n → fw i = fw' i ∧ fv i = fv' i) : fcells fw fv n = fcells fw' fv' n := by
  induction n with
  | zero => rfl
  | succ n ih => simp only [fcells]; rw [ih (fun i hi => h i (by omega)), (h n (by omega)).1, (h n (by omega)).2]
theorem fcells_cat (fw fv gw gv : Nat → Int) (n m : Nat) : fcells (fcat n fw gw) (fcat n fv gv) (n + m) = fcells fw fv n ++ fcells gw gv m := by
  induction m with
  | zero =>
    simp only [Nat.add_zero, fcells, List.append_nil]
    exact fcells_congr _ _ _ _ n (fun i hi => by simp [fcat, hi])
  | succ m ih =>
    rw [← Nat.add_assoc, fcells, ih, fcells, List.append_assoc]
    have h1 : ¬ n + m < n := by omega
    simp [fcat, h1]
theorem fbits_congr (fw fv fw' fv' : Nat → Int) (n : Nat) (h : ∀ i, i < n → fw i = fw' i ∧ fv i = fv' i) : fbits fw fv n = fbits fw' fv' n := by
  induction n with
  | zero => rfl
  | succ n ih => simp only [fbits]; rw [ih (fun i hi => h i (by omega)), (h n (by omega)).1, (h n (by omega)).2]
theorem fbits_cat (fw fv gw gv : Nat → Int) (n m : Nat) : fbits (fcat n fw gw) (fcat n fv gv) (n + m) = fbits fw fv n ++ fbits gw gv m := by
  induction m with
  | zero =>
    simp only [Nat.add_zero, fbits, List.append_nil]
    exact fbits_congr _ _ _ _ n (fun i hi => by simp [fcat, hi])
  | succ m ih =>
    rw [← Nat.add_assoc, fbits, ih, fbits, List.append_assoc]
    have h1 : ¬ n + m < n := by omega
    simp [fcat, h1]
/-- fields in a row of the call's own -/
theorem Flds.of_own {w : World} {base c : Nat} {A : Option Addr} {n : Nat} {fw fv : Nat → Int} (h : w.ownsRow base 102 2 (.slice A n c) n (fcells fw fv n)) : Flds w (fun k => Value.ownBlock (.slice A n c) = some k) A n fw fv := by
  intro i hi
  rcases h.2 with ⟨hv, hn⟩ | ⟨g, cap, cur, hv, _, hg, _⟩
  · omega
  · simp only [Value.slice.injEq] at hv
    obtain ⟨rfl, _, rfl⟩ := hv
    have hh := fcells_get fw fv n i hi
    have hadd : (⟨g, 0, none⟩ : Addr).add (i * 2) = ⟨g, i * 2, none⟩ := by unfold Addr.add; split <;> simp_all
    refine ⟨_, rfl, rfl, ?_, ?_⟩
    · rw [hadd, h.cellAt (i * 2) (by omega)]; exact hh.1
    · rw [hadd, h.cellAt (i * 2 + 1) (by omega)]; exact hh.2
end Go.Proofs.Ytkcokcanakljnaa
/-
  The document's Body of a product and a token.
-/
namespace Go.Proofs.Ytkcokcanakljnaa
open Go.RowKit
def tokB (t : Nat) : List Nat := [t / 16777216, t / 65536 % 256, t / 256 % 256, t % 256]
def bodyN (m : List Int) (t : Nat) : List Nat := (formN m).length :: (formN m ++ (tokB t ++ List.replicate (59 - (formN m).length) 0))
theorem body_len {m : List Int} (h : RightN m) (t : Nat) : (bodyN m t).length = 64 := by
  have := form_len h
  simp only [bodyN, tokB, List.length_cons, List.length_append, List.length_replicate, List.length_nil]
  omega
theorem arr_four {w : World} {g a b c d : Nat} (h : Has w g 5 #[.int .u8 (a : Int), .int .u8 (b : Int), .int .u8 (c : Int), .int .u8 (d : Int)]) : Arr w (· = g) (some ⟨g, 0, none⟩) 4 (fun i => bV ([a, b, c, d].getD i 0)) := by
  intro i hi
  rcases (show i = 0 ∨ i = 1 ∨ i = 2 ∨ i = 3 by omega) with rfl | rfl | rfl | rfl
  · exact ⟨_, rfl, rfl, (h.cell 0).trans rfl⟩
  · exact ⟨_, rfl, rfl, (h.cell 1).trans rfl⟩
  · exact ⟨_, rfl, rfl, (h.cell 2).trans rfl⟩
  · exact ⟨_, rfl, rfl, (h.cell 3).trans rfl⟩
theorem own_oneb {w : World} {base x : Nat} (hb : base ≤ w.heap.size) : (w.alloc (.cells #[.int .u8 (x : Int)] 5)).ownsRow base 5 1 (.slice (some ⟨w.heap.size, 0, none⟩) 1 1) 1 ([x].map bV) :=
  ⟨rfl, .inr ⟨w.heap.size, 1, #[.int .u8 (x : Int)], rfl, hb, heap_alloc_new w _, Nat.le_refl _, by simp [maxLen], rfl, rfl⟩⟩
theorem wrap_mod (k : Nat) : IntKind.u8.wrap (k : Int) = ((k % 256 : Nat) : Int) := by rw [IntKind.wrap_u8]; omega
set_option maxRecDepth 100000 in
set_option maxHeartbeats 4000000 in
theorem rBody10_any (p : Pd) (hp : RightN p.ns) (t : Nat) (ht : t ≤ 2147483647) (w : World) : Calls Try.prog 15 #[p.V, .int .i64 (t : Int)] w fun e w' => ∃ A c, e = .returned (.slice A 64 c) ∧ w'.ownsRow w.heap.size 5 1 (.slice A 64 c) 64 ((bodyN p.ns t).map bV) ∧ New w w' := by
  have HFo := Lib.hid (rForm10_any p hp)
  have hl := form_len hp
  have hbl := body_len hp t
  unfold bodyN at hbl ⊢
  obtain ⟨f, hf⟩ : ∃ f, f = formN p.ns := ⟨_, rfl⟩
  rw [← hf] at HFo hl hbl ⊢
  clear hf hp
  obtain ⟨d1, h1⟩ : ∃ d, d = t / 16777216 := ⟨_, rfl⟩
  obtain ⟨d2, h2⟩ : ∃ d, d = t / 65536 := ⟨_, rfl⟩
  obtain ⟨d3, h3⟩ : ∃ d, d = t / 256 := ⟨_, rfl⟩
  obtain ⟨r2, k2⟩ : ∃ d, d = d2 % 256 := ⟨_, rfl⟩
  obtain ⟨r3, k3⟩ : ∃ d, d = d3 % 256 := ⟨_, rfl⟩
  obtain ⟨r4, k4⟩ : ∃ d, d = t % 256 := ⟨_, rfl⟩
  have htk : tokB t = [d1, r2, r3, r4] := by unfold tokB; rw [← h1, ← h2, ← h3, ← k2, ← k3, ← k4]
  rw [htk] at hbl ⊢
  have f1 : Int.tdiv (t : Int) 16777216 = (d1 : Int) := by rw [Int.tdiv_eq_ediv_of_nonneg (by omega)]; omega
  have f2 : Int.tdiv (t : Int) 65536 = (d2 : Int) := by rw [Int.tdiv_eq_ediv_of_nonneg (by omega)]; omega
  have f3 : Int.tdiv (t : Int) 256 = (d3 : Int) := by rw [Int.tdiv_eq_ediv_of_nonneg (by omega)]; omega
  have q1 : (t : Int) / 16777216 = (d1 : Int) := by omega
  have q2 : (t : Int) / 65536 = (d2 : Int) := by omega
  have q3 : (t : Int) / 256 = (d3 : Int) := by omega
  have u1 : IntKind.u8.wrap (d1 : Int) = (d1 : Int) := small_wrap _ (by omega)
  have u2 : IntKind.u8.wrap (d2 : Int) = (r2 : Int) := by rw [wrap_mod, k2]
  have u3 : IntKind.u8.wrap (d3 : Int) = (r3 : Int) := by rw [wrap_mod, k3]
  have u4 : IntKind.u8.wrap (t : Int) = (r4 : Int) := by rw [wrap_mod, k4]
  have v1 : IntKind.i64.wrap (d1 : Int) = (d1 : Int) := IntWalk.i64_in _ (by omega)
  have v2 : IntKind.i64.wrap (d2 : Int) = (d2 : Int) := IntWalk.i64_in _ (by omega)
  have v3 : IntKind.i64.wrap (d3 : Int) = (d3 : Int) := IntWalk.i64_in _ (by omega)
  have y1 : wrap64 (d1 : Int) = (d1 : Int) := w64 _ (by omega) (by omega)
  have y2 : wrap64 (d2 : Int) = (d2 : Int) := w64 _ (by omega) (by omega)
  have y3 : wrap64 (d3 : Int) = (d3 : Int) := w64 _ (by omega) (by omega)
  clear h1 h2 h3 k2 k3 k4 htk ht
  obtain ⟨L, hL⟩ : ∃ L, L = f.length := ⟨_, rfl⟩
  rw [← hL] at HFo hl hbl ⊢
  have HL := Lib.hid hL
  have Hl := Lib.hid hl
  have Hbl := Lib.hid hbl
  clear hL hl hbl
  have u0 : IntKind.u8.wrap (L : Int) = (L : Int) := small_wrap _ (by have := Hl.out; omega)
  obtain ⟨x0, x1, x2, x3, x4, x5, x6, x7, x8, x9, x10, x11, x12, x13⟩ := p
  have HFo : Hid (∀ w, Calls Try.prog 14 #[.agg #[.int .i64 x0, .int .i64 x1, .int .i64 x2, .int .i64 x3, .int .i64 x4, .int .i64 x5, .int .i64 x6, .int .i64 x7, .bool x8, .int .i64 x9, .int .i64 x10, .int .i64 x11, .int .i64 x12, .bool x13]] w fun e w' => ∃ A c, e = .returned (.slice A L c) ∧ w'.ownsRow w.heap.size 5 1 (.slice A L c) L (f.map bV) ∧ New w w') := HFo.out
  go_enter Try.func15, Try.ntmps15
  go_wp2_with fail
  with_reducible refine (HFo.out _).mono ?_
  rintro e w1 ⟨A, c, rfl, hO, hN⟩
  have HO := Lib.hid hO
  have HN := Lib.hid (((Chg.refl (fun _ => False) w).alloc _).then_new hN)
  clear hO hN HFo
  go_wp2_with (first
    | (at_builtin; refine wpList_app2 (wX := w) rfl (HN3.out.alloc _) _ _ rfl (.slice A3 (1 + L) c3) (1 + L) (L :: f) rfl (own_new HO3.out ((Chg.refl _ _).alloc _)) (some ⟨w3.heap.size, 0, none⟩) 4 4 [d1, r2, r3, r4] (· = w3.heap.size) rfl (arr_four (Has.new w3 5 _)) rfl (fun h => by cases h) (by have := Hl.out; omega) ?_
       intro A4 c4 w4 hO4 hN4 _
       have HO4 := Lib.hid hO4
       have HN4 := Lib.hid hN4
       clear hO4 hN4)
    | (at_builtin; refine wpList_app2 (wX := w) rfl (HN.out.alloc _) _ _ rfl (.slice (some ⟨w1.heap.size, 0, none⟩) 1 1) 1 [L] rfl (own_oneb HN.out.size) A L c f (fun j => Value.ownBlock (.slice A L c) = some j) rfl (own_arr_bs HL.out.symm (own_new HO.out ((Chg.refl _ _).alloc _))) HL.out.symm (fun h => own_nilb HO.out h) (by have := Hl.out; omega) ?_
       intro A3 c3 w3 hO3 hN3 _
       have HO3 := Lib.hid hO3
       have HN3 := Lib.hid hN3
       clear hO3 hN3)
    | fail)
  clear f1 f2 f3 q1 q2 q3 u1 u2 u3 u4 u0 v1 v2 v3 y1 y2 y3
  go_loopg [6] (59 - L) (fun gk s6 wr => ∃ (j k : Nat) (A : Option Addr) (c : Nat), j ≤ 59 - L ∧ k = L + 5 + j ∧ gk = 59 - L - j ∧ s6 = .slice A k c ∧ wr.ownsRow w.heap.size 5 1 (.slice A k c) k ((L :: f ++ [d1, r2, r3, r4] ++ List.replicate j 0).map bV) ∧ New w wr)
  case atStart =>
    refine ⟨0, 1 + L + 4, A4, c4, by omega, by omega, by omega, rfl, ?_, HN4.out⟩
    have := HO4.out
    simpa using this
  case round =>
    obtain ⟨j, k, A5, c5, hj, hk, rfl, rfl, hO5, hN5⟩ := hrel
    have HO5 := Lib.hid hO5
    have HN5 := Lib.hid hN5
    have Hk := Lib.hid hk
    have Hj := Lib.hid hj
    clear hO5 hN5 HO4 HN4 hk hj
    by_cases hlt : k < 64
    · have t1 : decide ((k : Int) < 64) = true := decide_eq_true (by omega)
      have t2 : decide (k < 64) = true := decide_eq_true hlt
      go_wp2_with (first
        | (at_builtin; refine wpList_app2 (wX := w) rfl (HN5.out.alloc _) _ _ rfl (.slice A5 k c5) k (L :: f ++ [d1, r2, r3, r4] ++ List.replicate j 0) rfl (own_new HO5.out ((Chg.refl _ _).alloc _)) (some ⟨wr.heap.size, 0, none⟩) 1 1 [0] (· = wr.heap.size) rfl (arr_one (Has.new wr 5 _)) rfl (fun h => by cases h) (by omega) ?_
           intro A6 c6 w6 hO6 hN6 _
           have HO6 := Lib.hid hO6
           have HN6 := Lib.hid hN6
           clear hO6 hN6)
        | fail)
      go_roundg (59 - L - (j + 1))
      case measure => have := Hk.out; omega
      case rel =>
        refine ⟨j + 1, k + 1, A6, c6, by have := Hk.out; omega, by have := Hk.out; omega, rfl, rfl, ?_, HN6.out⟩
        have := HO6.out
        rw [List.append_assoc, ← List.replicate_succ'] at this
        exact this
    · have hj2 : j = 59 - L := by have := Hk.out; have := Hl.out; have := Hj.out; omega
      have hk2 : k = 64 := by have := Hk.out; have := Hl.out; omega
      subst hk2
      go_wp2_with fail
      go_ret
      refine ⟨A5, c5, rfl, ?_, HN5.out⟩
      have := HO5.out
      rw [hj2] at this
      simpa using this
end Go.Proofs.Ytkcokcanakljnaa
/-
  What a body of 64 bytes says, and back: plain mathematics.
-/
namespace Go.Proofs.Ytkcokcanakljnaa
/-- four bytes as a token -/
def tokV (b : List Nat) : Nat := b.foldl (fun t x => 256 * t + x) 0
/-- a byte that is not 0 behind the token -/
def RestP (b : List Nat) (n : Nat) : Prop := ∃ j, 5 + n ≤ j ∧ j < 64 ∧ b.getD j 0 ≠ 0
noncomputable instance RestP_dec (b : List Nat) (n : Nat) : Decidable (RestP b n) := Classical.propDecidable _
/-- what a body says: an error, or the numbers and the token -/
noncomputable def openN (b : List Nat) : Nat ⊕ (List Int × Nat) :=
  if b.length < 64 then .inl 10 else if 64 < b.length then .inl 11 else if 59 < b.getD 0 0 then .inl 12 else
  match parseN ((b.drop 1).take (b.getD 0 0)) with
  | .inl z => .inl z
  | .inr m => if RestP b (b.getD 0 0) then .inl 14 else
    if tokV ((b.drop (1 + b.getD 0 0)).take 4) = 0 ∨ 2147483647 < tokV ((b.drop (1 + b.getD 0 0)).take 4) then .inl 12 else .inr (m, tokV ((b.drop (1 + b.getD 0 0)).take 4))
theorem tokV_four (a b c d : Nat) : tokV [a, b, c, d] = 256 * (256 * (256 * a + b) + c) + d := by simp [tokV]
theorem tokV_tokB {t : Nat} (_ht : t ≤ 2147483647) : tokV (tokB t) = t := by
  unfold tokB
  rw [tokV_four]
  omega
theorem tokB_tokV {a b c d : Nat} (_ha : a < 256) (hb : b < 256) (hc : c < 256) (hd : d < 256) : tokB (tokV [a, b, c, d]) = [a, b, c, d] := by
  rw [tokV_four]
  unfold tokB
  have h1 : (256 * (256 * (256 * a + b) + c) + d) / 16777216 = a := by omega
  have h2 : (256 * (256 * (256 * a + b) + c) + d) / 65536 % 256 = b := by omega
  have h3 : (256 * (256 * (256 * a + b) + c) + d) / 256 % 256 = c := by omega
  have h4 : (256 * (256 * (256 * a + b) + c) + d) % 256 = d := by omega
  rw [h1, h2, h3, h4]
theorem body_0 (m : List Int) (t : Nat) : (bodyN m t).getD 0 0 = (formN m).length := rfl
theorem body_form {m : List Int} (t : Nat) : ((bodyN m t).drop 1).take (formN m).length = formN m := by
  unfold bodyN
  rw [List.drop_succ_cons, List.drop_zero, List.take_left']
  rfl
theorem body_tok {m : List Int} (t : Nat) : ((bodyN m t).drop (1 + (formN m).length)).take 4 = tokB t := by
  unfold bodyN
  rw [show 1 + (formN m).length = (formN m).length + 1 by omega, List.drop_succ_cons, List.drop_left']
  · rw [List.take_left']; rfl
  · rfl
theorem body_rest {m : List Int} (t j : Nat) (hj : 5 + (formN m).length ≤ j) : (bodyN m t).getD j 0 = 0 := by
  unfold bodyN
  obtain ⟨q, rfl⟩ : ∃ q, j = (formN m).length + (4 + q) + 1 := ⟨j - (formN m).length - 5, by omega⟩
  rw [List.getD_cons_succ, List.getD_eq_getElem?_getD, List.getElem?_append_right (by omega), show (formN m).length + (4 + q) - (formN m).length = 4 + q by omega, List.getElem?_append_right (by simp [tokB]), List.getElem?_replicate]
  split <;> rfl
/-- there and back -/
theorem open_body {m : List Int} (h : RightN m) {t : Nat} (h1 : 1 ≤ t) (h2 : t ≤ 2147483647) : openN (bodyN m t) = .inr (m, t) := by
  have hl := body_len h t
  have hf := form_len h
  unfold openN
  rw [if_neg (by omega), if_neg (by omega), body_0, if_neg (by omega), body_form, parse_form h]
  simp only
  rw [if_neg (by
    rintro ⟨j, a, _, c⟩
    exact c (body_rest t j a)), body_tok, tokV_tokB h2, if_neg (by omega)]
/-- and the other way round -/
theorem body_open {b : List Nat} {m : List Int} {t : Nat} (hb : ∀ x ∈ b, x < 256) (h : openN b = .inr (m, t)) : RightN m ∧ 1 ≤ t ∧ t ≤ 2147483647 ∧ b = bodyN m t := by
  unfold openN at h
  split at h
  · cases h
  next l1 =>
  split at h
  · cases h
  next l2 =>
  split at h
  · cases h
  next l3 =>
  have hl : b.length = 64 := by omega
  obtain ⟨n, hn⟩ : ∃ n, n = b.getD 0 0 := ⟨_, rfl⟩
  rw [← hn] at h l3
  cases hp : parseN ((b.drop 1).take n) with
  | inl z => rw [hp] at h; cases h
  | inr m' =>
    rw [hp] at h
    simp only at h
    split at h
    · cases h
    next l4 =>
    split at h
    · cases h
    next l5 =>
    simp only [Sum.inr.injEq, Prod.mk.injEq] at h
    obtain ⟨rfl, rfl⟩ := h
    obtain ⟨hR, hfm⟩ := form_parse (fun x hx => hb x (List.mem_of_mem_drop (List.mem_of_mem_take hx))) hp
    have hfl : (formN m').length = n := by rw [← hfm, List.length_take, List.length_drop]; omega
    refine ⟨hR, by omega, by omega, ?_⟩
    have h4 : ((b.drop (1 + n)).take 4).length = 4 := by rw [List.length_take, List.length_drop]; omega
    have hsm : ∀ x ∈ (b.drop (1 + n)).take 4, x < 256 := fun x hx => hb x (List.mem_of_mem_drop (List.mem_of_mem_take hx))
    have htk : tokB (tokV ((b.drop (1 + n)).take 4)) = (b.drop (1 + n)).take 4 := by
      match hq : (b.drop (1 + n)).take 4, h4, hsm with
      | [x, y, z, u], _, hs => exact tokB_tokV (hs x (by simp)) (hs y (by simp)) (hs z (by simp)) (hs u (by simp))
    unfold bodyN
    rw [htk, hfl, ← hfm]
    have hrest : b.drop (5 + n) = List.replicate (59 - n) 0 := by
      refine List.ext_getElem? fun j => ?_
      rw [List.getElem?_drop, List.getElem?_replicate]
      by_cases hj : j < 59 - n
      · rw [if_pos hj, List.getElem?_eq_getElem (by omega)]
        have : b.getD (5 + n + j) 0 = 0 := Classical.byContradiction fun hh => l4 ⟨5 + n + j, by omega, by omega, hh⟩
        rw [List.getD_eq_getElem?_getD, List.getElem?_eq_getElem (by omega)] at this
        simpa using this
      · rw [if_neg hj, List.getElem?_eq_none (by omega)]
    rw [← hrest]
    have e1 : (b.drop (1 + n)).take 4 ++ b.drop (5 + n) = b.drop (1 + n) := by
      rw [show b.drop (5 + n) = (b.drop (1 + n)).drop 4 by rw [List.drop_drop]; congr 1; omega, List.take_append_drop]
    rw [e1]
    have e2 : (b.drop 1).take n ++ b.drop (1 + n) = b.drop 1 := by
      rw [show b.drop (1 + n) = (b.drop 1).drop n by rw [List.drop_drop], List.take_append_drop]
    rw [e2]
    cases b with
    | nil => simp at hl
    | cons x r => simp at hn ⊢; exact hn.symm
end Go.Proofs.Ytkcokcanakljnaa
/-
  Package ipe's Body of a product and a token.
-/
namespace Go.Proofs.Ytkcokcanakljnaa
open Go.RowKit
theorem pack_tok {t : Nat} (h : t < 4294967296) : pack (bitsOf 32 t) = tokB t := by
  have hb : ∀ i, i < 4 → byteAt (bitsOf 32 t) i = t / 2 ^ (24 - 8 * i) % 256 := by
    intro i hi
    unfold byteAt
    have e : (List.range 8).map (fun k => (bitsOf 32 t).getD (8 * i + k) false) = bitsOf 8 (t / 2 ^ (24 - 8 * i)) := by
      refine List.ext_getElem? fun k => ?_
      by_cases hk : k < 8
      · rw [bitsOf_get 8 _ k hk, List.getElem?_map, List.getElem?_range hk]
        simp only [Option.map_some, List.getD_eq_getElem?_getD]
        rw [bitsOf_get 32 t (8 * i + k) (by omega), Option.getD_some, Nat.div_div_eq_div_mul, ← Nat.pow_add, show 32 - 1 - (8 * i + k) = 24 - 8 * i + (8 - 1 - k) by omega]
      · rw [List.getElem?_eq_none (by simp; omega), List.getElem?_eq_none (by simp; omega)]
    rw [e, numOf_bitsOf]
  unfold pack tokB
  rw [bitsOf_length]
  have h0 := hb 0 (by omega)
  have h1 := hb 1 (by omega)
  have h2 := hb 2 (by omega)
  have h3 := hb 3 (by omega)
  simp only [Nat.reduceMul, Nat.reduceSub, Nat.reducePow] at h0 h1 h2 h3
  show [byteAt (bitsOf 32 t) 0, byteAt (bitsOf 32 t) 1, byteAt (bitsOf 32 t) 2, byteAt (bitsOf 32 t) 3] = _
  rw [h0, h1, h2, h3, Nat.mod_eq_of_lt (a := t / 16777216) (by omega), Nat.div_one]
theorem own_of_has {w : World} {base g n : Nat} {cs : List Value} (h : Has w g 5 cs.toArray) (hl : cs.length = n) (hb : base ≤ g) (hn : n ≤ 1000) : w.ownsRow base 5 1 (.slice (some ⟨g, 0, none⟩) n n) n cs := by
  subst hl
  exact ⟨by simp, .inr ⟨g, cs.length, cs.toArray, rfl, hb, h, Nat.le_refl _, by simp only [maxLen]; omega, by simp, by simp⟩⟩
theorem arr_get {w : World} {F : Nat → Prop} {A : Option Addr} {n : Nat} {bs : List Nat} (hA : Arr w F A n (fun i => bV (bs.getD i 0))) (hl : bs.length = n) (hn : 0 < n) : ∃ ad, A = some ad ∧ ∀ j v, (bs.map bV)[j]? = some v → w.cell? (ad.add j) = some v := by
  obtain ⟨ad, rfl, _, _⟩ := hA 0 hn
  refine ⟨ad, rfl, fun j v hv => ?_⟩
  rw [List.getElem?_map] at hv
  obtain ⟨x, hx, rfl⟩ := Option.map_eq_some_iff.1 hv
  obtain ⟨hj, he⟩ := List.getElem?_eq_some_iff.1 hx
  obtain ⟨ad', e, _, hc⟩ := hA j (by omega)
  cases e
  rw [hc]
  show some (bV (bs.getD j 0)) = _
  rw [List.getD_eq_getElem?_getD, hx]
  rfl
theorem take_len {α : Type} (a b : List α) : (a ++ b).take a.length = a := by simp
/-- the rows of the body, as they are laid -/
theorem body_row {f k : List Nat} {l : Nat} (hl : f.length = l) (hk : k.length = 4) (h : l ≤ 53) :
    splice (splice (((zs 64).set 0 l).map bV) 1 (f.map bV)) (1 + l) (k.map bV) = (l :: (f ++ (k ++ List.replicate (59 - l) 0))).map bV := by
  have e0 : (zs 64).set 0 l = l :: List.replicate 63 0 := rfl
  rw [e0, List.map_cons]
  have e1 : splice (bV l :: (List.replicate 63 0).map bV) 1 (f.map bV) = (bV l :: f.map bV) ++ (List.replicate (63 - l) 0).map bV := by
    unfold splice
    rw [List.length_map, hl, List.take_succ_cons, List.take_zero, show 1 + l = l + 1 by omega, List.drop_succ_cons, List.map_replicate, List.drop_replicate, List.map_replicate]
    rfl
  rw [e1]
  unfold splice
  have e2 : (bV l :: f.map bV).length = 1 + l := by simp [hl]; omega
  have e3 : ((bV l :: f.map bV) ++ (List.replicate (63 - l) 0).map bV).take (1 + l) = bV l :: f.map bV := by rw [← e2]; exact take_len _ _
  have e4 : ((bV l :: f.map bV) ++ (List.replicate (63 - l) 0).map bV).drop (1 + l + (k.map bV).length) = (List.replicate (59 - l) 0).map bV := by
    rw [List.length_map, hk, List.drop_append, e2, List.drop_eq_nil_of_le (by rw [e2]; omega), List.nil_append, List.map_replicate, List.drop_replicate, List.map_replicate]
    congr 1
    omega
  rw [e3, e4]
  simp [List.map_append]
theorem rightToken_any (t : Int) (w : World) : Calls Try.prog 37 #[.int .i64 t] w fun e w' => e = .returned (.bool (withB 1 2147483647 [t])) ∧ New w w' := by
  have HWi : Hid (∀ (g : Nat) (w : World), Has w g 3 #[.int .i64 t] → Calls Try.prog 68 #[.int .i64 1, .int .i64 2147483647, .slice (some ⟨g, 0, none⟩) 1 1] w fun e w' => e = .returned (.bool (withB 1 2147483647 [t])) ∧ New w w') := fun g w h => within_any 1 2147483647 [t] 1 1 g rfl (by omega) w h
  generalize withB 1 2147483647 [t] = b at HWi ⊢
  go_enter Try.func37, Try.ntmps37
  go_wp2_with fail
  with_reducible refine (HWi.out _ _ (Has.new _ _ _)).mono ?_
  rintro e w1 ⟨rfl, hN⟩
  have HN := Lib.hid (((Chg.refl (fun _ => False) w).alloc (.cells #[.int .i64 t] 3)).then_new hN)
  clear hN
  go_wp2_with fail
  go_ret
  exact ⟨rfl, HN.out⟩
def okT (t : Int) : Bool := decide (1 ≤ t) && decide (t ≤ 2147483647)
theorem okT_iff (t : Int) : withB 1 2147483647 [t] = okT t := by simp [withB, okT]
set_option maxRecDepth 100000 in
theorem iBody_no (p : Pd) (t : Int) (h : rightN p.ns = false ∨ okT t = false) (w : World) : Calls Try.prog 10 #[p.V, .int .i64 t] w fun e w' => e = .returned (.tuple #[.slice none 0 0, .int .i64 2]) ∧ New w w' := by
  cases hr : rightN p.ns with
  | false =>
    have HF := Lib.hid (fun w => iForm_no p hr w)
    clear h hr
    obtain ⟨x0, x1, x2, x3, x4, x5, x6, x7, x8, x9, x10, x11, x12, x13⟩ := p
    have HF : Hid (∀ w, Calls Try.prog 9 #[.agg #[.int .i64 x0, .int .i64 x1, .int .i64 x2, .int .i64 x3, .int .i64 x4, .int .i64 x5, .int .i64 x6, .int .i64 x7, .bool x8, .int .i64 x9, .int .i64 x10, .int .i64 x11, .int .i64 x12, .bool x13]] w fun e w' => e = .returned (.tuple #[.slice none 0 0, .int .i64 2]) ∧ New w w') := HF.out
    go_enter Try.func10, Try.ntmps10
    go_wp2_with fail
    with_reducible refine (HF.out _).mono ?_
    rintro e w1 ⟨rfl, hN⟩
    have HN := Lib.hid (((Chg.refl (fun _ => False) w).alloc (.cells #[.int .i64 x0, .int .i64 x1, .int .i64 x2, .int .i64 x3, .int .i64 x4, .int .i64 x5, .int .i64 x6, .int .i64 x7, .bool x8, .int .i64 x9, .int .i64 x10, .int .i64 x11, .int .i64 x12, .bool x13] 24)).then_new hN)
    clear hN
    go_wp2_with fail
    go_ret2
    exact ⟨rfl, HN.out⟩
  | true =>
    have ht : okT t = false := h.resolve_left (by rw [hr]; decide)
    have HF := Lib.hid (fun w => iForm_yes p (rightN_of hr) w)
    have HT := Lib.hid (rightToken_any t)
    rw [okT_iff, ht] at HT
    clear h hr ht
    obtain ⟨l, hl⟩ : ∃ l, l = (formN p.ns).length := ⟨_, rfl⟩
    obtain ⟨f, hf⟩ : ∃ f, f = formN p.ns := ⟨_, rfl⟩
    rw [← hl, ← hf] at HF
    clear hl hf
    obtain ⟨x0, x1, x2, x3, x4, x5, x6, x7, x8, x9, x10, x11, x12, x13⟩ := p
    have HF : Hid (∀ w, Calls Try.prog 9 #[.agg #[.int .i64 x0, .int .i64 x1, .int .i64 x2, .int .i64 x3, .int .i64 x4, .int .i64 x5, .int .i64 x6, .int .i64 x7, .bool x8, .int .i64 x9, .int .i64 x10, .int .i64 x11, .int .i64 x12, .bool x13]] w fun e w' => ∃ A c, e = .returned (.tuple #[.slice A l c, .int .i64 0]) ∧ w'.ownsRow w.heap.size 5 1 (.slice A l c) l (f.map bV) ∧ New w w') := HF.out
    go_enter Try.func10, Try.ntmps10
    go_wp2_with fail
    with_reducible refine (HF.out _).mono ?_
    rintro e w1 ⟨A, c, rfl, _, hN⟩
    have HN := Lib.hid (((Chg.refl (fun _ => False) w).alloc (.cells #[.int .i64 x0, .int .i64 x1, .int .i64 x2, .int .i64 x3, .int .i64 x4, .int .i64 x5, .int .i64 x6, .int .i64 x7, .bool x8, .int .i64 x9, .int .i64 x10, .int .i64 x11, .int .i64 x12, .bool x13] 24)).then_new hN)
    clear hN
    go_wp2_with fail
    with_reducible refine (HT.out _).mono ?_
    rintro e w2 ⟨rfl, hN⟩
    have HN2 := Lib.hid (HN.out.then_new hN)
    clear hN
    go_wp2_with fail
    go_ret2
    exact ⟨rfl, HN2.out⟩
set_option maxRecDepth 100000 in
set_option maxHeartbeats 4000000 in
theorem iBody_yes (p : Pd) (hp : RightN p.ns) (t : Nat) (ht1 : 1 ≤ t) (ht2 : t ≤ 2147483647) (w : World) : Calls Try.prog 10 #[p.V, .int .i64 (t : Int)] w fun e w' => ∃ A c, e = .returned (.tuple #[.slice A 64 c, .int .i64 0]) ∧ w'.ownsRow w.heap.size 5 1 (.slice A 64 c) 64 ((bodyN p.ns t).map bV) ∧ New w w' := by
  have HF := Lib.hid (fun w => iForm_yes p hp w)
  have HT := Lib.hid (rightToken_any (t : Int))
  have hok : okT (t : Int) = true := by unfold okT; simp; omega
  rw [okT_iff, hok] at HT
  have Hl53 : Hid ((formN p.ns).length ≤ 53) := form_len hp
  have Hf256 := Lib.hid (form_small hp)
  have HP4 : Hid (∀ (w : World) (b g : Nat), Wrt w b (.slice none 0 0) [] → Has w g 102 #[.int .i64 32, .int .i64 t] → g ≠ b → g < w.heap.size → Calls Try.prog 38 #[.pointer (some ⟨b, 0, none⟩), .slice (some ⟨g, 0, none⟩) 1 1] w fun e w' => e = .returned (.int .i64 0) ∧ ∃ v', Wrt w' b v' (bitsOf 32 t) ∧ Chg (· = b) w w') := fun w b g hW hg hgb hgl => by
    have hA : Flds w (· = g) (some ⟨g, 0, none⟩) 1 (fun _ => 32) (fun _ => (t : Int)) := fun i hi => by
      obtain rfl : i = 0 := by omega
      exact ⟨_, rfl, rfl, (hg.cell 0).trans rfl, (hg.cell 1).trans rfl⟩
    refine (Put_ok b (· = g) (.slice none 0 0) [] (some ⟨g, 0, none⟩) 1 1 (fun _ => 32) (fun _ => (t : Int)) w hW hA (fun k hk => by rw [hk]; exact ⟨hgl, hgb, fun h => by cases h⟩) (by simp) (fun j _ => by unfold okF; simp; omega)).mono ?_
    rintro e w' ⟨rfl, v', h1, h2⟩
    refine ⟨rfl, v', by simpa [fbits] using h1, h2.1.mono (fun i _ h => by rcases h with h | h; exact h; cases h)⟩
  have Hpk : Hid (pack (bitsOf 32 t) = tokB t) := pack_tok (by omega)
  have Hbr : Hid (splice (splice (((zs 64).set 0 (formN p.ns).length).map bV) 1 ((formN p.ns).map bV)) (1 + (formN p.ns).length) ((tokB t).map bV) = (bodyN p.ns t).map bV) := body_row rfl rfl (form_len hp)
  have Htk : Hid ((tokB t).length = 4 ∧ ∀ x ∈ tokB t, x < 256) := ⟨rfl, by rw [← Hpk.out]; exact pack_mem _⟩
  obtain ⟨f, hf⟩ : ∃ f, f = formN p.ns := ⟨_, rfl⟩
  have Hbl : Hid ((bodyN p.ns t).length = 64) := body_len hp t
  obtain ⟨body, hbody⟩ : ∃ b, b = bodyN p.ns t := ⟨_, rfl⟩
  rw [← hf] at HF Hl53 Hf256 Hbr
  rw [← hbody] at Hbr Hbl ⊢
  obtain ⟨l, hl⟩ : ∃ l, l = f.length := ⟨_, rfl⟩
  rw [← hl] at HF Hl53 Hbr
  have Hl := Lib.hid hl
  obtain ⟨k, hk⟩ : ∃ k, k = tokB t := ⟨_, rfl⟩
  rw [← hk] at Hpk Hbr Htk
  clear hf hbody hl hp hok ht1 ht2 hk
  have u1 : IntKind.u8.wrap (l : Int) = (l : Int) := small_wrap _ (by have := Hl53.out; omega)
  have u2 : IntKind.i64.wrap (1 + (l : Int)) = 1 + (l : Int) := IntWalk.i64_in _ (by have := Hl53.out; omega)
  have u3 : wrap64 (1 + (l : Int)) = 1 + (l : Int) := w64 _ (by omega) (by have := Hl53.out; omega)
  have u4 : (0 : Int) ≤ 1 + (l : Int) := by omega
  have u5 : 1 + (l : Int) ≤ 64 := by have := Hl53.out; omega
  have u6 : (1 + (l : Int)).toNat = 1 + l := by omega
  have u7 : ¬ (64 = 1 + l) := by have := Hl53.out; omega
  obtain ⟨x0, x1, x2, x3, x4, x5, x6, x7, x8, x9, x10, x11, x12, x13⟩ := p
  have HF : Hid (∀ w, Calls Try.prog 9 #[.agg #[.int .i64 x0, .int .i64 x1, .int .i64 x2, .int .i64 x3, .int .i64 x4, .int .i64 x5, .int .i64 x6, .int .i64 x7, .bool x8, .int .i64 x9, .int .i64 x10, .int .i64 x11, .int .i64 x12, .bool x13]] w fun e w' => ∃ A c, e = .returned (.tuple #[.slice A l c, .int .i64 0]) ∧ w'.ownsRow w.heap.size 5 1 (.slice A l c) l (f.map bV) ∧ New w w') := HF.out
  go_enter Try.func10, Try.ntmps10
  go_wp2_with fail
  with_reducible refine (HF.out _).mono ?_
  rintro e w1 ⟨A, c, rfl, hO, hN⟩
  have HBy := Lib.hid (Byts.own_any hO (Chg.refl _ _) Hf256.out (by have := Hl53.out; omega))
  have HN1 := Lib.hid (((Chg.refl (fun _ => False) w).alloc (.cells #[.int .i64 x0, .int .i64 x1, .int .i64 x2, .int .i64 x3, .int .i64 x4, .int .i64 x5, .int .i64 x6, .int .i64 x7, .bool x8, .int .i64 x9, .int .i64 x10, .int .i64 x11, .int .i64 x12, .bool x13] 24)).then_new hN)
  clear hN hO
  go_wp2_with fail
  with_reducible refine (HT.out _).mono ?_
  rintro e w2 ⟨rfl, hN⟩
  have HN2 := Lib.hid (HN1.out.then_new hN)
  have HBy2 := Lib.hid (HBy.out.new hN (fun _ h => h))
  have hs12 := hN.size
  clear hN HBy HN1
  go_upto_region 5 with (fail)
  obtain ⟨wb, hwb⟩ : ∃ b, b = w2.heap.size := ⟨_, rfl⟩
  obtain ⟨w3, hw3⟩ : ∃ w3, w3 = w2.alloc (.cells #[.slice none 0 0, .int .i64 0] 99) := ⟨_, rfl⟩
  have HW3 : Hid (Wrt w3 wb (.slice none 0 0) []) := by rw [hw3, hwb]; exact Wr_zero w2
  have HM3 : Hid (New w2 w3) := by rw [hw3]; exact (Chg.refl _ _).alloc _
  have Hwb : Hid (w.heap.size ≤ wb ∧ w1.heap.size ≤ wb ∧ wb < w3.heap.size) := by
    have h1 := HN2.out.size
    rw [Hid, hw3, hwb]
    exact ⟨h1, hs12, by simp⟩
  rw [← hw3, ← hwb]
  have Hs12 := Lib.hid hs12
  clear hw3 hwb hs12
  go_wp2_with fail
  with_reducible refine (HP4.out (w3.alloc (.cells #[.int .i64 32, .int .i64 (t : Int)] 102)) wb w3.heap.size (HW3.out.new ((Chg.refl _ _).alloc _)) (Has.new _ _ _) (by have := Hwb.out.2.2; omega) (by simp)).mono ?_
  rintro e w4 ⟨rfl, v', hW4, hC4⟩
  have HW4 := Lib.hid hW4
  have HC4 := Lib.hid hC4
  have HM34 : Hid (New w3 (w3.alloc (.cells #[.int .i64 32, .int .i64 (t : Int)] 102))) := (Chg.refl _ _).alloc _
  have HN4 : Hid (New w w4) := (HN2.out.then_new (HM3.out.then_new HM34.out)).trans hC4 (fun i hi h => by have := Hwb.out.1; omega)
  have HY4 : Hid (Byts w4 (fun j => j < w1.heap.size) (.slice A l c) f) := (HBy2.out.new (HM3.out.then_new HM34.out) (fun j h => by have h1 := Hs12.out; omega)).chg hC4 (fun j h => ⟨by have h1 := Hwb.out; have h2 := HM34.out.size; omega, by have h1 := Hwb.out; omega⟩)
  have HwbL : Hid (wb < w4.heap.size) := Nat.lt_of_lt_of_le Hwb.out.2.2 (Nat.le_trans HM34.out.size HC4.out.size)
  have HBs : Hid (∀ wz, Wrt wz wb v' (bitsOf 32 t) → Calls Try.prog 39 #[.pointer (some ⟨wb, 0, none⟩)] wz fun e w' => ∃ A' c', e = .returned (.slice A' 4 c') ∧ w'.ownsRow wz.heap.size 5 1 (.slice A' 4 c') 4 (k.map bV) ∧ New wz w') := fun wz h => by
    have := Bytes_any wb v' (bitsOf 32 t) wz h (by simp)
    rw [Hpk.out, Htk.out.1] at this
    exact this
  clear hW4 hC4 HP4 HN2 HM3 HM34 HBy2 HW3 HC4
  go_wp2_with (first
    | (refine wpList_copy_has rfl _ _ rfl g 1 63 63 rfl A l c rfl 5 (((zs 64).set 0 l).map bV) HR5.out (fun j => j < w1.heap.size) (fun i => bV (f.getD i 0)) (by obtain ⟨A', c', e', hA', _⟩ := HY5.out; cases e'; rw [Hl.out]; exact hA') (fun i _ => rfl) (by simp [zs]) ?_
       intro w6 hX hC
       have HX6 := Lib.hid hX
       have HC6 := Lib.hid hC
       clear hX hC)
    | (refine wpList_make_row rfl _ _ rfl 64 64 rfl rfl rfl (by omega) ?_
       intro g w5 hg hR hN5
       have HR5 : Hid (Row (w5.setCell ⟨g, 0, none⟩ (.int .u8 (l : Int))) g ((zs 64).set 0 l)) := hR.set
       have Hvg : Hid (∀ q, v'.ownBlock = some q → q ≠ g) := fun q hq he => by have h1 := (HW4.out.2.lt q hq).2; have h2 := hg.out; omega
       have hc5 : Chg (· = g) w5 (w5.setCell ⟨g, 0, none⟩ (.int .u8 (l : Int))) := Chg.setCell (S := (· = g)) (Chg.refl _ _) (fun _ => rfl) _
       have Hg5 : Hid (w.heap.size ≤ g ∧ w1.heap.size ≤ g ∧ wb < g) := by have h1 := HwbL.out; have h2 := Hwb.out; have h3 := hg.out; rw [Hid]; omega
       have HN5 : Hid (New w (w5.setCell ⟨g, 0, none⟩ (.int .u8 (l : Int)))) := (HN4.out.then_new hN5).trans hc5 (fun i hi h => by have := Hg5.out.1; omega)
       have HW5 : Hid (Wrt (w5.setCell ⟨g, 0, none⟩ (.int .u8 (l : Int))) wb v' (bitsOf 32 t)) := (HW4.out.new hN5).chg hc5 (by have := Hg5.out; omega) (fun q hq he => by have h1 := (HW4.out.2.lt q hq).2; have h2 := hg.out; omega)
       have HY5 : Hid (Byts (w5.setCell ⟨g, 0, none⟩ (.int .u8 (l : Int))) (fun j => j < w1.heap.size) (.slice A l c) f) := (HY4.out.new hN5 (fun j h => by have h1 := HwbL.out; have h2 := Hwb.out; omega)).chg hc5 (fun j h => ⟨by have h1 := HwbL.out; have h2 := Hwb.out; have h3 := hN5.size; omega, by have := Hg5.out; omega⟩)
       have g0 : w5.cell? ⟨g, 0, none⟩ = some (.int .u8 0) := (hR.cell 0).trans rfl
       have gf := Has.free hR 0
       have gl := hR.lt
       clear hg hR hN5 hc5 HN4 HW4 HY4)
    | fail)
  have HX6 : Hid (Has w6 g 5 (splice (((zs 64).set 0 l).map bV) 1 (f.map bV)).toArray) := by
    have h := HX6.out
    rw [show Nat.min l 63 = l by have := Hl53.out; exact Nat.min_eq_left (by omega), bs_range f l Hl.out.symm] at h
    exact h
  have HN6 : Hid (New w w6) := HN5.out.trans HC6.out (fun i hi h => by have := Hg5.out.1; omega)
  have HW6 : Hid (Wrt w6 wb v' (bitsOf 32 t)) := HW5.out.chg HC6.out (by have := Hg5.out; omega) (fun q hq he => Hvg.out q hq he)
  have hlen6 : (splice (((zs 64).set 0 l).map bV) 1 (f.map bV)).length = 64 := by
    rw [length_splice _ _ _ (by simp [zs]; have := Hl53.out; have := Hl.out; omega)]
    simp [zs]
  have Hlen6 := Lib.hid hlen6
  clear hlen6 HN5 HW5 HY5 HC6 HR5 g0 gf gl
  obtain ⟨cur, hcur⟩ : ∃ cur, cur = splice (((zs 64).set 0 l).map bV) 1 (f.map bV) := ⟨_, rfl⟩
  rw [← hcur] at HX6 Hbr Hlen6
  clear hcur
  go_upto_region 9 with (fail)
  go_region_law (first
    | (refine step_copy_splice rfl (.tmp 40) (.tmp 41) 27 27 rfl 5 Try.underlying27 Try.sizes5 (some ⟨g, 1 + l, none⟩) A7 (64 - (1 + l)) (64 - (1 + l)) 4 c7 (by first | rfl | simp) (by first | rfl | simp) g (1 + l) cur 5 HX7.out (k.map bV) (by rw [List.length_map, Htk.out.1]; have := Hl53.out; exact (Nat.min_eq_left (by omega)).symm) (fun _ => ⟨rfl, Hk7.out⟩) (by rw [List.length_map, Htk.out.1, Hlen6.out]; have := Hl53.out; omega) (fun v hv => by obtain ⟨x, _, rfl⟩ := List.mem_map.1 hv; rfl) w.heap.size w7 (Chg.below (Chg.refl (fun _ => False) _) HN7.out.size (fun _ _ h => h)) Hg5.out.1 ?_
       intro w8 hX8 hB8
       have HX8 := Lib.hid hX8
       have HB8 := Lib.hid hB8
       clear hX8 hB8)
    | (go_simp
       go_at_call 39
       with_reducible refine (HBs.out _ (HW6.out.new ((Chg.refl _ _).drew))).mono ?_
       rintro e w7 ⟨A7, c7, rfl, hO7, hN7⟩
       have Hk7 := Lib.hid (arr_get (own_arr_bs Htk.out.1 hO7) Htk.out.1 (by omega))
       have HX7 : Hid (Has w7 g 5 cur.toArray) := (Has.drew HX6.out).keep hN7
       have HN7 : Hid (New w w7) := (HN6.out.drew).then_new hN7
       clear hO7 hN7))
  all_goals
    have hX8 := HX8.out.out
    rw [Hbr.out] at hX8
    have HX8' : Hid (Has w8 g 5 (body.map bV).toArray) := hX8
    have hB8 := HB8.out
    clear hX8
    go_wp2_with fail
    go_ret2
    exact ⟨_, _, rfl, own_of_has HX8'.out (by rw [List.length_map]; exact Hbl.out) Hg5.out.1 (by omega), HN7.out.trans (Chg.of_below hB8) (fun i hi h => by omega)⟩
end Go.Proofs.Ytkcokcanakljnaa
/-
  Package ipe's pieces of a body: its form, and the token behind it.
-/
namespace Go.Proofs.Ytkcokcanakljnaa
open Go.RowKit
theorem numOf_app (x y : List Bool) : numOf (x ++ y) = numOf x * 2 ^ y.length + numOf y := by
  unfold numOf
  rw [List.foldl_append, numOf_from]
  rfl
theorem num_four {bs : List Nat} (h : 4 ≤ bs.length) (hb : ∀ x ∈ bs, x < 256) : numAt bs 0 32 = tokV (bs.take 4) := by
  match bs, h, hb with
  | a :: b :: c :: d :: r, _, hb =>
    have ha := hb a (by simp)
    have hb' := hb b (by simp)
    have hc := hb c (by simp)
    have hd := hb d (by simp)
    have e : (unpack (a :: b :: c :: d :: r)).take 32 = ((bitsOf 8 a ++ bitsOf 8 b) ++ bitsOf 8 c) ++ bitsOf 8 d := by
      have e1 : unpack (a :: b :: c :: d :: r) = (((bitsOf 8 a ++ bitsOf 8 b) ++ bitsOf 8 c) ++ bitsOf 8 d) ++ unpack r := by simp [unpack]
      rw [e1, List.take_left']
      simp
    unfold numAt
    rw [List.drop_zero, e, numOf_app, numOf_app, numOf_app, numOf_bitsOf, numOf_bitsOf, numOf_bitsOf, numOf_bitsOf]
    simp only [bitsOf_length, List.take_succ_cons, List.take_zero]
    rw [tokV_four, Nat.mod_eq_of_lt (show a < 2 ^ 8 by omega), Nat.mod_eq_of_lt (show b < 2 ^ 8 by omega), Nat.mod_eq_of_lt (show c < 2 ^ 8 by omega), Nat.mod_eq_of_lt (show d < 2 ^ 8 by omega)]
    omega
/-- what parts tells of a body -/
def PartR (A : Option Addr) (n c : Nat) (bs : List Nat) (e : Ending) : Prop :=
  (n < 64 ∧ e = .returned (.tuple #[.slice none 0 0, .slice none 0 0, .int .i64 10])) ∨ (64 < n ∧ e = .returned (.tuple #[.slice none 0 0, .slice none 0 0, .int .i64 11])) ∨
  (n = 64 ∧ 59 < bs.getD 0 0 ∧ e = .returned (.tuple #[.slice none 0 0, .slice none 0 0, .int .i64 12])) ∨
  (n = 64 ∧ bs.getD 0 0 ≤ 59 ∧ ∃ a, A = some a ∧ e = .returned (.tuple #[.slice (some (a.add 1)) (bs.getD 0 0) (c - 1), .slice (some (a.add (1 + bs.getD 0 0))) (64 - (1 + bs.getD 0 0)) (c - (1 + bs.getD 0 0)), .int .i64 0]))
set_option maxRecDepth 100000 in
set_option maxHeartbeats 4000000 in
theorem parts_any (bs : List Nat) (n c : Nat) (A : Option Addr) (w : World) (F : Nat → Prop) (hB : Byts w F (.slice A n c) bs) (hnc : n ≤ c) :
    Calls Try.prog 53 #[.slice A n c] w fun e w' => PartR A n c bs e ∧ New w w' := by
  have hbl := hB.len.1
  by_cases l1 : n < 64
  · have t1 : decide ((n : Int) < 64) = true := decide_eq_true (by omega)
    have t2 : decide (n < 64) = true := decide_eq_true l1
    clear hB
    go_enter Try.func53, Try.ntmps53
    go_wp2_with fail
    refine bodyPost_ret (v := .tuple #[.slice none 0 0, .slice none 0 0, .int .i64 10]) (by simp [results, Try.results53, go_sem]) rfl ?_
    exact ⟨Or.inl ⟨l1, rfl⟩, Chg.refl _ _⟩
  have t1 : decide ((n : Int) < 64) = false := decide_eq_false (by omega)
  have t2 : decide (n < 64) = false := decide_eq_false l1
  by_cases l2 : 64 < n
  · have t3 : decide ((64 : Int) < (n : Int)) = true := decide_eq_true (by omega)
    have t4 : decide (64 < n) = true := decide_eq_true l2
    clear hB
    go_enter Try.func53, Try.ntmps53
    go_wp2_with fail
    refine bodyPost_ret (v := .tuple #[.slice none 0 0, .slice none 0 0, .int .i64 11]) (by simp [results, Try.results53, go_sem]) rfl ?_
    exact ⟨Or.inr (Or.inl ⟨l2, rfl⟩), Chg.refl _ _⟩
  obtain rfl : n = 64 := by omega
  clear t1 t2 l1 l2
  obtain ⟨k, hk⟩ : ∃ k, k = bs.getD 0 0 := ⟨_, rfl⟩
  have hx0 : bs[0]? = some k := by rw [hk, List.getD_eq_getElem?_getD, List.getElem?_eq_getElem (by omega)]; rfl
  obtain ⟨a, rfl, hab, hc0, hk256⟩ := hB.at hx0
  have e0 : a.add 0 = a := by unfold Addr.add; simp
  rw [e0] at hc0
  have vk : IntKind.i64.wrap (k : Int) = (k : Int) := IntWalk.i64_in _ (by omega)
  have vk' : wrap64 (k : Int) = (k : Int) := w64 _ (by omega) (by omega)
  unfold PartR
  rw [← hk]
  by_cases l3 : 59 < k
  · have t3 : decide ((59 : Int) < (k : Int)) = true := decide_eq_true (by omega)
    have t4 : decide (59 < k) = true := decide_eq_true l3
    clear hB hk hx0
    go_enter Try.func53, Try.ntmps53
    go_wp2_with fail
    refine bodyPost_ret (v := .tuple #[.slice none 0 0, .slice none 0 0, .int .i64 12]) (by simp [results, Try.results53, go_sem]) rfl ?_
    exact ⟨Or.inr (Or.inr (Or.inl ⟨by trivial, l3, rfl⟩)), Chg.refl _ _⟩
  have t3 : decide ((59 : Int) < (k : Int)) = false := decide_eq_false (by omega)
  have t4 : decide (59 < k) = false := decide_eq_false l3
  have u2 : IntKind.i64.wrap (1 + (k : Int)) = 1 + (k : Int) := IntWalk.i64_in _ (by omega)
  have u3 : wrap64 (1 + (k : Int)) = 1 + (k : Int) := w64 _ (by omega) (by omega)
  have u4 : (0 : Int) ≤ 1 + (k : Int) := by omega
  have u5 : 1 + (k : Int) ≤ 64 := by omega
  have u6 : (1 + (k : Int)).toNat = 1 + k := by omega
  have u7 : (1 : Int) ≤ 1 + (k : Int) := by omega
  have u8 : 1 + (k : Int) ≤ (c : Int) := by omega
  have u9 : ¬ (c = 1) := by omega
  have u10 : ¬ (c = 1 + k) := by omega
  have a1 : a.add 1 = ⟨a.block, a.off + 1, none⟩ := by unfold Addr.add; rw [if_neg (by omega)]
  have a2 : a.add (1 + k) = ⟨a.block, a.off + (1 + k), none⟩ := by unfold Addr.add; rw [if_neg (by omega)]
  have Ha := Lib.hid (And.intro a1 a2)
  clear a1 a2
  have Hl3 := Lib.hid l3
  clear hB hk hx0 hab e0 l3 hk256
  go_enter Try.func53, Try.ntmps53
  go_upto_region 8 with (fail)
  go_region
  go_wp2_with fail
  refine bodyPost_ret (v := .tuple #[.slice (some ⟨a.block, a.off + 1, none⟩) k (c - 1), .slice (some ⟨a.block, a.off + (1 + k), none⟩) (64 - (1 + k)) (c - (1 + k)), .int .i64 0]) (by simp [results, Try.results53, go_sem, Ha.out.2]) rfl ?_
  exact ⟨Or.inr (Or.inr (Or.inr ⟨by trivial, by have := Hl3.out; omega, a, rfl, by rw [Ha.out.1, Ha.out.2]⟩)), Chg.drew (Chg.refl _ _)⟩
/-- what tokenOf tells of a rest -/
def TokR (r : List Nat) (e : Ending) : Prop :=
  ((∃ j, 4 ≤ j ∧ j < r.length ∧ r.getD j 0 ≠ 0) ∧ e = .returned (.tuple #[.int .i64 0, .int .i64 14])) ∨
  ((∀ j, 4 ≤ j → j < r.length → r.getD j 0 = 0) ∧ okT (tokV (r.take 4) : Int) = false ∧ e = .returned (.tuple #[.int .i64 0, .int .i64 12])) ∨
  ((∀ j, 4 ≤ j → j < r.length → r.getD j 0 = 0) ∧ okT (tokV (r.take 4) : Int) = true ∧ e = .returned (.tuple #[.int .i64 (tokV (r.take 4) : Int), .int .i64 0]))
set_option maxRecDepth 100000 in
set_option maxHeartbeats 4000000 in
theorem tokenOf_any (r : List Nat) (m c : Nat) (a : Addr) (w : World) (F : Nat → Prop) (hB : Byts w F (.slice (some a) m c) r) (hm : 4 ≤ m) (hm2 : m ≤ 64) (hmc : m ≤ c) (hF : ∀ k, F k → k < w.heap.size) :
    Calls Try.prog 54 #[.slice (some a) m c] w fun e w' => TokR r e ∧ New w w' := by
  obtain ⟨hl, _, hsm⟩ := hB.len
  have HT : Hid (tokV (r.take 4) = numAt r 0 32) := (num_four (by omega) hsm).symm
  have HRt : Hid (∀ w, Calls Try.prog 37 #[.int .i64 (tokV (r.take 4) : Int)] w fun e w' => e = .returned (.bool (okT (tokV (r.take 4) : Int))) ∧ New w w') := fun w => by
    have := rightToken_any (tokV (r.take 4) : Int) w
    rw [okT_iff] at this
    exact this
  have HA1 : Hid ((∃ j, 4 ≤ j ∧ j < r.length ∧ r.getD j 0 ≠ 0) → TokR r (.returned (.tuple #[.int .i64 0, .int .i64 14]))) := fun h => Or.inl ⟨h, rfl⟩
  have HA2 : Hid ((∀ j, 4 ≤ j → j < r.length → r.getD j 0 = 0) → okT (tokV (r.take 4) : Int) = false → TokR r (.returned (.tuple #[.int .i64 0, .int .i64 12]))) := fun h h2 => Or.inr (Or.inl ⟨h, h2, rfl⟩)
  have HA3 : Hid ((∀ j, 4 ≤ j → j < r.length → r.getD j 0 = 0) → okT (tokV (r.take 4) : Int) = true → TokR r (.returned (.tuple #[.int .i64 (tokV (r.take 4) : Int), .int .i64 0]))) := fun h h2 => Or.inr (Or.inr ⟨h, h2, rfl⟩)
  obtain ⟨T, hTT⟩ : ∃ T, T = tokV (r.take 4) := ⟨_, rfl⟩
  rw [← hTT] at HT HRt HA2 HA3
  clear hTT
  obtain ⟨b, hb⟩ : ∃ b, b = okT (T : Int) := ⟨_, rfl⟩
  rw [← hb] at HRt HA2 HA3
  clear hb
  have HB := Lib.hid hB
  have HF := Lib.hid hF
  have Hsm := Lib.hid hsm
  have Hl := Lib.hid hl
  clear hB hF hsm hl
  obtain ⟨q, hq⟩ : ∃ q, m - 4 = q := ⟨_, rfl⟩
  have v1 : (4 : Int) ≤ (m : Int) := by omega
  obtain ⟨a4, ha4⟩ : ∃ a4, a4 = a.add 4 := ⟨_, rfl⟩
  have e4 : (⟨a.block, a.off + 4, none⟩ : Addr) = a4 := by rw [ha4]; unfold Addr.add; rw [if_neg (by omega)]
  have HB4 : Hid (Byts w F (.slice (some a4) q (c - 4)) ((r.drop 4).take q)) := by rw [ha4]; exact HB.out.cut 4 q (c - 4) (by omega)
  have He4 := Lib.hid e4
  clear ha4 e4
  by_cases hc4 : c = 4
  · obtain rfl : m = 4 := by omega
    obtain rfl : q = 0 := by omega
    subst hc4
    clear hq v1 hm hm2 hmc
    go_enter Try.func54, Try.ntmps54
    go_wp2_with fail
    go_loopg [10] 0 (fun gk s10 wr => ∃ i : Nat, i ≤ 0 ∧ gk = 0 - i ∧ s10 = .int .i64 i ∧ (∀ j, 4 ≤ j → j < 4 + i → r.getD j 0 = 0) ∧ wr = w)
    case atStart => exact ⟨0, by omega, by omega, rfl, fun j h1 h2 => by omega, rfl⟩
    case round =>
      obtain ⟨i, hi, rfl, rfl, hall, hw⟩ := hrel
      rw [hw]
      clear hw
      have Hall := Lib.hid hall
      clear hall
      by_cases hlt : i < 0
      · exact absurd hlt (Nat.not_lt_zero _)
      · obtain rfl : i = 0 := by omega
        have t1 : decide ((0 : Int) < (0 : Int)) = false := decide_eq_false (by omega)
        have Hall2 : Hid (∀ j, 4 ≤ j → j < r.length → r.getD j 0 = 0) := fun j h1 h2 => Hall.out j h1 (by rw [Hl.out] at h2; omega)
        have HRd : Hid (Calls Try.prog 83 #[.slice (some a) 4 4] w fun e w' => ∃ b, e = .returned (.pointer (some ⟨b, 0, none⟩)) ∧ Rd w' b r 0 0 ∧ New w w' ∧ w.heap.size ≤ b) := by
          obtain ⟨A', c', e', hA', _⟩ := HB.out
          simp only [Value.slice.injEq] at e'
          obtain ⟨rfl, e2, e3⟩ := e'
          clear e2 e3
          exact bRead_any (some a) 4 4 F r w (by have h := hA'; rw [Hl.out] at h; exact h) Hl.out (fun h => by cases h) (by omega)
        go_wp2_with fail
        with_reducible refine HRd.out.mono ?_
        rintro e w1 ⟨rb, rfl, hR, hN, hrb⟩
        have HTk := Lib.hid (take_ok rb r 0 (w1.alloc (.cells #[.int .i64 32] 3)) (hR.chg (S := fun _ => False) ((Chg.refl _ _).alloc _) (fun _ _ h => h)) (by rw [Hl.out]; omega) Hsm.out (some ⟨w1.heap.size, 0, none⟩) 1 1 (· = w1.heap.size) (fun _ => 32) (by omega) (fun j hj => ⟨⟨w1.heap.size, 0, none⟩, rfl, rfl, by obtain rfl : j = 0 := (by omega); exact (Has.new w1 3 #[.int .i64 32]).cell 0⟩) (fun k hk => by rw [hk]; exact ⟨by simp, fun h => by obtain ⟨_, _, h1, _⟩ := hR; have := h1.lt; omega⟩) (fun _ _ => by omega) (by rw [Hl.out]; simp only [sumN]; omega))
        have HN1 := Lib.hid hN
        have Hrb := Lib.hid hrb
        clear hR hN hrb HRd
        go_wp2_with fail
        with_reducible refine HTk.out.mono ?_
        rintro e w2 ⟨A2, c2, rfl, hO, _, hC⟩
        have HN2 : Hid (New w w2) := (HN1.out.alloc _).trans hC (fun i hi h => by have := Hrb.out; omega)
        obtain ⟨g2, hA2, hcell⟩ : ∃ g2, A2 = some ⟨g2, 0, none⟩ ∧ w2.cell? ⟨g2, 0, none⟩ = some (.int .i64 (T : Int)) := by
          obtain ⟨g2, h1, h2⟩ := own_some (i := 0) hO (by omega)
          refine ⟨g2, h1, ?_⟩
          rw [h2 0 (by omega), HT.out]
          rfl
        subst hA2
        clear hO hC HTk
        go_wp2_with fail
        with_reducible refine (HRt.out _).mono ?_
        rintro e w3 ⟨rfl, hN⟩
        have HN3 := Lib.hid (HN2.out.then_new hN)
        clear hN
        cases b with
        | false =>
          go_wp2_with fail
          go_ret2
          exact ⟨HA2.out Hall2.out (by trivial), HN3.out⟩
        | true =>
          go_wp2_with fail
          go_ret2
          exact ⟨HA3.out Hall2.out (by trivial), HN3.out⟩
  · go_enter Try.func54, Try.ntmps54
    go_wp2_with fail
    rw [He4.out]
    go_loopg [10] q (fun gk s10 wr => ∃ i : Nat, i ≤ q ∧ gk = q - i ∧ s10 = .int .i64 i ∧ (∀ j, 4 ≤ j → j < 4 + i → r.getD j 0 = 0) ∧ wr = w)
    case atStart => exact ⟨0, by omega, by omega, rfl, fun j h1 h2 => by omega, rfl⟩
    case round =>
      obtain ⟨i, hi, rfl, rfl, hall, hw⟩ := hrel
      rw [hw]
      clear hw
      have Hall := Lib.hid hall
      clear hall
      by_cases hlt : i < q
      · have t1 : decide ((i : Int) < (q : Int)) = true := decide_eq_true (by omega)
        have t1' : decide (i < q) = true := decide_eq_true hlt
        obtain ⟨x, hx⟩ : ∃ x, r.getD (4 + i) 0 = x := ⟨_, rfl⟩
        have hg : ((r.drop 4).take q)[i]? = some x := by
          rw [List.getElem?_take_of_lt hlt, List.getElem?_drop, ← hx, List.getD_eq_getElem?_getD, List.getElem?_eq_getElem (by rw [Hl.out]; omega)]; rfl
        obtain ⟨a', ha', _, hcell, hx256⟩ := HB4.out.at hg
        simp only [Option.some.injEq] at ha'
        subst ha'
        have Hx := Lib.hid hx
        clear hx hg
        by_cases hx0 : x = 0
        · have t2 : ((x : Int) == 0) = true := beq_iff_eq.2 (by omega)
          have t2' : ((x : Int) != 0) = false := by rw [bne, t2]; rfl
          have Hall2 : Hid (∀ j, 4 ≤ j → j < 4 + (i + 1) → r.getD j 0 = 0) := fun j h1 h2 => by
            rcases Nat.lt_or_ge j (4 + i) with h | h
            · exact Hall.out j h1 h
            · rw [show j = 4 + i by omega, Hx.out]; exact hx0
          subst hx0
          go_wp2_with fail
          go_roundg (q - (i + 1))
          case measure => omega
          case rel => exact ⟨i + 1, by omega, rfl, by go_num, Hall2.out, rfl⟩
        · have t2 : ((x : Int) == 0) = false := beq_eq_false_iff_ne.2 (by omega)
          have t2' : ((x : Int) != 0) = true := bne_iff_ne.2 (by omega)
          have Hbad : Hid (∃ j, 4 ≤ j ∧ j < r.length ∧ r.getD j 0 ≠ 0) := ⟨4 + i, by omega, by rw [Hl.out]; omega, by rw [Hx.out]; exact hx0⟩
          clear hx0
          go_wp2_with fail
          go_ret2
          exact ⟨HA1.out Hbad.out, Chg.refl _ _⟩
      · obtain rfl : i = q := by omega
        have t1 : decide ((i : Int) < (i : Int)) = false := decide_eq_false (by omega)
        have Hall2 : Hid (∀ j, 4 ≤ j → j < r.length → r.getD j 0 = 0) := fun j h1 h2 => Hall.out j h1 (by rw [Hl.out] at h2; omega)
        have HRd : Hid (Calls Try.prog 83 #[.slice (some a) m c] w fun e w' => ∃ b, e = .returned (.pointer (some ⟨b, 0, none⟩)) ∧ Rd w' b r 0 0 ∧ New w w' ∧ w.heap.size ≤ b) := by
          obtain ⟨A', c', e', hA', _⟩ := HB.out
          simp only [Value.slice.injEq] at e'
          obtain ⟨rfl, e2, rfl⟩ := e'
          clear e2
          exact bRead_any (some a) m c F r w (by have h := hA'; rw [Hl.out] at h; exact h) Hl.out (fun h => by cases h) (by omega)
        go_wp2_with fail
        with_reducible refine HRd.out.mono ?_
        rintro e w1 ⟨rb, rfl, hR, hN, hrb⟩
        have HTk := Lib.hid (take_ok rb r 0 (w1.alloc (.cells #[.int .i64 32] 3)) (hR.chg (S := fun _ => False) ((Chg.refl _ _).alloc _) (fun _ _ h => h)) (by rw [Hl.out]; omega) Hsm.out (some ⟨w1.heap.size, 0, none⟩) 1 1 (· = w1.heap.size) (fun _ => 32) (by omega) (fun j hj => ⟨⟨w1.heap.size, 0, none⟩, rfl, rfl, by obtain rfl : j = 0 := (by omega); exact (Has.new w1 3 #[.int .i64 32]).cell 0⟩) (fun k hk => by rw [hk]; exact ⟨by simp, fun h => by obtain ⟨_, _, h1, _⟩ := hR; have := h1.lt; omega⟩) (fun _ _ => by omega) (by rw [Hl.out]; simp only [sumN]; omega))
        have HN1 := Lib.hid hN
        have Hrb := Lib.hid hrb
        clear hR hN hrb HRd
        go_wp2_with fail
        with_reducible refine HTk.out.mono ?_
        rintro e w2 ⟨A2, c2, rfl, hO, _, hC⟩
        have HN2 : Hid (New w w2) := (HN1.out.alloc _).trans hC (fun i hi h => by have := Hrb.out; omega)
        obtain ⟨g2, hA2, hcell⟩ : ∃ g2, A2 = some ⟨g2, 0, none⟩ ∧ w2.cell? ⟨g2, 0, none⟩ = some (.int .i64 (T : Int)) := by
          obtain ⟨g2, h1, h2⟩ := own_some (i := 0) hO (by omega)
          refine ⟨g2, h1, ?_⟩
          rw [h2 0 (by omega), HT.out]
          rfl
        subst hA2
        clear hO hC HTk
        go_wp2_with fail
        with_reducible refine (HRt.out _).mono ?_
        rintro e w3 ⟨rfl, hN⟩
        have HN3 := Lib.hid (HN2.out.then_new hN)
        clear hN
        cases b with
        | false =>
          go_wp2_with fail
          go_ret2
          exact ⟨HA2.out Hall2.out (by trivial), HN3.out⟩
        | true =>
          go_wp2_with fail
          go_ret2
          exact ⟨HA3.out Hall2.out (by trivial), HN3.out⟩
end Go.Proofs.Ytkcokcanakljnaa
/-
  Package ipe's Right: of some products each is right.
-/
namespace Go.Proofs.Ytkcokcanakljnaa
open Go.RowKit
theorem addP_block (a : Addr) (i : Nat) : (a.add i).block = a.block := by unfold Addr.add; split <;> rfl
/-- the j-th of the products in a slice -/
def PdAt (w : World) (F : Nat → Prop) (A : Option Addr) (j : Nat) (p : Pd) : Prop := ∃ a, A = some a ∧ F a.block ∧ w.cell? (a.add (j * 14)) = some (.int .i64 p.x0) ∧ w.cell? (⟨(a.add (j * 14)).block, (a.add (j * 14)).off + 1, none⟩) = some (.int .i64 p.x1) ∧ w.cell? (⟨(a.add (j * 14)).block, (a.add (j * 14)).off + 2, none⟩) = some (.int .i64 p.x2) ∧ w.cell? (⟨(a.add (j * 14)).block, (a.add (j * 14)).off + 3, none⟩) = some (.int .i64 p.x3) ∧ w.cell? (⟨(a.add (j * 14)).block, (a.add (j * 14)).off + 4, none⟩) = some (.int .i64 p.x4) ∧ w.cell? (⟨(a.add (j * 14)).block, (a.add (j * 14)).off + 5, none⟩) = some (.int .i64 p.x5) ∧ w.cell? (⟨(a.add (j * 14)).block, (a.add (j * 14)).off + 6, none⟩) = some (.int .i64 p.x6) ∧ w.cell? (⟨(a.add (j * 14)).block, (a.add (j * 14)).off + 7, none⟩) = some (.int .i64 p.x7) ∧ w.cell? (⟨(a.add (j * 14)).block, (a.add (j * 14)).off + 8, none⟩) = some (.bool p.x8) ∧ w.cell? (⟨(a.add (j * 14)).block, (a.add (j * 14)).off + 9, none⟩) = some (.int .i64 p.x9) ∧ w.cell? (⟨(a.add (j * 14)).block, (a.add (j * 14)).off + 10, none⟩) = some (.int .i64 p.x10) ∧ w.cell? (⟨(a.add (j * 14)).block, (a.add (j * 14)).off + 11, none⟩) = some (.int .i64 p.x11) ∧ w.cell? (⟨(a.add (j * 14)).block, (a.add (j * 14)).off + 12, none⟩) = some (.int .i64 p.x12) ∧ w.cell? (⟨(a.add (j * 14)).block, (a.add (j * 14)).off + 13, none⟩) = some (.bool p.x13)
def Pds (w : World) (F : Nat → Prop) (A : Option Addr) (n : Nat) (f : Nat → Pd) : Prop := ∀ j, j < n → PdAt w F A j (f j)
theorem PdAt.chg {w w' : World} {F S : Nat → Prop} {A : Option Addr} {j : Nat} {p : Pd} (h : PdAt w F A j p) (c : Chg S w w') (hF : ∀ k, F k → k < w.heap.size ∧ ¬ S k) : PdAt w' F A j p := by
  obtain ⟨a, rfl, hb, h0, h1, h2, h3, h4, h5, h6, h7, h8, h9, h10, h11, h12, h13⟩ := h
  have hb1 : (a.add (j * 14)).block < w.heap.size := by rw [addP_block]; exact (hF _ hb).1
  have hb2 : ¬ S (a.add (j * 14)).block := by rw [addP_block]; exact (hF _ hb).2
  exact ⟨a, rfl, hb, (c.cell hb1 hb2).trans h0, (c.cell (p := ⟨(a.add (j * 14)).block, _, none⟩) hb1 hb2).trans h1, (c.cell (p := ⟨(a.add (j * 14)).block, _, none⟩) hb1 hb2).trans h2, (c.cell (p := ⟨(a.add (j * 14)).block, _, none⟩) hb1 hb2).trans h3, (c.cell (p := ⟨(a.add (j * 14)).block, _, none⟩) hb1 hb2).trans h4, (c.cell (p := ⟨(a.add (j * 14)).block, _, none⟩) hb1 hb2).trans h5, (c.cell (p := ⟨(a.add (j * 14)).block, _, none⟩) hb1 hb2).trans h6, (c.cell (p := ⟨(a.add (j * 14)).block, _, none⟩) hb1 hb2).trans h7, (c.cell (p := ⟨(a.add (j * 14)).block, _, none⟩) hb1 hb2).trans h8, (c.cell (p := ⟨(a.add (j * 14)).block, _, none⟩) hb1 hb2).trans h9, (c.cell (p := ⟨(a.add (j * 14)).block, _, none⟩) hb1 hb2).trans h10, (c.cell (p := ⟨(a.add (j * 14)).block, _, none⟩) hb1 hb2).trans h11, (c.cell (p := ⟨(a.add (j * 14)).block, _, none⟩) hb1 hb2).trans h12, (c.cell (p := ⟨(a.add (j * 14)).block, _, none⟩) hb1 hb2).trans h13⟩
theorem Pds.new {w w' : World} {F : Nat → Prop} {A : Option Addr} {n : Nat} {f : Nat → Pd} (h : Pds w F A n f) (c : New w w') (hF : ∀ k, F k → k < w.heap.size) : Pds w' F A n f := fun j hj => (h j hj).chg c fun k hk => ⟨hF k hk, fun f => f⟩
theorem Pds.nil (w : World) (f : Nat → Pd) : Pds w (fun _ => False) none 0 f := fun j hj => by omega
theorem Pds.one {w : World} {g : Nat} {t : TypeId} {p : Pd} (h : Has w g t #[.int .i64 p.x0, .int .i64 p.x1, .int .i64 p.x2, .int .i64 p.x3, .int .i64 p.x4, .int .i64 p.x5, .int .i64 p.x6, .int .i64 p.x7, .bool p.x8, .int .i64 p.x9, .int .i64 p.x10, .int .i64 p.x11, .int .i64 p.x12, .bool p.x13]) : Pds w (· = g) (some ⟨g, 0, none⟩) 1 (fun _ => p) := fun j hj => by
  obtain rfl : j = 0 := by omega
  exact ⟨_, rfl, rfl, (h.cell 0).trans rfl, (h.cell 1).trans rfl, (h.cell 2).trans rfl, (h.cell 3).trans rfl, (h.cell 4).trans rfl, (h.cell 5).trans rfl, (h.cell 6).trans rfl, (h.cell 7).trans rfl, (h.cell 8).trans rfl, (h.cell 9).trans rfl, (h.cell 10).trans rfl, (h.cell 11).trans rfl, (h.cell 12).trans rfl, (h.cell 13).trans rfl⟩
theorem Pds.two {w : World} {g : Nat} {t : TypeId} {p q : Pd} (h : Has w g t #[.int .i64 p.x0, .int .i64 p.x1, .int .i64 p.x2, .int .i64 p.x3, .int .i64 p.x4, .int .i64 p.x5, .int .i64 p.x6, .int .i64 p.x7, .bool p.x8, .int .i64 p.x9, .int .i64 p.x10, .int .i64 p.x11, .int .i64 p.x12, .bool p.x13, .int .i64 q.x0, .int .i64 q.x1, .int .i64 q.x2, .int .i64 q.x3, .int .i64 q.x4, .int .i64 q.x5, .int .i64 q.x6, .int .i64 q.x7, .bool q.x8, .int .i64 q.x9, .int .i64 q.x10, .int .i64 q.x11, .int .i64 q.x12, .bool q.x13]) : Pds w (· = g) (some ⟨g, 0, none⟩) 2 (fun i => if i = 0 then p else q) := fun j hj => by
  rcases (show j = 0 ∨ j = 1 by omega) with rfl | rfl
  · exact ⟨_, rfl, rfl, (h.cell 0).trans rfl, (h.cell 1).trans rfl, (h.cell 2).trans rfl, (h.cell 3).trans rfl, (h.cell 4).trans rfl, (h.cell 5).trans rfl, (h.cell 6).trans rfl, (h.cell 7).trans rfl, (h.cell 8).trans rfl, (h.cell 9).trans rfl, (h.cell 10).trans rfl, (h.cell 11).trans rfl, (h.cell 12).trans rfl, (h.cell 13).trans rfl⟩
  · exact ⟨_, rfl, rfl, (h.cell 14).trans rfl, (h.cell 15).trans rfl, (h.cell 16).trans rfl, (h.cell 17).trans rfl, (h.cell 18).trans rfl, (h.cell 19).trans rfl, (h.cell 20).trans rfl, (h.cell 21).trans rfl, (h.cell 22).trans rfl, (h.cell 23).trans rfl, (h.cell 24).trans rfl, (h.cell 25).trans rfl, (h.cell 26).trans rfl, (h.cell 27).trans rfl⟩
noncomputable def allR (n : Nat) (f : Nat → Pd) : Bool := @decide (∀ i, i < n → rightN (f i).ns = true) (Classical.propDecidable _)
theorem allR_yes {n : Nat} {f : Nat → Pd} (h : ∀ i, i < n → rightN (f i).ns = true) : allR n f = true := @decide_eq_true _ (Classical.propDecidable _) h
theorem allR_no {n i : Nat} {f : Nat → Pd} (hi : i < n) (h : rightN (f i).ns = false) : allR n f = false := @decide_eq_false _ (Classical.propDecidable _) fun hh => by rw [hh i hi] at h; cases h
theorem allR_zero (f : Nat → Pd) : allR 0 f = true := allR_yes fun i hi => by omega
theorem allR_one (f : Nat → Pd) : allR 1 f = rightN (f 0).ns := by
  cases h : rightN (f 0).ns with
  | true => exact allR_yes fun i hi => by rw [show i = 0 by omega]; exact h
  | false => exact allR_no (i := 0) (by omega) h
theorem allR_two (f : Nat → Pd) (h0 : rightN (f 0).ns = true) : allR 2 f = rightN (f 1).ns := by
  cases h : rightN (f 1).ns with
  | true => exact allR_yes fun i hi => (show i = 0 ∨ i = 1 by omega).elim (fun e => by rw [e]; exact h0) (fun e => by rw [e]; exact h)
  | false => exact allR_no (i := 1) (by omega) h
set_option maxRecDepth 100000 in
theorem right1_any (p : Pd) (w : World) : Calls Try.prog 42 #[p.V] w fun e w' => e = .returned (.bool (!rightN p.ns)) ∧ New w w' := by
  have HR := Lib.hid (fun w => iright_any p w)
  obtain ⟨b, hb⟩ : ∃ b, rightN p.ns = b := ⟨_, rfl⟩
  rw [hb] at HR ⊢
  clear hb
  obtain ⟨x0, x1, x2, x3, x4, x5, x6, x7, x8, x9, x10, x11, x12, x13⟩ := p
  have HR : Hid (∀ w, Calls Try.prog 33 #[.agg #[.int .i64 x0, .int .i64 x1, .int .i64 x2, .int .i64 x3, .int .i64 x4, .int .i64 x5, .int .i64 x6, .int .i64 x7, .bool x8, .int .i64 x9, .int .i64 x10, .int .i64 x11, .int .i64 x12, .bool x13]] w fun e w' => e = .returned (.bool b) ∧ New w w') := HR.out
  go_enter Try.func42, Try.ntmps42
  go_wp2_with fail
  with_reducible refine (HR.out _).mono ?_
  rintro e w1 ⟨rfl, hN⟩
  have HN := Lib.hid hN; clear hN
  go_wp2_with fail
  go_ret
  exact ⟨rfl, Chg.then_new ((Chg.refl _ _).alloc _) HN.out⟩
set_option maxRecDepth 100000 in
set_option maxHeartbeats 4000000 in
theorem indexP_any (A : Option Addr) (n c : Nat) (f : Nat → Pd) (F : Nat → Prop) (w : World) (hA : Pds w F A n f) (hF : ∀ k, F k → k < w.heap.size) (hn : n ≤ 1000000000000000000) :
    Calls Try.prog 78 #[.slice A n c, .func (.func 42) #[] #[]] w fun e w' => ∃ z : Int, e = .returned (.int .i64 z) ∧ decide (0 ≤ z) = (!allR n f) ∧ New w w' := by
  have HA := Lib.hid hA; clear hA
  have HF := Lib.hid hF; clear hF
  obtain ⟨B, hB⟩ : ∃ B, B = allR n f := ⟨_, rfl⟩
  rw [← hB]
  have HB := Lib.hid hB; clear hB
  go_enter Try.func78, Try.ntmps78
  go_wp2_with fail
  go_loopg [8] n (fun gk i wr => ∃ k : Nat, k ≤ n ∧ gk = n - k ∧ i = .int .i64 k ∧ (∀ j, j < k → rightN (f j).ns = true) ∧ New w wr)
  case atStart => exact ⟨0, by omega, by omega, rfl, fun j hj => by omega, Chg.refl _ _⟩
  case round =>
    obtain ⟨k, hk, rfl, rfl, hR, hN⟩ := hrel
    have HR := Lib.hid hR; clear hR
    have HN := Lib.hid hN; clear hN
    by_cases hlt : k < n
    · obtain ⟨a, ha, hab, a0, a1, a2, a3, a4, a5, a6, a7, a8, a9, a10, a11, a12, a13⟩ := (HA.out.new HN.out HF.out) k hlt
      subst ha
      have t1 : decide ((k : Int) < (n : Int)) = true := decide_eq_true (by omega)
      have t1' : decide (k < n) = true := decide_eq_true hlt
      have HC := Lib.hid (right1_any (f k))
      obtain ⟨b, hb⟩ : ∃ b, rightN (f k).ns = b := ⟨_, rfl⟩
      rw [hb] at HC
      have Hb := Lib.hid hb; clear hb
      obtain ⟨q, hq⟩ : ∃ q, q = f k := ⟨_, rfl⟩
      rw [← hq] at HC a0 a1 a2 a3 a4 a5 a6 a7 a8 a9 a10 a11 a12 a13
      clear hq
      obtain ⟨x0, x1, x2, x3, x4, x5, x6, x7, x8, x9, x10, x11, x12, x13⟩ := q
      have HC : Hid (∀ w, Calls Try.prog 42 #[.agg #[.int .i64 x0, .int .i64 x1, .int .i64 x2, .int .i64 x3, .int .i64 x4, .int .i64 x5, .int .i64 x6, .int .i64 x7, .bool x8, .int .i64 x9, .int .i64 x10, .int .i64 x11, .int .i64 x12, .bool x13]] w fun e w' => e = .returned (.bool (!b)) ∧ New w w') := HC.out
      simp only at a0 a1 a2 a3 a4 a5 a6 a7 a8 a9 a10 a11 a12 a13
      go_wp2_with fail
      with_reducible refine (HC.out _).mono ?_
      rintro e w2 ⟨rfl, hN2⟩
      have HN2 := Lib.hid (HN.out.then_new hN2); clear hN2
      cases b with
      | false =>
        have hBf : B = false := by rw [HB.out]; exact allR_no hlt Hb.out
        go_wp2_with fail
        go_ret
        exact ⟨_, rfl, by rw [hBf]; simp, HN2.out⟩
      | true =>
        go_wp2_with fail
        go_roundg (n - (k + 1))
        case measure => omega
        case rel => exact ⟨k + 1, by omega, rfl, by go_num, fun j hj => by
          rcases Nat.lt_or_ge j k with h | h
          · exact HR.out j h
          · rw [show j = k by omega]; exact Hb.out, HN2.out⟩
    · obtain rfl : k = n := by omega
      have hBt : B = true := by rw [HB.out]; exact allR_yes HR.out
      have t1 : decide ((k : Int) < (k : Int)) = false := decide_eq_false (by omega)
      go_wp2_with fail
      go_ret
      exact ⟨_, rfl, by rw [hBt]; simp, HN.out⟩
set_option maxRecDepth 100000 in
theorem Right10_any (A : Option Addr) (n c : Nat) (f : Nat → Pd) (F : Nat → Prop) (w : World) (hA : Pds w F A n f) (hF : ∀ k, F k → k < w.heap.size) (hn : n ≤ 1000000000000000000) :
    Calls Try.prog 12 #[.slice A n c] w fun e w' => e = .returned (.bool (allR n f)) ∧ New w w' := by
  have HC : Hid (Calls Try.prog 41 #[.slice A n c, .func (.func 42) #[] #[]] w fun e w' => e = .returned (.bool (!allR n f)) ∧ New w w') := by
    have HI := Lib.hid (indexP_any A n c f F w hA hF hn)
    clear hA hF
    obtain ⟨b, hb⟩ : ∃ b, b = allR n f := ⟨_, rfl⟩
    rw [← hb] at HI ⊢
    clear hb
    show Calls _ _ _ _ _
    go_enter Try.func41, Try.ntmps41
    go_wp2_with fail
    with_reducible refine HI.out.mono ?_
    rintro e w1 ⟨z, rfl, hz, hN⟩
    have HN := Lib.hid hN; clear hN
    go_wp2_with fail
    go_ret
    exact ⟨by rw [← hz]; rfl, HN.out⟩
  clear hA hF
  obtain ⟨b, hb⟩ : ∃ b, b = allR n f := ⟨_, rfl⟩
  rw [← hb] at HC ⊢
  clear hb
  go_enter Try.func12, Try.ntmps12
  go_wp2_with fail
  with_reducible refine HC.out.mono ?_
  rintro e w1 ⟨rfl, hN⟩
  have HN := Lib.hid hN; clear hN
  go_wp2_with fail
  go_ret
  exact ⟨by simp, HN.out⟩
end Go.Proofs.Ytkcokcanakljnaa
/-
  A product, and what is to be done with it, that came in.
-/
namespace Go.Proofs.Ytkcokcanakljnaa
open Go.ChangeShapes Go.WideShapes Go.ChangeAt Go.RowKit Go.Joins
structure Dd where
  k : Int
  a : Int
  b : Int
def dz : Dd := ⟨0, 0, 0⟩
/-- the j-th of what is to be done -/
def DdAt (w : World) (F : Nat → Prop) (A : Option Addr) (j : Nat) (e : Dd) : Prop := ∃ a, A = some a ∧ F a.block ∧ w.cell? (a.add (j * 3)) = some (.int .i64 e.k) ∧ w.cell? ⟨(a.add (j * 3)).block, (a.add (j * 3)).off + 1, none⟩ = some (.int .i64 e.a) ∧ w.cell? ⟨(a.add (j * 3)).block, (a.add (j * 3)).off + 2, none⟩ = some (.int .i64 e.b)
def Dds (w : World) (F : Nat → Prop) (A : Option Addr) (n : Nat) (f : Nat → Dd) : Prop := ∀ j, j < n → DdAt w F A j (f j)
theorem Dds.new {w w' : World} {F : Nat → Prop} {A : Option Addr} {n : Nat} {f : Nat → Dd} (h : Dds w F A n f) (c : New w w') (hF : ∀ k, F k → k < w.heap.size) : Dds w' F A n f := fun j hj => by
  obtain ⟨a, rfl, hb, h0, h1, h2⟩ := h j hj
  have hb1 : (a.add (j * 3)).block < w.heap.size := by rw [add_block]; exact hF _ hb
  exact ⟨a, rfl, hb, (c.cell hb1 (fun f => f)).trans h0, (c.cell (p := ⟨(a.add (j * 3)).block, _, none⟩) hb1 (fun f => f)).trans h1, (c.cell (p := ⟨(a.add (j * 3)).block, _, none⟩) hb1 (fun f => f)).trans h2⟩
theorem Try.cells4 : Try.prog.cellsOf 4 = 1 := by kernel_rfl
theorem Try.cellsK : Try.prog.cellsOf 22 = 1 := by kernel_rfl
theorem Try.cellsP : Try.prog.cellsOf 24 = 14 := by kernel_rfl
theorem Try.fieldsP : (Try.prog.underlying 24).map (fun u => match u with | .struct fs => fs.toList.map (fun f => (f.type, f.offset)) | _ => []) = some [(22, 0), (3, 1), (3, 2), (3, 3), (3, 4), (3, 5), (3, 6), (3, 7), (4, 8), (3, 9), (3, 10), (3, 11), (3, 12), (4, 13)] := by kernel_rfl
set_option maxRecDepth 100000 in
set_option maxHeartbeats 4000000 in
theorem open_product {H : Type} {enc : TypeId × Value → H} {W : World} {sp : Nat → Bool} {held : Bool} {r : Reach} {b0 : Nat} {v : Value} {d : DataW H} {p : List MemPlace}
    (hv : Value.okWide Try.prog W r b0 24 v) (h : DataW.Trod enc Try.prog W 0 sp held 24 v d p) : ∃ p : Pd, v = p.V := by
  obtain ⟨u, hu, hfs⟩ := Option.map_eq_some_iff.1 Try.fieldsP
  cases u with
  | struct fs =>
    obtain ⟨cs, rfl, hsz⟩ := okWide_struct hu hv
    obtain ⟨fuel, hf0⟩ := h
    obtain ⟨xs, k, hk, hxy, _, hxl, hf⟩ := DataW.trod_struct hu hf0
    obtain ⟨fs⟩ := fs
    obtain ⟨cs⟩ := cs
    have hcl : cs.length = 14 := by have := hsz.trans Try.cellsP; simpa using this
    match fs, hfs with
    | [f0, f1, f2, f3, f4, f5, f6, f7, f8, f9, f10, f11, f12, f13], hfs =>
      simp only [List.map_cons, List.map_nil, List.cons.injEq, Prod.mk.injEq, and_true] at hfs
      obtain ⟨⟨t0, o0⟩, ⟨t1, o1⟩, ⟨t2, o2⟩, ⟨t3, o3⟩, ⟨t4, o4⟩, ⟨t5, o5⟩, ⟨t6, o6⟩, ⟨t7, o7⟩, ⟨t8, o8⟩, ⟨t9, o9⟩, ⟨t10, o10⟩, ⟨t11, o11⟩, ⟨t12, o12⟩, t13, o13⟩ := hfs
      match xs, hxl, cs, hcl with
      | [y0, y1, y2, y3, y4, y5, y6, y7, y8, y9, y10, y11, y12, y13], _, [v0, v1, v2, v3, v4, v5, v6, v7, v8, v9, v10, v11, v12, v13], _ =>
        have g0 := hf 0 f0 rfl
        simp [Value.cells, o0, t0, Try.cellsK] at g0
        obtain ⟨x0, e0, _, _⟩ := DataW.trod_int Try.underlying22 g0
        simp only [List.cons.injEq, and_true] at e0
        subst e0
        have g1 := hf 1 f1 rfl
        simp [Value.cells, o1, t1, Try.cells3] at g1
        obtain ⟨x1, e1, _, _⟩ := DataW.trod_int Try.underlying3 g1
        simp only [List.cons.injEq, and_true] at e1
        subst e1
        have g2 := hf 2 f2 rfl
        simp [Value.cells, o2, t2, Try.cells3] at g2
        obtain ⟨x2, e2, _, _⟩ := DataW.trod_int Try.underlying3 g2
        simp only [List.cons.injEq, and_true] at e2
        subst e2
        have g3 := hf 3 f3 rfl
        simp [Value.cells, o3, t3, Try.cells3] at g3
        obtain ⟨x3, e3, _, _⟩ := DataW.trod_int Try.underlying3 g3
        simp only [List.cons.injEq, and_true] at e3
        subst e3
        have g4 := hf 4 f4 rfl
        simp [Value.cells, o4, t4, Try.cells3] at g4
        obtain ⟨x4, e4, _, _⟩ := DataW.trod_int Try.underlying3 g4
        simp only [List.cons.injEq, and_true] at e4
        subst e4
        have g5 := hf 5 f5 rfl
        simp [Value.cells, o5, t5, Try.cells3] at g5
        obtain ⟨x5, e5, _, _⟩ := DataW.trod_int Try.underlying3 g5
        simp only [List.cons.injEq, and_true] at e5
        subst e5
        have g6 := hf 6 f6 rfl
        simp [Value.cells, o6, t6, Try.cells3] at g6
        obtain ⟨x6, e6, _, _⟩ := DataW.trod_int Try.underlying3 g6
        simp only [List.cons.injEq, and_true] at e6
        subst e6
        have g7 := hf 7 f7 rfl
        simp [Value.cells, o7, t7, Try.cells3] at g7
        obtain ⟨x7, e7, _, _⟩ := DataW.trod_int Try.underlying3 g7
        simp only [List.cons.injEq, and_true] at e7
        subst e7
        have g8 := hf 8 f8 rfl
        simp [Value.cells, o8, t8, Try.cells4] at g8
        obtain ⟨x8, e8, _⟩ := DataW.trod_bool Try.underlying4 g8
        simp only [List.cons.injEq, and_true] at e8
        subst e8
        have g9 := hf 9 f9 rfl
        simp [Value.cells, o9, t9, Try.cells3] at g9
        obtain ⟨x9, e9, _, _⟩ := DataW.trod_int Try.underlying3 g9
        simp only [List.cons.injEq, and_true] at e9
        subst e9
        have g10 := hf 10 f10 rfl
        simp [Value.cells, o10, t10, Try.cells3] at g10
        obtain ⟨x10, e10, _, _⟩ := DataW.trod_int Try.underlying3 g10
        simp only [List.cons.injEq, and_true] at e10
        subst e10
        have g11 := hf 11 f11 rfl
        simp [Value.cells, o11, t11, Try.cells3] at g11
        obtain ⟨x11, e11, _, _⟩ := DataW.trod_int Try.underlying3 g11
        simp only [List.cons.injEq, and_true] at e11
        subst e11
        have g12 := hf 12 f12 rfl
        simp [Value.cells, o12, t12, Try.cells3] at g12
        obtain ⟨x12, e12, _, _⟩ := DataW.trod_int Try.underlying3 g12
        simp only [List.cons.injEq, and_true] at e12
        subst e12
        have g13 := hf 13 f13 rfl
        simp [Value.cells, o13, t13, Try.cells4] at g13
        obtain ⟨x13, e13, _⟩ := DataW.trod_bool Try.underlying4 g13
        simp only [List.cons.injEq, and_true] at e13
        subst e13
        exact ⟨⟨x0, x1, x2, x3, x4, x5, x6, x7, x8, x9, x10, x11, x12, x13⟩, rfl⟩
  | _ => simp at hfs
end Go.Proofs.Ytkcokcanakljnaa
