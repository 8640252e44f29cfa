/-
  Rows of bytes that are known whole: made, laid over by copy, written byte by byte, read as a string.
-/
import Derived.Test.YtficopkjpdfilaaSeqC
import Derived.Laws.CopyOwn
namespace Go.Proofs.Ytficopkjpdfilaa
open Go.ChangeShapes Go.WideShapes Go.ChangeAt Go.RowKit
theorem Try.size5 (w : World) : (sizeOf 5).run Try.prog w = .ok 1 w := by
  obtain ⟨i0, hi, hz0, hz1, hz2⟩ := info_parts Try.info5
  simp [sizeOf, typeInfo, hi, hz1]
theorem Try.sizes5 : (Try.prog.info? 5).map (·.size) = some 1 := by kernel_rfl
/-- copy into a block that is known whole -/
theorem wpList_copy_has {w : World} {ops : Array Oper} {rest : List Oper} {o : Oper} {a : Act} {Q : Exit → Act → World → Prop} (hgd : o.guard = none) (d s : Operand)
    (ho : o.op = .call { callee := .builtin .copy, args := #[d, s], argTypes := #[56, 56] }) (g off m c : Nat) (hd : a.eval d = .slice (some ⟨g, off, none⟩) m c)
    (A : Option Addr) (n cs : Nat) (hs : a.eval s = .slice A n cs) (t : TypeId) (cur : List Value) (hg : Has w g t cur.toArray)
    (F : Nat → Prop) (f : Nat → Value) (hA : Arr w F A n f) (h1 : ∀ i, i < n → (f i).oneCell' = true) (hfit : off + m ≤ cur.length)
    (h : ∀ w', Has w' g t (splice cur off ((List.range (Nat.min n m)).map f)).toArray → Chg (· = g) w w' → wpList Try.prog ops Q rest (a.put o.dst (goInt (Nat.min n m))) w') :
    wpList Try.prog ops Q (o :: rest) a w := by
  have hle : Nat.min n m ≤ n := Nat.min_le_left n m
  have hle2 : Nat.min n m ≤ m := Nat.min_le_right n m
  by_cases h0 : Nat.min n m = 0
  · refine wpList_copy_nothing hgd d s 56 56 ho 5 Try.underlying56 Try.sizes5 _ _ _ _ _ _ hd hs h0 ?_
    rw [h0] at h
    exact h w (by simpa [splice] using hg) (Chg.refl _ _)
  · obtain ⟨ad, rfl, _, _⟩ := hA 0 (by omega)
    have hl : ((List.range (Nat.min n m)).map f).length = Nat.min n m := by simp
    refine wpList_copy_own hgd d s 56 56 ho 5 Try.underlying56 Try.sizes5 g off m c ad n cs hd hs cur.toArray t hg ((List.range (Nat.min n m)).map f) hl ?_ (by rw [hl, List.size_toArray]; omega) ?_ ?_
    · intro j v hv
      obtain ⟨hj, rfl⟩ := map_range_get hv
      obtain ⟨ad', ha, _, hc⟩ := hA j (by omega)
      cases ha
      exact hc
    · intro v hv
      simp only [List.mem_map, List.mem_range] at hv
      obtain ⟨j, hj, rfl⟩ := hv
      exact h1 j (by omega)
    · rw [hl]
      refine h _ (by have := setRow_heap w g cur.toArray (splice cur off ((List.range (Nat.min n m)).map f)).toArray t (0, 0) hg; simpa [Has, splice] using this) ⟨rfl, rfl, rfl, by simp [World.setRow], fun k _ hk => setRow_other w g k _ hk⟩
theorem splice_small {B bs : List Nat} {off : Nat} (hB : ∀ x ∈ B, x < 256) (hb : ∀ x ∈ bs, x < 256) : ∀ x ∈ splice B off bs, x < 256 := by
  intro x hx
  unfold splice at hx
  simp only [List.mem_append] at hx
  rcases hx with hx | hx | hx
  · exact hB x (List.mem_of_mem_take hx)
  · exact hb x hx
  · exact hB x (List.mem_of_mem_drop hx)
theorem bs_range (bs : List Nat) (n : Nat) (h : bs.length = n) : (List.range n).map (fun i => bV (bs.getD i 0)) = bs.map bV := by subst h; exact map_getD_bV bs
/-- block g holds just the bytes bs -/
def Row (w : World) (g : Nat) (bs : List Nat) : Prop := Has w g 5 (bs.map bV).toArray
theorem Row.chg {w w' : World} {S : Nat → Prop} {g : Nat} {bs : List Nat} (h : Row w g bs) (c : Chg S w w') (hS : ¬ S g) : Row w' g bs := Has.chg h c hS
theorem Row.new {w w' : World} {g : Nat} {bs : List Nat} (h : Row w g bs) (c : New w w') : Row w' g bs := Has.chg h c fun f => f
theorem Row.lt {w : World} {g : Nat} {bs : List Nat} (h : Row w g bs) : g < w.heap.size := Has.lt h
theorem Row.arr {w : World} {g n : Nat} {bs : List Nat} (h : Row w g bs) (hn : bs.length = n) : Arr w (· = g) (some ⟨g, 0, none⟩) n (fun i => bV (bs.getD i 0)) := by
  subst hn
  intro i hi
  refine ⟨_, rfl, rfl, ?_⟩
  have hadd : (⟨g, 0, none⟩ : Addr).add i = ⟨g, i, none⟩ := by unfold Addr.add; split <;> simp_all
  rw [hadd, Has.cell h]
  simp [hi]
theorem Row.string {w : World} {g n c : Nat} {bs : List Nat} (h : Row w g bs) (hn : bs.length = n) (hb : ∀ x ∈ bs, x < 256) : (convert 56 9 (.slice (some ⟨g, 0, none⟩) n c)).run Try.prog w = .ok (.string (bstr bs)) w :=
  arr_string Try.underlying56 Try.underlying5 Try.underlying9 (h.arr hn) hn hb (fun h => by cases h)
theorem own_str {w : World} {base n c : Nat} {A : Option Addr} {bs : List Nat} (h : w.ownsRow base 5 1 (.slice A n c) n (bs.map bV)) : (convert 56 9 (.slice A n c)).run Try.prog w = .ok (.string (bstr bs)) w :=
  own_string Try.underlying56 Try.underlying5 Try.underlying9 h
/-- noughts by their number -/
def zs (n : Nat) : List Nat := List.replicate n 0
theorem zs_len (n : Nat) : (zs n).length = n := List.length_replicate
theorem zs_small (n : Nat) : ∀ x ∈ zs n, x < 256 := fun x hx => by rw [(List.mem_replicate.1 hx).2]; decide
/-- the first n bytes, filled up by noughts -/
def pad (n : Nat) (xs : List Nat) : List Nat := splice (zs n) 0 (xs.take n)
theorem pad_len (n : Nat) (xs : List Nat) : (pad n xs).length = n := by
  unfold pad
  rw [length_splice _ _ _ (by simp [zs]; omega), zs_len]
theorem pad_small (n : Nat) (xs : List Nat) (h : ∀ x ∈ xs, x < 256) : ∀ x ∈ pad n xs, x < 256 := splice_small (zs_small n) fun x hx => h x (List.mem_of_mem_take hx)
/-- 'make([]byte, n)' -/
theorem wpList_make_row {w : World} {ops : Array Oper} {rest : List Oper} {o : Oper} {a : Act} {Q : Exit → Act → World → Prop} (hgd : o.guard = none) (l c : Operand) (hop : o.op = Op.makeSlice 56 l c)
    (L : Int) (n : Nat) (hl : a.eval l = .int .i64 L) (hc : a.eval c = .int .i64 L) (hL : L = (n : Int)) (hn : n ≤ 1000)
    (hK : ∀ g w', Hid (w.heap.size = g) → Row w' g (zs n) → New w w' → wpList Try.prog ops Q rest (a.put o.dst (.slice (some ⟨g, 0, none⟩) n n)) w') :
    wpList Try.prog ops Q (o :: rest) a w := by
  obtain ⟨i0, hi, hz0, hz1, hz2⟩ := info_parts Try.info5
  refine wpList_make_full w hgd l c 56 hop w.heap.size 5 i0 (.int .u8 0) 1 Try.underlying56 hi hz0 hz1 .i64 .i64 L L n hl hc hL hL (by rw [hz2]; omega) (by simp only [maxLen]; omega) (Nat.le_refl _) ?_
  intro w' ho hg
  refine hK _ w' rfl ?_ (Chg.grown (Chg.refl _ _) hg (by intro k hk; cases hk))
  rcases ho.2 with ⟨hv, _⟩ | ⟨g', cap, cur, hv, _, hh, _, _, hs, ht⟩
  · cases hv
  · simp only [Value.slice.injEq, Option.some.injEq, Addr.mk.injEq, and_true, true_and] at hv
    obtain ⟨rfl, rfl⟩ := hv
    rw [List.take_of_length_le (by rw [Array.length_toList, hs]; omega)] at ht
    have h1 : (Value.int IntKind.u8 0).cells = #[.int .u8 0] := rfl
    rw [h1, Nat.mul_one, toList_madeCells_one] at ht
    have : cur = ((zs n).map bV).toArray := by
      apply Array.toList_inj.1
      rw [ht]
      simp [zs, bV]
    unfold Row Has
    rw [hh, this]
theorem take_range {xs : List Nat} {n m : Nat} (hl : xs.length = n) : (List.range (Nat.min n m)).map (fun i => bV (xs.getD i 0)) = (xs.take m).map bV := by
  subst hl
  apply List.ext_getElem?
  intro i
  rw [List.getElem?_map, List.getElem?_map, List.getElem?_take]
  by_cases hi : i < Nat.min xs.length m
  · rw [List.getElem?_range hi]
    have h1 : i < xs.length := Nat.lt_of_lt_of_le hi (Nat.min_le_left _ _)
    have h2 : i < m := Nat.lt_of_lt_of_le hi (Nat.min_le_right _ _)
    simp [h1, h2]
  · rw [List.getElem?_eq_none (by simpa using hi)]
    by_cases h2 : i < m
    · have h1 : ¬ i < xs.length := fun h => hi (Nat.lt_min.2 ⟨h, h2⟩)
      simp [h2, h1]
    · simp [h2]
theorem splice_map (B bs : List Nat) (off : Nat) : splice (B.map bV) off (bs.map bV) = (splice B off bs).map bV := by
  simp [splice]
/-- 'copy(b, xs)' onto noughts -/
theorem wpList_copy_pad {w : World} {ops : Array Oper} {rest : List Oper} {o : Oper} {a : Act} {Q : Exit → Act → World → Prop} (hgd : o.guard = none) (d s : Operand)
    (ho : o.op = .call { callee := .builtin .copy, args := #[d, s], argTypes := #[56, 56] }) (g m : Nat) (hd : a.eval d = .slice (some ⟨g, 0, none⟩) m m)
    (A : Option Addr) (n c : Nat) (hs : a.eval s = .slice A n c) (hg : Row w g (zs m))
    (F : Nat → Prop) (xs : List Nat) (hA : Arr w F A n (fun i => bV (xs.getD i 0))) (hl : xs.length = n)
    (h : ∀ w', Row w' g (pad m xs) → Chg (· = g) w w' → wpList Try.prog ops Q rest (a.put o.dst (goInt (Nat.min n m))) w') :
    wpList Try.prog ops Q (o :: rest) a w := by
  refine wpList_copy_has hgd d s ho g 0 m m hd A n c hs 5 _ hg F _ hA (fun _ _ => rfl) (by simp [zs]) ?_
  intro w' hH hC
  rw [take_range hl, splice_map] at hH
  exact h w' hH hC
theorem Row.set {w : World} {g i x : Nat} {bs : List Nat} (h : Row w g bs) : Row (w.setCell ⟨g, i, none⟩ (.int .u8 (x : Int))) g (bs.set i x) := by
  have := Has.set h i (bV x)
  unfold Row
  rw [List.map_set]
  simpa [bV] using this
/-- a byte of which all bits are turned is a byte -/
theorem turn_byte (y : Nat) (hy : y < 256) : ∃ z : Nat, bits .xor .u8 (y : Int) 255 = (z : Int) ∧ z < 256 := by
  have h := u8_xor_nat y 255 hy (by decide)
  exact ⟨y ^^^ 255, h, Nat.xor_lt_two_pow (n := 8) hy (by decide)⟩
theorem map_set_bV (ys : List Nat) (t z : Nat) : (ys.map bV).set t (.int .u8 (z : Int)) = (ys.set t z).map bV := by rw [List.map_set]; rfl
theorem set_small {ys : List Nat} {t z : Nat} (h : ∀ x ∈ ys, x < 256) (hz : z < 256) : ∀ x ∈ ys.set t z, x < 256 := by
  intro x hx
  rcases List.mem_or_eq_of_mem_set hx with h1 | h1
  · exact h x h1
  · omega
theorem own_byte {w : World} {base q c n t : Nat} {ys : List Nat} (h : w.ownsRow base 5 1 (.slice (some ⟨q, 0, none⟩) n c) n (ys.map bV)) (hy : ∀ y ∈ ys, y < 256) (ht : t < n) : ∃ y : Nat, w.cell? ⟨q, t, none⟩ = some (.int .u8 (y : Int)) ∧ y < 256 ∧ w.frozen? ⟨q, t, none⟩ = false := by
  have hl := own_length h
  refine ⟨ys.getD t 0, ?_, getD_lt ys hy t, own_free h t⟩
  have := h.cellAt t (by omega)
  rw [this, List.getElem?_map, List.getElem?_eq_getElem (by omega)]
  simp [bV, List.getElem?_eq_getElem (show t < ys.length by omega)]
theorem own_turn {w : World} {base q c n t z : Nat} {ys : List Nat} (h : w.ownsRow base 5 1 (.slice (some ⟨q, 0, none⟩) n c) n (ys.map bV)) : (w.setCell ⟨q, t, none⟩ (.int .u8 (z : Int))).ownsRow base 5 1 (.slice (some ⟨q, 0, none⟩) n c) n ((ys.set t z).map bV) ∧ Chg (· = q) w (w.setCell ⟨q, t, none⟩ (.int .u8 (z : Int))) := by
  refine ⟨?_, Chg.setCell (S := (· = q)) (Chg.refl _ _) (fun _ => rfl) _⟩
  rw [← map_set_bV]
  exact own_put h t _
/-- the index of a sector out of any number -/
theorem turn_in (i n : Int) (hn : 0 < n) (hb : n ≤ 1000) : (∃ j : Nat, Int.tmod (Int.tmod i n + n) n = (j : Int) ∧ (j : Int) < n) ∧ wrap64 (Int.tmod i n + n) = Int.tmod i n + n := by
  have h1 : Int.tmod i n < n := Int.tmod_lt_of_pos i hn
  have h2 : -n < Int.tmod i n := Int.lt_tmod_of_pos i hn
  have h3 := Int.emod_nonneg (Int.tmod i n + n) (show n ≠ 0 by omega)
  have h4 := Int.emod_lt_of_pos (Int.tmod i n + n) hn
  refine ⟨⟨((Int.tmod i n + n) % n).toNat, ?_, by omega⟩, w64 _ (by omega) (by omega)⟩
  rw [Int.tmod_eq_emod_of_nonneg (by omega)]
  omega
end Go.Proofs.Ytficopkjpdfilaa
