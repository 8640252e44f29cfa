/-
  A row of bytes that is known whole: made, laid over by copy, read as a string; cards made with a letter for their block.
-/
import Derived.Test.YtkecgfgeajkmmaaCdB
namespace Go.Proofs.Ytkecgfgeajkmmaa
open Go.RowKit
/-- block g holds just the bytes bs -/
def Row (w : World) (g : Nat) (bs : List Nat) : Prop := Has w g 5 (bs.map bV).toArray
theorem Row.chg {w w' : World} {S : Nat → Prop} {g : Nat} {bs : List Nat} (h : Row w g bs) (c : Chg S w w') (hS : ¬ S g) : Row w' g bs := Has.chg h c hS
theorem Row.new {w w' : World} {g : Nat} {bs : List Nat} (h : Row w g bs) (c : New w w') : Row w' g bs := Has.chg h c fun f => f
theorem Row.lt {w : World} {g : Nat} {bs : List Nat} (h : Row w g bs) : g < w.heap.size := Has.lt h
theorem Row.apart {w : World} {g k : Nat} {bs B : List Nat} {p : Int} (h : Row w g bs) (c : Cd w k B p) : g ≠ k := Has.apart h c.has (by decide)
theorem Row.arr {w : World} {g n : Nat} {bs : List Nat} (h : Row w g bs) (hn : bs.length = n) : Arr w (· = g) (some ⟨g, 0, none⟩) n (fun i => bV (bs.getD i 0)) := by
  subst hn
  intro i hi
  refine ⟨_, rfl, rfl, ?_⟩
  have hadd : (⟨g, 0, none⟩ : Addr).add i = ⟨g, i, none⟩ := by unfold Addr.add; split <;> simp_all
  rw [hadd, Has.cell h]
  simp [hi]
theorem Row.string {w : World} {g n c : Nat} {bs : List Nat} (h : Row w g bs) (hn : bs.length = n) (hb : ∀ x ∈ bs, x < 256) : (convert 28 9 (.slice (some ⟨g, 0, none⟩) n c)).run Try.prog w = .ok (.string (bstr bs)) w :=
  arr_string Try.underlying28 Try.underlying5 Try.underlying9 (h.arr hn) hn hb (fun h => by cases h)
theorem own_str {w : World} {base n c : Nat} {A : Option Addr} {bs : List Nat} (h : w.ownsRow base 5 1 (.slice A n c) n (bs.map bV)) : (convert 28 9 (.slice A n c)).run Try.prog w = .ok (.string (bstr bs)) w :=
  own_string Try.underlying28 Try.underlying5 Try.underlying9 h
/-- noughts by their number -/
def zs (n : Nat) : List Nat := List.replicate n 0
theorem zs_len (n : Nat) : (zs n).length = n := List.length_replicate
theorem zs_small (n : Nat) : ∀ x ∈ zs n, x < 256 := fun x hx => by rw [(List.mem_replicate.1 hx).2]; decide
/-- the first n bytes, filled up by noughts -/
def pad (n : Nat) (xs : List Nat) : List Nat := splice (zs n) 0 (xs.take n)
theorem pad_len (n : Nat) (xs : List Nat) : (pad n xs).length = n := by
  unfold pad
  rw [length_splice _ _ _ (by simp [zs]; omega), zs_len]
theorem pad_small (n : Nat) (xs : List Nat) (h : ∀ x ∈ xs, x < 256) : ∀ x ∈ pad n xs, x < 256 := splice_small (zs_small n) fun x hx => h x (List.mem_of_mem_take hx)
/-- 'make([]byte, n)' -/
theorem wpList_make_row {w : World} {ops : Array Oper} {rest : List Oper} {o : Oper} {a : Act} {Q : Exit → Act → World → Prop} (hgd : o.guard = none) (l c : Operand) (hop : o.op = Op.makeSlice 28 l c)
    (L : Int) (n : Nat) (hl : a.eval l = .int .i64 L) (hc : a.eval c = .int .i64 L) (hL : L = (n : Int)) (hn : n ≤ 1000)
    (hK : ∀ g w', Hid (w.heap.size = g) → Row w' g (zs n) → New w w' → wpList Try.prog ops Q rest (a.put o.dst (.slice (some ⟨g, 0, none⟩) n n)) w') :
    wpList Try.prog ops Q (o :: rest) a w := by
  obtain ⟨i0, hi, hz0, hz1, hz2⟩ := info_parts Try.info5
  refine wpList_make_full w hgd l c 28 hop w.heap.size 5 i0 (.int .u8 0) 1 Try.underlying28 hi hz0 hz1 .i64 .i64 L L n hl hc hL hL (by rw [hz2]; omega) (by simp only [maxLen]; omega) (Nat.le_refl _) ?_
  intro w' ho hg
  refine hK _ w' rfl ?_ (Chg.grown (Chg.refl _ _) hg (by intro k hk; cases hk))
  rcases ho.2 with ⟨hv, _⟩ | ⟨g', cap, cur, hv, _, hh, _, _, hs, ht⟩
  · cases hv
  · simp only [Value.slice.injEq, Option.some.injEq, Addr.mk.injEq, and_true, true_and] at hv
    obtain ⟨rfl, rfl⟩ := hv
    rw [List.take_of_length_le (by rw [Array.length_toList, hs]; omega)] at ht
    have h1 : (Value.int IntKind.u8 0).cells = #[.int .u8 0] := rfl
    rw [h1, Nat.mul_one, toList_madeCells_one] at ht
    have : cur = ((zs n).map bV).toArray := by
      apply Array.toList_inj.1
      rw [ht]
      simp [zs, bV]
    unfold Row Has
    rw [hh, this]
theorem take_range {xs : List Nat} {n m : Nat} (hl : xs.length = n) : (List.range (Nat.min n m)).map (fun i => bV (xs.getD i 0)) = (xs.take m).map bV := by
  subst hl
  apply List.ext_getElem?
  intro i
  rw [List.getElem?_map, List.getElem?_map, List.getElem?_take]
  by_cases hi : i < Nat.min xs.length m
  · rw [List.getElem?_range hi]
    have h1 : i < xs.length := Nat.lt_of_lt_of_le hi (Nat.min_le_left _ _)
    have h2 : i < m := Nat.lt_of_lt_of_le hi (Nat.min_le_right _ _)
    simp [h1, h2]
  · rw [List.getElem?_eq_none (by simpa using hi)]
    by_cases h2 : i < m
    · have h1 : ¬ i < xs.length := fun h => hi (Nat.lt_min.2 ⟨h, h2⟩)
      simp [h2, h1]
    · simp [h2]
theorem splice_map (B bs : List Nat) (off : Nat) : splice (B.map bV) off (bs.map bV) = (splice B off bs).map bV := by
  simp [splice]
/-- 'copy(b, xs)' onto noughts -/
theorem wpList_copy_pad {w : World} {ops : Array Oper} {rest : List Oper} {o : Oper} {a : Act} {Q : Exit → Act → World → Prop} (hgd : o.guard = none) (d s : Operand)
    (ho : o.op = .call { callee := .builtin .copy, args := #[d, s], argTypes := #[28, 28] }) (g m : Nat) (hd : a.eval d = .slice (some ⟨g, 0, none⟩) m m)
    (A : Option Addr) (n c : Nat) (hs : a.eval s = .slice A n c) (hg : Row w g (zs m))
    (F : Nat → Prop) (xs : List Nat) (hA : Arr w F A n (fun i => bV (xs.getD i 0))) (hl : xs.length = n)
    (h : ∀ w', Row w' g (pad m xs) → Chg (· = g) w w' → wpList Try.prog ops Q rest (a.put o.dst (goInt (Nat.min n m))) w') :
    wpList Try.prog ops Q (o :: rest) a w := by
  refine wpList_copy_has hgd d s ho g 0 m m hd A n c hs 5 _ hg F _ hA (fun _ _ => rfl) (by simp [zs]) ?_
  intro w' hH hC
  rw [take_range hl, splice_map] at hH
  exact h w' hH hC
theorem NewC (w : World) : Calls Try.prog 8 #[] w fun e w' => ∃ g, e = .returned (.pointer (some ⟨g, 0, none⟩)) ∧ Hid (w.heap.size = g) ∧ Cd w' g nought (-1) ∧ New w w' :=
  (New_any w).mono (by rintro e w' ⟨rfl, rfl⟩; exact ⟨_, rfl, rfl, Cd.fresh w, (Chg.refl _ _).alloc _⟩)
theorem Read_any (g : Nat) (i : Int) (B : List Nat) (p : Int) (w : World) (hC : Cd w g B p) (hi : 0 ≤ i ∧ i < 16) : Calls Try.prog 16 #[.pointer (some ⟨g, 0, none⟩), .int .i64 i] w fun e w' => ∃ A c, e = .returned (.tuple #[.slice A 32 c, .int .i64 0]) ∧ w'.ownsRow w.heap.size 5 1 (.slice A 32 c) 32 ((sec B i.toNat).map bV) ∧ New w w' := by
  obtain ⟨j, rfl⟩ : ∃ j : Nat, i = (j : Int) := ⟨i.toNat, by omega⟩
  rw [Int.toNat_natCast]
  exact Read_in g j B p w hC (by omega)
/-- a sector that was written -/
theorem sec_same {B bs : List Nat} {i : Nat} (hB : B.length = 512) (hi : i < 16) (hb : bs.length = 32) : sec (splice B (32 * i) bs) i = bs := by
  unfold sec splice
  have h1 : (B.take (32 * i)).length = 32 * i := by simp [hB]; omega
  rw [List.drop_append_of_le_length (by omega), List.drop_of_length_le (by omega), List.nil_append, List.take_append_of_le_length (by omega), List.take_of_length_le (by omega)]
/-- a sector beside it -/
theorem sec_other {B bs : List Nat} {i j : Nat} (hB : B.length = 512) (hi : i < 16) (hb : bs.length = 32) (hne : i ≠ j) : sec (splice B (32 * i) bs) j = sec B j := by
  apply List.ext_getElem?
  intro k
  unfold sec splice
  rw [List.getElem?_take, List.getElem?_take]
  by_cases hk : k < 32
  · rw [if_pos hk, if_pos hk, List.getElem?_drop, List.getElem?_drop]
    have h1 : (B.take (32 * i)).length = 32 * i := by simp [hB]; omega
    by_cases hlt : j < i
    · rw [List.getElem?_append_left (by omega), List.getElem?_take, if_pos (by omega)]
    · rw [List.getElem?_append_right (by omega), List.getElem?_append_right (by omega), List.getElem?_drop]
      congr 1
      omega
  · rw [if_neg hk, if_neg hk]
end Go.Proofs.Ytkecgfgeajkmmaa
