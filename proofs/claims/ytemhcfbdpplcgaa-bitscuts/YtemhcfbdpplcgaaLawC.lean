/-
  Bytes and ints that came in, opened; numbers in a beginning of bytes; Take of one number.
-/
import Derived.Test.YtemhcfbdpplcgaaLawB
import Derived.Test.YtemhcfbdpplcgaaOpen
namespace Go.Proofs.Ytemhcfbdpplcgaa
open Go.ChangeShapes Go.WideShapes Go.ChangeAt Go.RowKit

theorem Try.cells5 : Try.prog.cellsOf 5 = 1 := by kernel_rfl
theorem u8_bounds {n : Int} (h : (Lit.int .u8 n).wf = true) : 0 ≤ n ∧ n ≤ 255 := by simpa [Lit.wf, IntKind.min, IntKind.max, IntKind.signed, IntKind.bits] using h
/-- bytes that came in -/
theorem open_bytes {H : Type} {enc : TypeId × Value → H} {W : World} {sp : Nat → Bool} {held : Bool} {A : Option Addr} {n c : Nat} {d : DataW H} {p : List MemPlace}
    (h : DataW.Trod enc Try.prog W 0 sp held 24 (.slice A n c) d p) : ∃ bs : List Nat, bs.length = n ∧ Arr W (· < W.heap.size) A n (fun i => bV (bs.getD i 0)) ∧ (∀ x ∈ bs, x < 256) ∧ n ≤ c ∧ c ≤ maxLen ∧ (A = none → n = 0 ∧ c = 0) := by
  obtain ⟨fuel, hf⟩ := h
  rcases Deep.open_slice1 Try.underlying24 Try.cells5 hf with ⟨hcs, _⟩ | ⟨a, len, cap, m, nn, V, D, Pl, hcs, _, hl, hm, hmm, _, hx⟩
  · simp [Value.cells] at hcs
    obtain ⟨rfl, rfl, rfl⟩ := hcs
    exact ⟨[], rfl, fun i hi => by omega, by simp, by omega, by decide, fun _ => ⟨rfl, rfl⟩⟩
  · simp [Value.cells] at hcs
    obtain ⟨rfl, rfl, rfl⟩ := hcs
    have hnm : n ≤ m := by rw [hmm]; split <;> omega
    have hv : ∀ i, i < n → W.cell? (a.add i) = some (bV (intOf (V i)).toNat) ∧ (intOf (V i)).toNat < 256 := by
      intro i hi
      obtain ⟨h0, t0⟩ := hx i (by omega)
      obtain ⟨x, e0, _, wx⟩ := DataW.trod_int Try.underlying5 t0
      simp only [List.cons.injEq, and_true] at e0
      have hb := u8_bounds wx
      rw [h0, e0]
      simp only [intOf, bV]
      refine ⟨?_, by omega⟩
      congr 2
      omega
    refine ⟨(List.range n).map (fun i => (intOf (V i)).toNat), by simp, fun i hi => ⟨a, rfl, ?_, ?_⟩, ?_, hl, hm, fun h => by cases h⟩
    · have := World.block_lt_of_cell? _ _ (hv i hi).1; rwa [add_block] at this
    · rw [(hv i hi).1]
      simp [hi]
    · intro x hx
      simp only [List.mem_map, List.mem_range] at hx
      obtain ⟨i, hi, rfl⟩ := hx
      exact (hv i hi).2
/-- ints that came in -/
theorem open_i64s {H : Type} {enc : TypeId × Value → H} {W : World} {sp : Nat → Bool} {held : Bool} {A : Option Addr} {n c : Nat} {d : DataW H} {p : List MemPlace}
    (h : DataW.Trod enc Try.prog W 0 sp held 42 (.slice A n c) d p) : ∃ f : Nat → Int, Arr W (· < W.heap.size) A n (fun i => .int .i64 (f i)) ∧ n ≤ c ∧ c ≤ maxLen ∧ (A = none → n = 0 ∧ c = 0) := by
  obtain ⟨fuel, hf⟩ := h
  rcases Deep.open_slice1 Try.underlying42 Try.cells3 hf with ⟨hcs, _⟩ | ⟨a, len, cap, m, nn, V, D, Pl, hcs, _, hl, hm, hmm, _, hx⟩
  · simp [Value.cells] at hcs
    obtain ⟨rfl, rfl, rfl⟩ := hcs
    exact ⟨fun _ => 0, fun i hi => by omega, by omega, by decide, fun _ => ⟨rfl, rfl⟩⟩
  · simp [Value.cells] at hcs
    obtain ⟨rfl, rfl, rfl⟩ := hcs
    have hnm : n ≤ m := by rw [hmm]; split <;> omega
    refine ⟨fun i => intOf (V i), fun i hi => ⟨a, rfl, ?_, ?_⟩, hl, hm, fun h => by cases h⟩
    · have := World.block_lt_of_cell? _ _ (hx i (by omega)).1; rwa [add_block] at this
    · obtain ⟨h0, t0⟩ := hx i (by omega)
      obtain ⟨x, e0, _⟩ := DataW.trod_int Try.underlying3 t0
      simp only [List.cons.injEq, and_true] at e0
      rw [h0]; simp only [e0, intOf]
theorem unpack_take (bs : List Nat) (k : Nat) : unpack (bs.take k) = (unpack bs).take (8 * k) := by
  induction bs generalizing k with
  | nil => simp [unpack]
  | cons x bs ih =>
    cases k with
    | zero => simp [unpack]
    | succ k =>
      have := ih k
      simp only [unpack, List.take_succ_cons, List.flatMap_cons] at this ⊢
      have e1 : (bitsOf 8 x).take (8 * (k + 1)) = bitsOf 8 x := List.take_of_length_le (by simp; omega)
      have e2 : 8 * (k + 1) - 8 = 8 * k := by omega
      rw [this, List.take_append, bitsOf_length, e1, e2]
theorem numAt_cut (bs : List Nat) (k p n : Nat) (h : p + n ≤ 8 * k) : numAt (bs.take k) p n = numAt bs p n := by
  unfold numAt
  rw [unpack_take, List.drop_take, List.take_take]
  congr 2
  omega
/-- Take of one number, whatever is there: it changes the reader alone -/
theorem take_one (b : Nat) (bs : List Nat) (p : Nat) (x : Nat) (wy : World) (hh : Nat) (hR : Rd wy b bs p 0) (hl : bs.length ≤ 140737488351232) (h256 : ∀ x ∈ bs, x < 256) (hp : p ≤ 8 * bs.length) (hx1 : 1 ≤ x) (hx2 : x ≤ 32) (hhh : wy.heap.size = hh) :
    Calls Try.prog 16 #[.pointer (some ⟨b, 0, none⟩), .slice (some ⟨hh, 0, none⟩) 1 1] (wy.alloc (.cells #[.int .i64 (x : Int)] 3)) fun e w' => Chg (· = b) wy w' ∧
      ((p + x ≤ 8 * bs.length ∧ ∃ g c', e = .returned (.slice (some ⟨g, 0, none⟩) 1 c') ∧ w'.cell? ⟨g, 0, none⟩ = some (.int .i64 (numAt bs p x : Int)) ∧ Rd w' b bs (p + x) 0) ∨
       (8 * bs.length < p + x ∧ e = .returned (.slice none 0 0) ∧ Rd w' b bs p 10)) := by
  subst hhh
  have hA : Arr (wy.alloc (.cells #[.int .i64 (x : Int)] 3)) (· = wy.heap.size) (some ⟨wy.heap.size, 0, none⟩) 1 (fun i => iV ((fun _ => x) i)) := fun i hi => by
    obtain ⟨a, ha, hb, hc⟩ := Arr.of_has (Has.new wy 3 #[.int .i64 (x : Int)]) (n := 1) (by simp) i hi
    refine ⟨a, ha, hb, ?_⟩
    rw [hc]
    match i, hi with
    | 0, _ => rfl
  have hR' := hR.new (w' := wy.alloc (.cells #[.int .i64 (x : Int)] 3)) ((Chg.refl _ _).alloc _)
  by_cases hfit : p + x ≤ 8 * bs.length
  · refine (take_ok b bs p _ hR' hl h256 (some ⟨wy.heap.size, 0, none⟩) 1 1 (· = wy.heap.size) (fun _ => x) (by omega) hA
      (fun k hk => by subst hk; exact ⟨by simp, by obtain ⟨cs, hcs⟩ := hR.has; have := hcs.lt; omega⟩)
      (fun i hi => by omega) (by simp only [sumN]; omega)).mono ?_
    rintro e w' ⟨A', c', rfl, hO, hR2, hC2⟩
    obtain ⟨g, rfl, hc⟩ := own_some hO (show 0 < 1 by omega)
    refine ⟨Chg.new_then ((Chg.refl _ _).alloc _) hC2, Or.inl ⟨hfit, g, c', rfl, ?_, ?_⟩⟩
    · rw [hc 0 (by omega)]
      simp [nums, iV, sumN]
    · simpa [sumN] using hR2
  · have hck : chk (fun i => (((fun _ => x) i : Nat) : Int)) 1 (8 * bs.length - p) = 10 := by
      unfold chk
      rw [if_neg, if_pos]
      · simp only [sumTo]; omega
      · rintro ⟨i, hi, hb⟩
        refine hb ⟨?_, ?_⟩ <;> dsimp only <;> omega
    refine (take_no b bs p _ hR' (by omega) hp (some ⟨wy.heap.size, 0, none⟩) 1 1 (· = wy.heap.size) (fun i => (((fun _ => x) i : Nat) : Int)) (by omega) hA (by rw [hck]; rfl)).mono ?_
    rintro e w' ⟨rfl, hR2, hC2⟩
    rw [hck] at hR2
    exact ⟨Chg.new_then ((Chg.refl _ _).alloc _) hC2, Or.inr ⟨by omega, rfl, hR2⟩⟩
/-- the same, the width lying in whatever block -/
theorem take_at (b : Nat) (bs : List Nat) (p : Nat) (x : Nat) (wy : World) (hh : Nat) (hR : Rd wy b bs p 0) (hl : bs.length ≤ 140737488351232) (h256 : ∀ x ∈ bs, x < 256) (hp : p ≤ 8 * bs.length) (hx1 : 1 ≤ x) (hx2 : x ≤ 32) (hc : wy.cell? ⟨hh, 0, none⟩ = some (.int .i64 (x : Int))) (hne : hh ≠ b) :
    Calls Try.prog 16 #[.pointer (some ⟨b, 0, none⟩), .slice (some ⟨hh, 0, none⟩) 1 1] wy fun e w' => Chg (· = b) wy w' ∧
      ((p + x ≤ 8 * bs.length ∧ ∃ g c', e = .returned (.slice (some ⟨g, 0, none⟩) 1 c') ∧ w'.cell? ⟨g, 0, none⟩ = some (.int .i64 (numAt bs p x : Int)) ∧ wy.heap.size ≤ g ∧ g < w'.heap.size ∧ Rd w' b bs (p + x) 0) ∨
       (8 * bs.length < p + x ∧ e = .returned (.slice none 0 0) ∧ Rd w' b bs p 10)) := by
  have hA : Arr wy (· = hh) (some ⟨hh, 0, none⟩) 1 (fun i => iV ((fun _ => x) i)) := fun i hi => by
    refine ⟨_, rfl, rfl, ?_⟩
    match i, hi with
    | 0, _ => exact hc
  have hlt : hh < wy.heap.size := World.block_lt_of_cell? wy ⟨hh, 0, none⟩ hc
  by_cases hfit : p + x ≤ 8 * bs.length
  · refine (take_ok b bs p _ hR hl h256 (some ⟨hh, 0, none⟩) 1 1 (· = hh) (fun _ => x) (by omega) hA
      (fun k hk => by subst hk; exact ⟨hlt, hne⟩) (fun i hi => by omega) (by simp only [sumN]; omega)).mono ?_
    rintro e w' ⟨A', c', rfl, hO, hR2, hC2⟩
    obtain ⟨g, rfl, hc⟩ := own_some hO (show 0 < 1 by omega)
    have hg := hO.lt g rfl
    refine ⟨hC2, Or.inl ⟨hfit, g, c', rfl, ?_, hg.1, hg.2, ?_⟩⟩
    · rw [hc 0 (by omega)]
      simp [nums, iV, sumN]
    · simpa [sumN] using hR2
  · have hck : chk (fun i => (((fun _ => x) i : Nat) : Int)) 1 (8 * bs.length - p) = 10 := by
      unfold chk
      rw [if_neg, if_pos]
      · simp only [sumTo]; omega
      · rintro ⟨i, hi, hb⟩
        refine hb ⟨?_, ?_⟩ <;> dsimp only <;> omega
    refine (take_no b bs p _ hR (by omega) hp (some ⟨hh, 0, none⟩) 1 1 (· = hh) (fun i => (((fun _ => x) i : Nat) : Int)) (by omega) hA (by rw [hck]; rfl)).mono ?_
    rintro e w' ⟨rfl, hR2, hC2⟩
    rw [hck] at hR2
    exact ⟨hC2, Or.inr ⟨by omega, rfl, hR2⟩⟩
end Go.Proofs.Ytemhcfbdpplcgaa
