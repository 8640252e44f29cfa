/-
  A card in memory, and what package card's small functions (exists, sized, spend, at, Power, New, Image, Read) come to.
-/
import Derived.Test.YtjkpijinpfimiaaRowW
import Derived.Test.YtjkpijinpfimiaaSizes
import Derived.Laws.Tables
namespace Go.Proofs.Ytjkpijinpfimiaa
open Go.ChangeShapes Go.WideShapes Go.ChangeAt Go.RowKit
/-- A card's cells: its bytes, whether its power is limited, and how many writes are left. -/
def cdCells (B : List Nat) (p : Int) : List Value := B.map bV ++ [.bool (decide (0 ≤ p)), .int .i64 (if 0 > p then 0 else p)]
/-- Block g holds a card with bytes B and power p (below 0: without end). -/
structure Cd (w : World) (g : Nat) (B : List Nat) (p : Int) : Prop where
  has : Has w g 92 (cdCells B p).toArray
  len : B.length = 512
  small : ∀ x ∈ B, x < 256
  lo : -9223372036854775808 ≤ p
  hi : p ≤ 9223372036854775807
theorem Cd.chg {w w' : World} {S : Nat → Prop} {g : Nat} {B : List Nat} {p : Int} (h : Cd w g B p) (c : Chg S w w') (hS : ¬ S g) : Cd w' g B p := ⟨h.has.chg c hS, h.len, h.small, h.lo, h.hi⟩
theorem Cd.new {w w' : World} {g : Nat} {B : List Nat} {p : Int} (h : Cd w g B p) (c : New w w') : Cd w' g B p := h.chg c fun f => f
theorem Cd.lt {w : World} {g : Nat} {B : List Nat} {p : Int} (h : Cd w g B p) : g < w.heap.size := h.has.lt
theorem cd_len {B : List Nat} {p : Int} (h : B.length = 512) : (cdCells B p).length = 514 := by simp [cdCells, h]
theorem Cd.limit {w : World} {g : Nat} {B : List Nat} {p : Int} (h : Cd w g B p) : w.cell? ⟨g, 512, none⟩ = some (.bool (decide (0 ≤ p))) := by
  rw [h.has.cell]
  simp [cdCells, h.len]
theorem Cd.left {w : World} {g : Nat} {B : List Nat} {p : Int} (h : Cd w g B p) : w.cell? ⟨g, 513, none⟩ = some (.int .i64 (if 0 > p then 0 else p)) := by
  rw [h.has.cell]
  simp [cdCells, h.len]
theorem Cd.free {w : World} {g : Nat} {B : List Nat} {p : Int} (h : Cd w g B p) (i : Nat) : w.frozen? ⟨g, i, none⟩ = false := h.has.free i
/-- the bytes of a sector -/
def sec (B : List Nat) (i : Nat) : List Nat := (B.drop (32 * i)).take 32
theorem Cd.arr {w : World} {g : Nat} {B : List Nat} {p : Int} (h : Cd w g B p) (o n : Nat) (hn : o + n ≤ 512) : Arr w (· = g) (some ⟨g, o, none⟩) n (fun i => bV (((B.drop o).take n).getD i 0)) := by
  intro i hi
  refine ⟨_, rfl, rfl, ?_⟩
  have hadd : (⟨g, o, none⟩ : Addr).add i = ⟨g, o + i, none⟩ := by unfold Addr.add; split <;> simp_all
  have hl : o + i < B.length := by have := h.len; omega
  rw [hadd, h.has.cell]
  simp [cdCells, List.getElem?_append_left, hl, hi]

set_option maxRecDepth 100000 in
set_option maxHeartbeats 1000000 in
theorem exists_any (i : Int) (w : World) : Calls Try.prog 68 #[.int .i64 i] w fun e w' => e = .returned (.bool (decide (0 ≤ i ∧ i < 16))) ∧ w' = w := by
  rcases Int.lt_or_le i 0 with h | h
  · have h0 : decide (0 ≤ i) = false := by simp only [decide_eq_false_iff_not]; omega
    go_enter Try.func68, Try.ntmps68
    go_wp2_with fail
    go_ret
    exact ⟨by simp; omega, rfl⟩
  · have h0 : decide (0 ≤ i) = true := by simp only [decide_eq_true_eq]; omega
    rcases Int.lt_or_le i 16 with k | k
    · have k0 : decide (i < 16) = true := by simp only [decide_eq_true_eq]; omega
      go_enter Try.func68, Try.ntmps68
      go_wp2_with fail
      go_ret
      exact ⟨by simp; omega, rfl⟩
    · have k0 : decide (i < 16) = false := by simp only [decide_eq_false_iff_not]; omega
      go_enter Try.func68, Try.ntmps68
      go_wp2_with fail
      go_ret
      exact ⟨by simp; omega, rfl⟩
/-- too short, too long, or right -/
def szE (n m : Nat) : Int := if n < m then 10 else if m < n then 11 else 0
set_option maxRecDepth 100000 in
set_option maxHeartbeats 1000000 in
theorem sized_any (A : Option Addr) (n c m : Nat) (w : World) : Calls Try.prog 61 #[.slice A n c, .int .i64 m] w fun e w' => e = .returned (.int .i64 (szE n m)) ∧ w' = w := by
  rcases Nat.lt_trichotomy n m with h | rfl | h
  · go_enter Try.func61, Try.ntmps61
    go_wp2_with fail
    go_ret
    exact ⟨by simp [szE, h], rfl⟩
  · go_enter Try.func61, Try.ntmps61
    go_wp2_with fail
    go_ret
    exact ⟨by simp [szE], rfl⟩
  · go_enter Try.func61, Try.ntmps61
    go_wp2_with fail
    go_ret
    exact ⟨by simp [szE, h]; omega, rfl⟩
theorem Try.len90 : Try.prog.arrayLen 90 = 512 := by kernel_rfl
theorem Try.elem90 : Try.prog.elem 90 = 5 := by kernel_rfl
theorem Try.under90 : Try.prog.underlying 90 = some (.array (Try.prog.arrayLen 90) (Try.prog.elem 90)) := by kernel_rfl
theorem slice_part (g i : Nat) (hi : i < 16) (w : World) : (Instr.sliceAt 90 (.pointer (some ⟨g, 0, none⟩)) (some (.int .i64 ((i : Int) * 32))) (some (.int .i64 ((i : Int) * 32 + 32))) none).run Try.prog w = .ok (.slice (some ⟨g, 32 * i, none⟩) 32 (512 - 32 * i)) w := by
  rw [run_sliceAt_array_lh w 90 ⟨g, 0, none⟩ Try.under90 .i64 .i64 _ _ (by omega) (by omega) (by rw [Try.len90]; omega), Try.elem90, Try.size5, Result.andThen_ok, Try.len90]
  have e1 : ((i : Int) * 32).toNat = 32 * i := by omega
  have e2 : ((i : Int) * 32 + 32).toNat = 32 * i + 32 := by omega
  have hadd : (⟨g, 0, none⟩ : Addr).add (32 * i * 1) = ⟨g, 32 * i, none⟩ := by unfold Addr.add; split <;> simp_all
  unfold slicedAt
  rw [e1, e2, if_neg (by omega), hadd]
  congr 2
  omega
theorem slice_all (g : Nat) (w : World) : (Instr.sliceAt 90 (.pointer (some ⟨g, 0, none⟩)) none none none).run Try.prog w = .ok (.slice (some ⟨g, 0, none⟩) 512 512) w := by
  rw [run_sliceAt_array_all w 90 ⟨g, 0, none⟩ Try.under90, Try.elem90, Try.size5, Result.andThen_ok, Try.len90]
  rfl
set_option maxRecDepth 100000 in
set_option maxHeartbeats 1000000 in
theorem at_any (g i : Nat) (w : World) (hi : i < 16) : Calls Try.prog 69 #[.pointer (some ⟨g, 0, none⟩), .int .i64 i] w fun e w' => e = .returned (.slice (some ⟨g, 32 * i, none⟩) 32 (512 - 32 * i)) ∧ w' = w := by
  have hs := slice_part g i hi
  go_enter Try.func69, Try.ntmps69
  go_wp2_with fail
  go_ret
  exact ⟨rfl, rfl⟩
/-- power behind a write, if there is any -/
def spent (p : Int) : Int := if 0 < p then p - 1 else p
theorem cd_set_left {B : List Nat} {p q : Int} (h : B.length = 512) (hq : decide (0 ≤ q) = decide (0 ≤ p)) : (cdCells B p).toArray.setIfInBounds 513 (.int .i64 (if 0 > q then 0 else q)) = (cdCells B q).toArray := by
  unfold cdCells
  rw [List.setIfInBounds_toArray, List.set_append_right _ _ (by simp [h])]
  simp [h, hq]
set_option maxRecDepth 100000 in
set_option maxHeartbeats 1000000 in
theorem spend_any (g : Nat) (B : List Nat) (p : Int) (w : World) (hC : Cd w g B p) : Calls Try.prog 79 #[.pointer (some ⟨g, 0, none⟩)] w fun e w' => e = .returned (.bool (decide (p ≠ 0))) ∧ Cd w' g B (spent p) ∧ Chg (· = g) w w' := by
  have hc1 := hC.limit
  have hc2 := hC.left
  have hf := hC.free 513
  have h0 := hC.lo
  have h1 := hC.hi
  have HC := Lib.hid hC; clear hC
  rcases Int.lt_trichotomy p 0 with h | rfl | h
  · have t0 : decide (0 ≤ p) = false := by simp only [decide_eq_false_iff_not]; omega
    rw [t0] at hc1
    go_enter Try.func79, Try.ntmps79
    go_wp2_with fail
    go_ret
    have : spent p = p := by unfold spent; rw [if_neg (by omega)]
    rw [this]
    exact ⟨by simp; omega, HC.out, Chg.refl _ _⟩
  · go_enter Try.func79, Try.ntmps79
    go_wp2_with fail
    go_ret
    exact ⟨by simp, HC.out, Chg.refl _ _⟩
  · have t0 : decide (0 ≤ p) = true := by simp only [decide_eq_true_eq]; omega
    have t1 : (p == 0) = false := by simp; omega
    rw [t0] at hc1
    rw [if_neg (by omega)] at hc2
    go_enter Try.func79, Try.ntmps79
    go_wp2_with fail
    go_ret
    have hs : spent p = p - 1 := by unfold spent; rw [if_pos h]
    rw [hs]
    have hk := cd_set_left (B := B) (p := p) (q := p - 1) HC.out.len (by rw [t0]; simp only [decide_eq_true_eq]; omega)
    rw [if_neg (by omega)] at hk
    refine ⟨by simp; omega, ⟨?_, HC.out.len, HC.out.small, by omega, by omega⟩, Chg.setCell (S := (· = g)) (Chg.refl _ _) (fun _ => rfl) _⟩
    rw [← hk]
    exact HC.out.has.set 513 _
theorem cd_set_limit {B : List Nat} {p q : Int} (h : B.length = 512) : ((cdCells B p).toArray.setIfInBounds 512 (.bool (decide (0 ≤ q)))).setIfInBounds 513 (.int .i64 (if 0 > q then 0 else q)) = (cdCells B q).toArray := by
  unfold cdCells
  rw [List.setIfInBounds_toArray, List.setIfInBounds_toArray, List.set_append_right _ _ (by simp [h]), List.set_append_right _ _ (by simp [h])]
  simp [h]
set_option maxRecDepth 100000 in
set_option maxHeartbeats 1000000 in
theorem Power_any (g : Nat) (B : List Nat) (p q : Int) (w : World) (hC : Cd w g B p) (hq : -9223372036854775808 ≤ q ∧ q ≤ 9223372036854775807) : Calls Try.prog 21 #[.pointer (some ⟨g, 0, none⟩), .int .i64 q] w fun e w' => e = .returned (.tuple #[]) ∧ Cd w' g B q ∧ Chg (· = g) w w' := by
  have hc1 := hC.limit
  have hc2 := hC.left
  have hf := hC.free 513
  have hf1 := hC.free 512
  obtain ⟨h0, h1⟩ := hq
  have HC := Lib.hid hC; clear hC
  rcases Int.lt_or_le q 0 with h | h
  · have t0 : decide (0 ≤ q) = false := by simp only [decide_eq_false_iff_not]; omega
    go_enter Try.func21, Try.ntmps21
    go_wp2_with fail
    go_end0
    have hk := cd_set_limit (B := B) (p := p) (q := q) HC.out.len
    rw [if_pos (by omega)] at hk
    refine ⟨rfl, ⟨?_, HC.out.len, HC.out.small, h0, h1⟩, Chg.setCell (S := (· = g)) (Chg.setCell (S := (· = g)) (Chg.refl _ _) (fun _ => rfl) _) (fun _ => rfl) _⟩
    rw [← hk, t0]
    exact (HC.out.has.set 512 _).set 513 _
  · have t0 : decide (0 ≤ q) = true := by simp only [decide_eq_true_eq]; omega
    go_enter Try.func21, Try.ntmps21
    go_wp2_with fail
    go_end0
    have hk := cd_set_limit (B := B) (p := p) (q := q) HC.out.len
    rw [if_neg (by omega)] at hk
    refine ⟨rfl, ⟨?_, HC.out.len, HC.out.small, h0, h1⟩, Chg.setCell (S := (· = g)) (Chg.setCell (S := (· = g)) (Chg.refl _ _) (fun _ => rfl) _) (fun _ => rfl) _⟩
    rw [← hk, t0]
    exact (HC.out.has.set 512 _).set 513 _
theorem zero92 : (Try.prog.info? 92).map (fun i => i.zero) = some (some (.agg (cdCells (List.replicate 512 0) (-1)).toArray)) := by kernel_rfl
/-- noughts -/
def nought : List Nat := List.replicate 512 0
theorem Cd.fresh (w : World) : Cd (w.alloc (.cells (cdCells nought (-1)).toArray 92)) w.heap.size nought (-1) :=
  ⟨Has.new w _ _, List.length_replicate, fun x hx => by rw [(List.mem_replicate.1 hx).2]; decide, by omega, by omega⟩
set_option maxRecDepth 100000 in
set_option maxHeartbeats 1000000 in
theorem New_any (w : World) : Calls Try.prog 26 #[] w fun e w' => e = .returned (.pointer (some ⟨w.heap.size, 0, none⟩)) ∧ w' = w.alloc (.cells (cdCells nought (-1)).toArray 92) := by
  obtain ⟨Z, hZ⟩ : ∃ Z, Z = (cdCells nought (-1)).toArray := ⟨_, rfl⟩
  have hb : ∀ w, (zeroValue 92).run Try.prog w = .ok (.agg Z) w := fun w => by
    have hz := zero92
    rw [Option.map_eq_some_iff] at hz
    obtain ⟨i, hi, hz⟩ := hz
    rw [hZ]
    simp [zeroValue, typeInfo, hi, hz, nought]
  rw [← hZ]
  have HZ := Lib.hid hZ; clear hZ
  go_enter Try.func26, Try.ntmps26
  go_wp2_with fail
  go_ret
  exact ⟨rfl, rfl⟩
/-- the bytes of a sector, by their number -/
theorem sec_len {B : List Nat} {i : Nat} (h : B.length = 512) (hi : i < 16) : (sec B i).length = 32 := by simp [sec, h]; omega
theorem sec_small {B : List Nat} {i : Nat} (h : ∀ x ∈ B, x < 256) : ∀ x ∈ sec B i, x < 256 := fun x hx => h x (List.mem_of_mem_drop (List.mem_of_mem_take hx))
set_option maxRecDepth 100000 in
set_option maxHeartbeats 1000000 in
theorem Image_any (g : Nat) (B : List Nat) (p : Int) (w : World) (hC : Cd w g B p) : Calls Try.prog 20 #[.pointer (some ⟨g, 0, none⟩)] w fun e w' => ∃ A c, e = .returned (.slice A 512 c) ∧ w'.ownsRow w.heap.size 5 1 (.slice A 512 c) 512 (B.map bV) ∧ New w w' := by
  have hs := slice_all g
  have hA := hC.arr 0 512 (by omega)
  rw [List.drop_zero, List.take_of_length_le (by rw [hC.len]; omega)] at hA
  have HA := Lib.hid hA; clear hA
  have HC := Lib.hid hC; clear hC
  go_enter Try.func20, Try.ntmps20
  go_wp2_with fail
  with_reducible refine (clone_any (some ⟨g, 0, none⟩) 512 512 _ _ _ HA.out (fun h => by cases h) (fun _ _ => rfl) (by omega)).mono ?_
  rintro e w1 ⟨A1, c1, rfl, hO, hN⟩
  rw [bs_range _ _ HC.out.len] at hO
  have HO := Lib.hid hO; clear hO
  have HN := Lib.hid hN; clear hN
  go_wp2_with fail
  go_ret
  exact ⟨_, _, rfl, HO.out, HN.out⟩
set_option maxRecDepth 100000 in
set_option maxHeartbeats 1000000 in
theorem Read_in (g i : Nat) (B : List Nat) (p : Int) (w : World) (hC : Cd w g B p) (hi : i < 16) : Calls Try.prog 40 #[.pointer (some ⟨g, 0, none⟩), .int .i64 i] w fun e w' => ∃ A c, e = .returned (.tuple #[.slice A 32 c, .int .i64 0]) ∧ w'.ownsRow w.heap.size 5 1 (.slice A 32 c) 32 ((sec B i).map bV) ∧ New w w' := by
  have hA : Arr w (· = g) (some ⟨g, 32 * i, none⟩) 32 (fun j => bV ((sec B i).getD j 0)) := hC.arr (32 * i) 32 (by omega)
  have HA := Lib.hid hA; clear hA
  have HC := Lib.hid hC; clear hC
  have ht : decide (0 ≤ (i : Int) ∧ (i : Int) < 16) = true := by simp only [decide_eq_true_eq]; omega
  go_enter Try.func40, Try.ntmps40
  go_wp2_with fail
  with_reducible refine (exists_any i w).mono ?_
  rintro e w1 ⟨rfl, hw⟩
  obtain rfl : w = w1 := hw.symm
  clear hw
  rw [ht]
  go_wp2_with fail
  with_reducible refine (at_any g i w hi).mono ?_
  rintro e w1 ⟨rfl, hw⟩
  obtain rfl : w = w1 := hw.symm
  clear hw
  go_wp2_with fail
  with_reducible refine (clone_any _ 32 _ _ _ _ HA.out (fun h => by cases h) (fun _ _ => rfl) (by omega)).mono ?_
  rintro e w1 ⟨A1, c1, rfl, hO, hN⟩
  rw [bs_range _ _ (sec_len (i := i) HC.out.len hi)] at hO
  have HO := Lib.hid hO; clear hO
  have HN := Lib.hid hN; clear hN
  go_wp2_with fail
  go_ret2
  exact ⟨_, _, rfl, HO.out, HN.out⟩
set_option maxRecDepth 100000 in
set_option maxHeartbeats 1000000 in
theorem Read_out (g : Nat) (i : Int) (w : World) (hi : ¬ (0 ≤ i ∧ i < 16)) : Calls Try.prog 40 #[.pointer (some ⟨g, 0, none⟩), .int .i64 i] w fun e w' => e = .returned (.tuple #[.slice none 0 0, .int .i64 2]) ∧ w' = w := by
  have ht : decide (0 ≤ (i : Int) ∧ (i : Int) < 16) = false := by simp only [decide_eq_false_iff_not]; exact hi
  clear hi
  go_enter Try.func40, Try.ntmps40
  go_wp2_with fail
  with_reducible refine (exists_any i w).mono ?_
  rintro e w1 ⟨rfl, hw⟩
  obtain rfl : w = w1 := hw.symm
  clear hw
  rw [ht]
  go_wp2_with fail
  go_ret2
  exact ⟨rfl, rfl⟩

end Go.Proofs.Ytjkpijinpfimiaa
