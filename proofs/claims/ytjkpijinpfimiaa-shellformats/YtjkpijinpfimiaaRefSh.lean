/-
  What the document's own small functions of layer 7 come to: sealed, zeros.
-/
import Derived.Test.YtjkpijinpfimiaaShO
import Derived.BigRegion
namespace Go.Proofs.Ytjkpijinpfimiaa
open Go.RowKit
theorem Try.elems22 : Try.prog.elem 22 = 5 := by kernel_rfl
theorem add_zero (a : Addr) : a.add 0 = a := by unfold Addr.add; simp
theorem slice_to (a : Addr) (n c h : Nat) (h2 : h ≤ c) (w : World) : (Instr.slice 22 (.slice (some a) n c) none (some (.int .i64 (h : Int))) none).run Try.prog w = .ok (.slice (some a) h c) w := by
  rw [run_slice_h w 22 (some a) n c (by rw [Try.elems22]; exact Try.underlying22) .i64 _ (by omega) (by omega), Try.elems22, Try.size5, Result.andThen_ok]
  unfold sliced
  rw [Int.toNat_natCast, Option.map_some, Nat.zero_mul, add_zero, Nat.sub_zero, Nat.sub_zero]
  split <;> rfl
theorem slice_cut (a : Addr) (n c l h : Nat) (h1 : l ≤ h) (h2 : h ≤ c) (h3 : l < c) (w : World) : (Instr.slice 22 (.slice (some a) n c) (some (.int .i64 (l : Int))) (some (.int .i64 (h : Int))) none).run Try.prog w = .ok (.slice (some (a.add l)) (h - l) (c - l)) w := by
  rw [run_slice_lh w 22 (some a) n c (by rw [Try.elems22]; exact Try.underlying22) .i64 .i64 _ _ (by omega) (by omega) (by omega), Try.elems22, Try.size5, Result.andThen_ok]
  unfold sliced
  rw [Int.toNat_natCast, Int.toNat_natCast, if_neg (by omega), Option.map_some, Nat.mul_one]
theorem slice_from (a : Addr) (n c l : Nat) (h1 : l ≤ n) (h3 : l < c) (w : World) : (Instr.slice 22 (.slice (some a) n c) (some (.int .i64 (l : Int))) none none).run Try.prog w = .ok (.slice (some (a.add l)) (n - l) (c - l)) w := by
  rw [run_slice_l w 22 (some a) n c (by rw [Try.elems22]; exact Try.underlying22) .i64 _ (by omega) (by omega), Try.elems22, Try.size5, Result.andThen_ok]
  unfold sliced
  rw [Int.toNat_natCast, if_neg (by omega), Option.map_some, Nat.mul_one]
theorem add_add (a : Addr) (l i : Nat) : (a.add l).add i = a.add (l + i) := by
  unfold Addr.add
  by_cases hl : l = 0
  · subst hl; simp
  · by_cases hi : i = 0
    · subst hi; simp
    · rw [if_neg hl, if_neg hi, if_neg (by omega)]
      simp [Nat.add_assoc]
theorem Arr.cut {w : World} {F : Nat → Prop} {a : Addr} {n l m : Nat} {bs : List Nat} (h : Arr w F (some a) n (fun i => bV (bs.getD i 0))) (hm : l + m ≤ n) : Arr w F (some (a.add l)) m (fun i => bV (((bs.drop l).take m).getD i 0)) := by
  intro i hi
  obtain ⟨a', ha, hF, hc⟩ := h (l + i) (by omega)
  cases ha
  refine ⟨_, rfl, by rw [add_block]; exact hF, ?_⟩
  rw [add_add, hc]
  exact congrArg (fun x => some (bV x)) (by rw [List.getD_eq_getElem?_getD, List.getD_eq_getElem?_getD, List.getElem?_take_of_lt hi, List.getElem?_drop])
theorem Arr.take {w : World} {F : Nat → Prop} {A : Option Addr} {n m : Nat} {bs : List Nat} (h : Arr w F A n (fun i => bV (bs.getD i 0))) (hm : m ≤ n) : Arr w F A m (fun i => bV ((bs.take m).getD i 0)) := by
  intro i hi
  obtain ⟨a, rfl, hF, hc⟩ := h i (by omega)
  refine ⟨a, rfl, hF, ?_⟩
  rw [hc]
  exact congrArg (fun x => some (bV x)) (by rw [List.getD_eq_getElem?_getD, List.getD_eq_getElem?_getD, List.getElem?_take_of_lt hi])
set_option maxRecDepth 100000 in
set_option maxHeartbeats 1000000 in
theorem rZeros_any (A : Option Addr) (n c : Nat) (F : Nat → Prop) (bs : List Nat) (w : World) (hA : Arr w F A n (fun i => bV (bs.getD i 0))) (hl : bs.length = n) (hb : n ≤ 1000) :
    Calls Try.prog 37 #[.slice A n c] w fun e w' => e = .returned (.bool (bs.all (· == 0))) ∧ w' = w := by
  have HA := Lib.hid hA; clear hA
  have Hl := Lib.hid hl; clear hl
  go_enter Try.func37, Try.ntmps37
  go_wp2_with fail
  go_loopg [3] n (fun gk i wr => ∃ k : Nat, k ≤ n ∧ gk = n - k ∧ i = .int .i64 k ∧ (bs.take k).all (· == 0) = true ∧ w = wr)
  case atStart => exact ⟨0, by omega, by omega, rfl, by simp, rfl⟩
  case round =>
    obtain ⟨k, hk, rfl, rfl, hz, rfl⟩ := hrel
    have Hz := Lib.hid hz; clear hz
    by_cases hlt : k < n
    · obtain ⟨a, rfl, _, hc⟩ := HA.out k hlt
      obtain ⟨y, hy⟩ : ∃ y, y = bs.getD k 0 := ⟨_, rfl⟩
      replace hc : w.cell? (a.add k) = some (.int .u8 (y : Int)) := by rw [hy]; exact hc
      have Hy := Lib.hid hy; clear hy
      by_cases h0 : y = 0
      · subst h0
        go_wp2_with fail
        go_roundg (n - (k + 1))
        case measure => omega
        case rel =>
          refine ⟨k + 1, by omega, rfl, by go_num, ?_, rfl⟩
          have hkl : k < bs.length := by rw [Hl.out]; exact hlt
          have hy := Hy.out
          rw [List.getD_eq_getElem?_getD, List.getElem?_eq_getElem hkl, Option.getD_some] at hy
          rw [List.take_add_one, List.all_append, Hz.out, List.getElem?_eq_getElem hkl, ← hy]
          rfl
      · have t0 : ((y : Int) == 0) = false := by simp; omega
        have t1 : ((y : Int) != 0) = true := by simp; omega
        go_wp2_with fail
        go_ret
        refine ⟨?_, rfl⟩
        have hkl : k < bs.length := by rw [Hl.out]; exact hlt
        have hy := Hy.out
        rw [List.getD_eq_getElem?_getD, List.getElem?_eq_getElem hkl, Option.getD_some] at hy
        have : bs.all (· == 0) = false := by
          rw [List.all_eq_false]
          exact ⟨bs[k], List.getElem_mem hkl, by rw [← hy]; simpa using h0⟩
        rw [this]
        rfl
    · obtain rfl : k = n := by omega
      go_wp2_with fail
      go_ret
      refine ⟨?_, rfl⟩
      have := Hz.out
      rw [List.take_of_length_le (by rw [Hl.out]; omega)] at this
      rw [this]
      rfl
theorem sum_bool {s x y : Nat} (bs : List Nat) (hs : s = crc 65535 (bs.take 30)) (hx : x = bs.getD 30 0) (hy : y = bs.getD 31 0) : ((s : Int) == (x : Int) * 256 + (y : Int)) = sumOk bs := by
  unfold sumOk
  rw [← hs, ← hx, ← hy]
  by_cases h : s = x * 256 + y
  · rw [decide_eq_true h, beq_iff_eq]; omega
  · rw [decide_eq_false h, beq_eq_false_iff_ne]; omega
set_option maxRecDepth 100000 in
set_option maxHeartbeats 2000000 in
theorem rSealed_any (a : Addr) (c : Nat) (F : Nat → Prop) (bs : List Nat) (w : World) (hA : Arr w F (some a) 32 (fun i => bV (bs.getD i 0))) (hF : ∀ k, F k → k < w.heap.size) (hl : bs.length = 32) (hb : ∀ x ∈ bs, x < 256) (hc : 32 ≤ c) :
    Calls Try.prog 36 #[.slice (some a) 32 c] w fun e w' => e = .returned (.bool (sumOk bs)) ∧ New w w' := by
  obtain ⟨s, hs⟩ : ∃ s, s = crc 65535 (bs.take 30) := ⟨_, rfl⟩
  have hsl : s < 65536 := by rw [hs]; exact crc_lt _ _ (by omega)
  have HR : Hid (∀ nq, Calls Try.prog 53 #[.slice (some a) 30 c] (w.drewN nq) fun e w' => e = .returned (.int .i64 (s : Int)) ∧ w' = w.drewN nq) := fun nq => by
    rw [hs]
    exact refSum_any (some a) 30 c F (bs.take 30) _ ((Arr.take hA (by omega)).new ((Chg.refl _ _).drewN nq) hF) (by simp [hl]) (fun x hx => hb x (List.mem_of_mem_take hx)) (by omega)
  obtain ⟨x, hx⟩ : ∃ x, x = bs.getD 30 0 := ⟨_, rfl⟩
  obtain ⟨y, hy⟩ : ∃ y, y = bs.getD 31 0 := ⟨_, rfl⟩
  have hx256 : x < 256 := by rw [hx]; exact getD_lt bs hb 30
  have hy256 : y < 256 := by rw [hy]; exact getD_lt bs hb 31
  have h30 : w.cell? ⟨a.block, a.off + 30, none⟩ = some (.int .u8 (x : Int)) := by
    obtain ⟨a', ha, _, h⟩ := hA 30 (by omega)
    cases ha
    rw [hx]; exact h
  have h31 : w.cell? ⟨a.block, a.off + 31, none⟩ = some (.int .u8 (y : Int)) := by
    obtain ⟨a', ha, _, h⟩ := hA 31 (by omega)
    cases ha
    rw [hy]; exact h
  have HE := Lib.hid (sum_bool bs hs hx hy)
  clear hs hx hy hA hF hb hl
  have hsl : ∀ wy, (Instr.slice 22 (.slice (some a) 32 c) none (some (.int .i64 30)) none).run Try.prog wy = .ok (.slice (some a) 30 c) wy := fun wy => slice_to a 32 c 30 (by omega) wy
  go_enter Try.func36, Try.ntmps36
  go_upto_region 1 with (fail)
  go_quiet (first | (go_at_call 53; exact Calls.quiet_of_same (HR.out _)))
  go_wp2_with fail
  go_ret
  exact ⟨by rw [← HE.out]; rfl, (Chg.refl _ _).drewN _⟩
end Go.Proofs.Ytjkpijinpfimiaa
