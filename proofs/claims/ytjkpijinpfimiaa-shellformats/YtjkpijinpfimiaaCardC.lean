/-
  Cards made with a letter for their block; sectors.
-/
import Derived.Test.YtjkpijinpfimiaaCardB
namespace Go.Proofs.Ytjkpijinpfimiaa
open Go.ChangeShapes Go.WideShapes Go.ChangeAt Go.RowKit
theorem Row.apart {w : World} {g k : Nat} {bs B : List Nat} {p : Int} (h : Row w g bs) (c : Cd w k B p) : g ≠ k := Has.apart h c.has (by decide)
theorem NewC (w : World) : Calls Try.prog 26 #[] w fun e w' => ∃ g, e = .returned (.pointer (some ⟨g, 0, none⟩)) ∧ Hid (w.heap.size = g) ∧ Cd w' g nought (-1) ∧ New w w' :=
  (New_any w).mono (by rintro e w' ⟨rfl, rfl⟩; exact ⟨_, rfl, rfl, Cd.fresh w, (Chg.refl _ _).alloc _⟩)
theorem Read_any (g : Nat) (i : Int) (B : List Nat) (p : Int) (w : World) (hC : Cd w g B p) (hi : 0 ≤ i ∧ i < 16) : Calls Try.prog 40 #[.pointer (some ⟨g, 0, none⟩), .int .i64 i] w fun e w' => ∃ A c, e = .returned (.tuple #[.slice A 32 c, .int .i64 0]) ∧ w'.ownsRow w.heap.size 5 1 (.slice A 32 c) 32 ((sec B i.toNat).map bV) ∧ New w w' := by
  obtain ⟨j, rfl⟩ : ∃ j : Nat, i = (j : Int) := ⟨i.toNat, by omega⟩
  rw [Int.toNat_natCast]
  exact Read_in g j B p w hC (by omega)
/-- a sector that was written -/
theorem sec_same {B bs : List Nat} {i : Nat} (hB : B.length = 512) (hi : i < 16) (hb : bs.length = 32) : sec (splice B (32 * i) bs) i = bs := by
  unfold sec splice
  have h1 : (B.take (32 * i)).length = 32 * i := by simp [hB]; omega
  rw [List.drop_append_of_le_length (by omega), List.drop_of_length_le (by omega), List.nil_append, List.take_append_of_le_length (by omega), List.take_of_length_le (by omega)]
/-- a sector beside it -/
theorem sec_other {B bs : List Nat} {i j : Nat} (hB : B.length = 512) (hi : i < 16) (hb : bs.length = 32) (hne : i ≠ j) : sec (splice B (32 * i) bs) j = sec B j := by
  apply List.ext_getElem?
  intro k
  unfold sec splice
  rw [List.getElem?_take, List.getElem?_take]
  by_cases hk : k < 32
  · rw [if_pos hk, if_pos hk, List.getElem?_drop, List.getElem?_drop]
    have h1 : (B.take (32 * i)).length = 32 * i := by simp [hB]; omega
    by_cases hlt : j < i
    · rw [List.getElem?_append_left (by omega), List.getElem?_take, if_pos (by omega)]
    · rw [List.getElem?_append_right (by omega), List.getElem?_append_right (by omega), List.getElem?_drop]
      congr 1
      omega
  · rw [if_neg hk, if_neg hk]

/-- a Write with unlimited power is good just if the sector is there and the bytes are as many as it has -/
theorem wE_free (i : Int) (m : Nat) (p : Int) (hp : p ≠ 0) : wE i m p = 0 ↔ (0 ≤ i ∧ i < 16) ∧ m = 32 := by
  unfold wE
  by_cases h : 0 ≤ i ∧ i < 16
  · rw [if_pos h]
    by_cases hs : szE m 32 = 0
    · rw [if_pos hs, if_neg hp]
      exact ⟨fun _ => ⟨h, szE_zero hs⟩, fun _ => rfl⟩
    · rw [if_neg hs]
      exact ⟨fun k => absurd k hs, fun k => by rw [k.2]; exact szE_same 32⟩
  · rw [if_neg h]
    exact ⟨fun k => (by cases k), fun k => absurd k.1 h⟩
theorem lB_same {B bs : List Nat} (h : bs.length = 512) : lB B bs = bs := by unfold lB; rw [h, szE_same, if_pos rfl]
set_option maxRecDepth 100000 in
theorem slice_row (a k : Nat) (hk : k < 16) (w : World) : (Instr.slice 22 (.slice (some ⟨a, 0, none⟩) 512 512) (some (.int .i64 (32 * (k : Int)))) (some (.int .i64 (32 * (k : Int) + 32))) none).run Try.prog w = .ok (.slice (some ⟨a, 32 * k, none⟩) 32 (512 - 32 * k)) w := by
  have he : Try.prog.elem 22 = 5 := by kernel_rfl
  rw [run_slice_lh w 22 (some ⟨a, 0, none⟩) 512 512 (by rw [he]; exact Try.underlying22) .i64 .i64 _ _ (by omega) (by omega) (by omega), he, Try.size5, Result.andThen_ok]
  have e1 : (32 * (k : Int)).toNat = 32 * k := by omega
  have e2 : (32 * (k : Int) + 32).toNat = 32 * k + 32 := by omega
  have hadd : (⟨a, 0, none⟩ : Addr).add (32 * k * 1) = ⟨a, 32 * k, none⟩ := by unfold Addr.add; split <;> simp_all
  unfold sliced
  rw [e1, e2, if_neg (by omega), Option.map_some, hadd]
  congr 2
  omega
theorem Row.part {w : World} {g k : Nat} {B : List Nat} (h : Row w g B) (hB : B.length = 512) (hk : k < 16) : Arr w (· = g) (some ⟨g, 32 * k, none⟩) 32 (fun i => bV ((sec B k).getD i 0)) := by
  intro i hi
  refine ⟨_, rfl, rfl, ?_⟩
  have hadd : (⟨g, 32 * k, none⟩ : Addr).add i = ⟨g, 32 * k + i, none⟩ := by unfold Addr.add; split <;> simp_all
  have hl : 32 * k + i < B.length := by omega
  rw [hadd, Has.cell h]
  simp [sec, hl, hi]
end Go.Proofs.Ytjkpijinpfimiaa
