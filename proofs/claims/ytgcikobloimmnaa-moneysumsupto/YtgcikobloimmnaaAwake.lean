/-
  The laws' opening look at the document's examples returns true.
-/
import Derived.Test.YtgcikobloimmnaaMonC
namespace Go.Proofs.Ytgcikobloimmnaa
open Go.RowKit
def awX : Nat → Int := fun i => [1, 1, 1].getD i 0
def awY : Nat → Int := fun i => [1, -1, 7].getD i 0
theorem aw_fine : Fine 10 awX 3 := by
  refine ⟨by decide, by decide, by decide, fun i hi => ?_, by decide⟩
  rcases (show i = 0 ∨ i = 1 ∨ i = 2 by omega) with rfl | rfl | rfl <;> decide
theorem aw_spl : spl 10 awX 3 0 = 4 ∧ spl 10 awX 3 1 = 3 ∧ spl 10 awX 3 2 = 3 := by decide
theorem aw_acc : acc awY 3 = some 7 := by decide
theorem aw_split (w : World) : Calls Try.prog 13 #[.int .i64 10, .slice (some ⟨w.heap.size, 0, none⟩) 3 3] (w.alloc (.cells #[.int .i64 1, .int .i64 1, .int .i64 1] 3)) fun e w' =>
    ∃ g, e = .returned (.tuple #[.slice (some ⟨g, 0, none⟩) 3 3, .int .i64 0]) ∧ w'.cell? ⟨g, 0, none⟩ = some (.int .i64 4) ∧ w'.cell? ⟨g, 1, none⟩ = some (.int .i64 3) ∧ w'.cell? ⟨g, 2, none⟩ = some (.int .i64 3) ∧ New w w' := by
  have hA := arr_has (xs := [1, 1, 1]) (Has.new w 3 #[.int .i64 1, .int .i64 1, .int .i64 1])
  refine (Split_ok 10 _ 3 3 _ awX _ hA (fun k hk => by subst hk; simp) aw_fine).mono ?_
  rintro e w' ⟨g, rfl, hO, hN⟩
  refine ⟨g, rfl, ?_, ?_, ?_, ?_⟩
  · rw [row_cell hO (by decide), aw_spl.1]
  · rw [row_cell hO (by decide), aw_spl.2.1]
  · rw [row_cell hO (by decide), aw_spl.2.2]
  · exact ((Chg.refl _ _).alloc _).then_new hN
theorem aw_sum (w : World) : Calls Try.prog 10 #[.slice (some ⟨w.heap.size, 0, none⟩) 3 3] (w.alloc (.cells #[.int .i64 1, .int .i64 (-1), .int .i64 7] 3)) fun e w' =>
    e = .returned (.tuple #[.int .i64 7, .int .i64 0]) ∧ w' = w.alloc (.cells #[.int .i64 1, .int .i64 (-1), .int .i64 7] 3) := by
  have hA := arr_has (xs := [1, -1, 7]) (Has.new w 3 #[.int .i64 1, .int .i64 (-1), .int .i64 7])
  refine (Sum_any _ 3 3 _ awY _ hA (by decide) (fun i hi => ?_)).mono ?_
  · rcases (show i = 0 ∨ i = 1 ∨ i = 2 by omega) with rfl | rfl | rfl <;> exact ⟨by decide, by decide⟩
  · rintro e w' ⟨rfl, rfl⟩
    rw [aw_acc]
    exact ⟨rfl, rfl⟩
set_option maxRecDepth 100000 in
set_option maxHeartbeats 2000000 in
theorem awake_any (w : World) : Calls Try.prog 9 #[] w fun e w' => e = .returned (.bool true) ∧ New w w' := by
  go_enter Try.func9, Try.ntmps9
  go_wp2_with fail
  with_reducible refine (aw_split w).mono ?_
  rintro e w1 ⟨g, rfl, c0, c1, c2, hN⟩
  have hg : g < w1.heap.size := World.block_lt_of_cell? _ _ c0
  have HN := Lib.hid hN; clear hN
  go_wp2_with fail
  with_reducible refine (aw_sum w1).mono ?_
  rintro e w2 ⟨rfl, rfl⟩
  go_wp2_with fail
  go_ret
  exact ⟨rfl, HN.out.alloc _⟩
end Go.Proofs.Ytgcikobloimmnaa
