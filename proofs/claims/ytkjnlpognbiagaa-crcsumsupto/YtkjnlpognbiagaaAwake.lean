/-
  The laws' opening look at the document's example returns true.
-/
import Derived.Test.YtkjnlpognbiagaaCrcB
namespace Go.Proofs.Ytkjnlpognbiagaa
open Go.RowKit
/-- 123456789 -/
def nine : List Nat := [49, 50, 51, 52, 53, 54, 55, 56, 57]
theorem Byts.of_mark {w : World} {g : Nat} {t : TypeId} {fr : Nat × Nat} {bs : List Nat} (h : w.heap[g]? = some (.cells (bs.map bV).toArray t fr)) (h256 : ∀ x ∈ bs, x < 256) (hb : bs.length ≤ 140737488355328) : Byts w (· = g) (.slice (some ⟨g, 0, none⟩) bs.length bs.length) bs := by
  refine ⟨_, _, rfl, fun i hi => ?_, (fun h => by cases h), h256, hb⟩
  have hadd : (⟨g, 0, none⟩ : Addr).add i = ⟨g, i, none⟩ := by unfold Addr.add; split <;> simp_all
  refine ⟨_, rfl, rfl, ?_⟩
  rw [hadd, Joins.cell_of_block h i]
  simp [hi]
theorem nine_crc : crc 65535 nine = 10673 := by decide +kernel
theorem nine_sealed : sealed nine = [49, 50, 51, 52, 53, 54, 55, 56, 57, 41, 177] := by decide +kernel
/-- the example as the laws lay it: the bytes, and a row of the one slice -/
theorem aw_laid (w : World) (hk hh : Nat) (he : w.heap.size = hk) (hk1 : hk + 1 = hh) :
    Has ((w.alloc (.cells #[.int .u8 49, .int .u8 50, .int .u8 51, .int .u8 52, .int .u8 53, .int .u8 54, .int .u8 55, .int .u8 56, .int .u8 57] 5 (9, 10))).alloc (.cells #[.slice (some ⟨hk, 0, none⟩) 9 9] 22)) hh 22 #[.slice (some ⟨hk, 0, none⟩) 9 9] ∧
    Byts ((w.alloc (.cells #[.int .u8 49, .int .u8 50, .int .u8 51, .int .u8 52, .int .u8 53, .int .u8 54, .int .u8 55, .int .u8 56, .int .u8 57] 5 (9, 10))).alloc (.cells #[.slice (some ⟨hk, 0, none⟩) 9 9] 22)) (· = hk) (.slice (some ⟨hk, 0, none⟩) 9 9) nine := by
  subst he
  subst hk1
  refine ⟨?_, ?_⟩
  · have h := Has.new (w.alloc (.cells #[.int .u8 49, .int .u8 50, .int .u8 51, .int .u8 52, .int .u8 53, .int .u8 54, .int .u8 55, .int .u8 56, .int .u8 57] 5 (9, 10))) 22 #[.slice (some ⟨w.heap.size, 0, none⟩) 9 9]
    rw [World.size_alloc] at h
    exact h
  · refine Byts.of_mark (t := 5) (fr := (9, 10)) (bs := nine) ?_ (by decide) (by decide)
    have h0 := heap_alloc_new w (.cells #[.int .u8 49, .int .u8 50, .int .u8 51, .int .u8 52, .int .u8 53, .int .u8 54, .int .u8 55, .int .u8 56, .int .u8 57] 5 (9, 10))
    exact (Below.heap_alloc _ _ _ (by simp)).trans h0
theorem aw_sum (w : World) (hk hh : Nat) (he : w.heap.size = hk) (hk1 : hk + 1 = hh) :
    Calls Try.prog 10 #[.slice (some ⟨hh, 0, none⟩) 1 1] ((w.alloc (.cells #[.int .u8 49, .int .u8 50, .int .u8 51, .int .u8 52, .int .u8 53, .int .u8 54, .int .u8 55, .int .u8 56, .int .u8 57] 5 (9, 10))).alloc (.cells #[.slice (some ⟨hk, 0, none⟩) 9 9] 22)) fun e w' => e = .returned (.int .i64 10673) ∧ New w w' := by
  obtain ⟨h1, h2⟩ := aw_laid w hk hh he hk1
  refine (Sum_one hh _ _ nine _ h1 h2).mono ?_
  rintro e w' ⟨rfl, rfl⟩
  rw [nine_crc]
  exact ⟨rfl, ((Chg.refl _ _).alloc _).alloc _⟩
theorem aw_seal (w : World) (hk hh : Nat) (he : w.heap.size = hk) (hk1 : hk + 1 = hh) :
    Calls Try.prog 9 #[.slice (some ⟨hh, 0, none⟩) 1 1] ((w.alloc (.cells #[.int .u8 49, .int .u8 50, .int .u8 51, .int .u8 52, .int .u8 53, .int .u8 54, .int .u8 55, .int .u8 56, .int .u8 57] 5 (9, 10))).alloc (.cells #[.slice (some ⟨hk, 0, none⟩) 9 9] 22)) fun e w' => ∃ A c, e = .returned (.slice A 11 c) ∧ w'.ownsRow w.heap.size 5 1 (.slice A 11 c) 11 ([49, 50, 51, 52, 53, 54, 55, 56, 57, 41, 177].map bV) ∧ New w w' := by
  obtain ⟨h1, h2⟩ := aw_laid w hk hh he hk1
  refine (Seal_one hh _ _ nine _ h1 h2 (fun k hk => by subst hk; subst he; simp; omega) (by decide)).mono ?_
  rintro e w' ⟨A, m, c, rfl, rfl, hO, hN⟩
  rw [nine_sealed] at hO
  refine ⟨A, c, rfl, own_base hO (fun k hk => ?_), Chg.new_then (((Chg.refl _ _).alloc _).alloc _) hN⟩
  have := (hO.lt k hk).1
  simp at this
  omega
set_option maxRecDepth 100000 in
set_option maxHeartbeats 2000000 in
theorem awake_any (w : World) : Calls Try.prog 7 #[] w fun e w' => e = .returned (.bool true) ∧ New w w' := by
  have hc1 := Joins.run_convert_bytes_const_at (P := Try.prog) w 22 5 #[.int .u8 49, .int .u8 50, .int .u8 51, .int .u8 52, .int .u8 53, .int .u8 54, .int .u8 55, .int .u8 56, .int .u8 57] 9 9 w.heap.size rfl Try.underlying22 Try.underlying5
  go_enter Try.func7, Try.ntmps7
  go_wp2_with fail
  with_reducible refine (aw_sum w _ _ rfl rfl).mono ?_
  rintro e w1 ⟨rfl, hN1⟩
  have HN1 := Lib.hid hN1; clear hN1
  clear hc1
  have hc2 := Joins.run_convert_bytes_const_at (P := Try.prog) w1 22 5 #[.int .u8 49, .int .u8 50, .int .u8 51, .int .u8 52, .int .u8 53, .int .u8 54, .int .u8 55, .int .u8 56, .int .u8 57] 9 9 w1.heap.size rfl Try.underlying22 Try.underlying5
  go_wp2_with fail
  with_reducible refine (aw_seal w1 _ _ rfl rfl).mono ?_
  rintro e w2 ⟨A, c, rfl, hO2, hN2⟩
  clear hc2
  have hconv : (convert 22 9 (.slice A 11 c)).run Try.prog w2 = .ok (.string (bstr [49, 50, 51, 52, 53, 54, 55, 56, 57, 41, 177])) w2 := own_string Try.underlying22 Try.underlying5 Try.underlying9 hO2
  have heq : ((bstr [49, 50, 51, 52, 53, 54, 55, 56, 57, 41, 177]).toList == [49, 50, 51, 52, 53, 54, 55, 56, 57, 41, 177]) = true := by rw [bstr_list]; decide
  have HN2 := Lib.hid hN2; clear hN2 hO2
  go_wp2
  go_ret
  exact ⟨by simp, HN1.out.then_new HN2.out⟩
end Go.Proofs.Ytkjnlpognbiagaa
