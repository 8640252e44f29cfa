/-
  The document's examples for keys.
-/
import Derived.Test.YtkegafkmcdkphaaKyF
namespace Go.Proofs.Ytkegafkmcdkphaa
open Go.RowKit
def p3 (i : Nat) : Int := if i = 0 then 2 else if i = 1 then 1 else 77
theorem Arr.three {w : World} {g : Nat} {t : TypeId} {x y z : Int} (h : Has w g t #[.int .i64 x, .int .i64 y, .int .i64 z]) : Arr w (· = g) (some ⟨g, 0, none⟩) 3 (fun i => iV (rowK ⟨x, y, z, 0⟩ i)) := fun i hi => by
  obtain ⟨a, ha, hb, hc⟩ := Arr.of_has h (n := 3) (by simp) i hi
  refine ⟨a, ha, hb, hc.trans ?_⟩
  match i, hi with
  | 0, _ => rfl
  | 1, _ => rfl
  | 2, _ => rfl
theorem Kys.one {w : World} {g : Nat} {t : TypeId} {k : Ky} (h : Has w g t #[.int .i64 k.o, .int .i64 k.t, .int .i64 k.c, .int .i64 k.v]) : Kys w (· = g) (some ⟨g, 0, none⟩) 1 (fun _ => k) := fun i hi => by
  obtain rfl : i = 0 := by omega
  exact ⟨_, rfl, rfl, (h.cell 0).trans rfl, (h.cell 1).trans rfl, (h.cell 2).trans rfl, (h.cell 3).trans rfl⟩
theorem frB_one (k a : Ky) : frB k 1 (fun _ => a) = fromB k a := by
  cases h : fromB k a with
  | true => exact frB_yes ⟨((fromB_iff _ _).1 h).1, fun _ _ => h⟩
  | false => exact frB_no fun hh => by have := hh.2 0 (by omega); rw [h] at this; cases this
theorem ex_der : derE ⟨0, 0, 0, 1⟩ 3 (rowK ⟨2, 1, 77, 0⟩) = 0 := by decide
theorem ex_derK : derK ⟨0, 0, 0, 1⟩ 3 (rowK ⟨2, 1, 77, 0⟩) = ⟨2, 1, 77, 1⟩ := by unfold derK; rw [ex_der]; rfl
theorem ex_par : parE ⟨2, 1, 77, 1⟩ = 0 := by decide
theorem ex_parK : parK ⟨2, 1, 77, 1⟩ = ⟨2, 1, 0, 1⟩ := by unfold parK; rw [if_pos (by decide), if_neg (by decide), parR_eq]; rfl
theorem ex_from : fromB ⟨2, 1, 77, 1⟩ ⟨2, 0, 0, 1⟩ = true := by decide
set_option maxRecDepth 100000 in
set_option maxHeartbeats 1000000 in
theorem awake_any (w : World) : Calls Try.prog 8 #[] w fun e w' => e = .returned (.bool true) ∧ New w w' := by
  have HD := Lib.hid (fun w h => Derive_any ⟨0, 0, 0, 1⟩ (some ⟨World.heap w |>.size, 0, none⟩) 3 3 (rowK ⟨2, 1, 77, 0⟩) (· = w.heap.size) (w.alloc (.cells #[.int .i64 2, .int .i64 1, .int .i64 77] 3)) h (fun k hk => by rw [hk]; simp) (by omega))
  rw [ex_der, ex_derK] at HD
  have HP := Lib.hid (Parent_any ⟨2, 1, 77, 1⟩)
  rw [ex_par, ex_parK] at HP
  go_enter Try.func8, Try.ntmps8
  go_wp2_with fail
  with_reducible refine (HD.out w (Arr.three (Has.new w 3 _))).mono ?_
  rintro e w1 ⟨rfl, hN1⟩
  have HN1 := Lib.hid ((((Chg.refl (fun _ => False) w).alloc (.cells #[.int .i64 2, .int .i64 1, .int .i64 77] 3)).then_new hN1).alloc (.cells #[.int .i64 2, .int .i64 1, .int .i64 77, .int .i64 1] 23))
  clear hN1
  go_wp2_with fail
  with_reducible refine (HP.out _).mono ?_
  rintro e w2 ⟨rfl, hN2⟩
  have HB2 := Lib.hid ((Has.new w1 23 #[.int .i64 2, .int .i64 1, .int .i64 77, .int .i64 1]).keep hN2)
  have HN2 := Lib.hid ((HN1.out.then_new hN2).alloc (.cells #[.int .i64 2, .int .i64 1, .int .i64 0, .int .i64 1] 23))
  clear hN2
  have hl := HB2.out.lt
  have c0 : w2.cell? ⟨w1.heap.size, 0, none⟩ = some (.int .i64 2) := (HB2.out.cell 0).trans rfl
  have c1 : w2.cell? ⟨w1.heap.size, 1, none⟩ = some (.int .i64 1) := (HB2.out.cell 1).trans rfl
  have c2 : w2.cell? ⟨w1.heap.size, 2, none⟩ = some (.int .i64 77) := (HB2.out.cell 2).trans rfl
  have c3 : w2.cell? ⟨w1.heap.size, 3, none⟩ = some (.int .i64 1) := (HB2.out.cell 3).trans rfl
  go_wp2_with fail
  have hA := Kys.one (k := ⟨2, 0, 0, 1⟩) (Has.new_at (w2.alloc (.cells #[.int .i64 2, .int .i64 1, .int .i64 0, .int .i64 1] 23)) 23 #[.int .i64 2, .int .i64 0, .int .i64 0, .int .i64 1] (w2.heap.size + 1) (by simp))
  with_reducible refine (From_any ⟨2, 1, 77, 1⟩ _ 1 1 _ _ _ hA (fun k hk => by rw [hk]; simp) (by omega)).mono ?_
  rintro e w3 ⟨rfl, hN3⟩
  rw [frB_one, ex_from]
  go_wp2_with fail
  go_ret
  exact ⟨rfl, (HN2.out.alloc _).then_new hN3⟩
end Go.Proofs.Ytkegafkmcdkphaa
