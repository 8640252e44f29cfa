/-
  The laws' opening look at the document's examples returns true.
-/
import Derived.Test.YtcnnakidpnhecaaStD
namespace Go.Proofs.Ytcnnakidpnhecaa
open Go.RowKit
/-- what Digits comes to where it is no error -/
theorem Digits_ok (n c : Nat) (w : World) (hn : n ≤ 9223372036854775807) (hc1 : 1 ≤ c) (hc2 : c ≤ 18) (h : n < 10 ^ c) :
    Calls Try.prog 12 #[.int .i64 n, .int .i64 c] w fun e w' => ∃ g, e = .returned (.tuple #[.slice (some ⟨g, 0, none⟩) ((c + 1) / 2) ((c + 1) / 2), .int .i64 0]) ∧ w'.ownsRow w.heap.size 5 1 (.slice (some ⟨g, 0, none⟩) ((c + 1) / 2) ((c + 1) / 2)) ((c + 1) / 2) ((dbytes n c ((c + 1) / 2)).map bV) ∧ New w w' := by
  refine (Digits_any n c w hn hc1 hc2).mono ?_
  rintro e w' ⟨hN, hd⟩
  rw [if_pos h] at hd
  obtain ⟨g, he, ho⟩ := hd
  exact ⟨g, he, ho, hN⟩
theorem Digits_big (n c : Nat) (w : World) (hn : n ≤ 9223372036854775807) (hc1 : 1 ≤ c) (hc2 : c ≤ 18) (h : ¬ n < 10 ^ c) :
    Calls Try.prog 12 #[.int .i64 n, .int .i64 c] w fun e w' => e = .returned (.tuple #[.slice none 0 0, .int .i64 2]) ∧ New w w' := by
  refine (Digits_any n c w hn hc1 hc2).mono ?_
  rintro e w' ⟨hN, hd⟩
  rw [if_neg h] at hd
  exact ⟨hd, hN⟩
theorem aw_digits (w : World) : Calls Try.prog 12 #[.int .i64 123, .int .i64 4] w fun e w' => ∃ g, e = .returned (.tuple #[.slice (some ⟨g, 0, none⟩) 2 2, .int .i64 0]) ∧ w'.ownsRow w.heap.size 5 1 (.slice (some ⟨g, 0, none⟩) 2 2) 2 ([1, 35].map bV) ∧ New w w' := by
  have h := Digits_ok 123 4 w (by omega) (by omega) (by omega) (by decide)
  exact h
theorem aw_pack (w : World) (hh : Nat) (he : w.heap.size = hh) : Calls Try.prog 19 #[.slice (some ⟨hh, 0, none⟩) 1 1] (w.alloc (.cells #[.int .i64 1, .int .i64 1] 38)) fun e w' => ∃ A c, e = .returned (.tuple #[.slice A 4 c, .int .i64 0]) ∧ w'.ownsRow w.heap.size 5 1 (.slice A 4 c) 4 ([0, 1, 0, 32].map bV) ∧ New w w' := by
  subst he
  have hH : Has (w.alloc (.cells #[.int .i64 1, .int .i64 1] 38)) w.heap.size 38 #[.int .i64 1, .int .i64 1] := Has.new _ _ _
  refine (Pack_ok (· = w.heap.size) (some ⟨w.heap.size, 0, none⟩) 1 1 (fun _ => 1) (fun _ => 1) _ (fun i hi => by
    obtain rfl : i = 0 := by omega
    exact ⟨_, rfl, rfl, hH.cell 0, hH.cell 1⟩) (fun k hk => by subst hk; simp) (by omega) (fun j hj => by decide)).mono ?_
  rintro e w' ⟨A, c, rfl, hO, hN⟩
  have e1 : pack (stbits (fun _ => 1) (fun _ => 1) 1) = [0, 1, 0, 32] := by decide
  rw [e1] at hO ⊢
  refine ⟨A, c, rfl, own_base hO (fun k hk => ?_), Chg.new_then ((Chg.refl _ _).alloc _) hN⟩
  have := (hO.lt k hk).1
  rw [World.size_alloc] at this
  omega
theorem aw_add (w : World) : Calls Try.prog 23 #[.agg #[.int .i64 0, .int .i64 1439], .int .i64 1] w fun e w' => e = .returned (.tuple #[.agg #[.int .i64 1, .int .i64 0], .int .i64 0]) ∧ New w w' :=
  Add_ok 0 1439 1 w (by decide) (by omega) (by omega)
set_option maxHeartbeats 2000000 in
theorem awake_any (w : World) : Calls Try.prog 11 #[] w fun e w' => e = .returned (.bool true) ∧ New w w' := by
  go_enter Try.func11, Try.ntmps11
  go_wp2_with fail
  refine (aw_digits w).mono ?_
  rintro e w1 ⟨g, rfl, hO1, hN1⟩
  have HO1 := Lib.hid hO1; clear hO1
  have HN1 := Lib.hid hN1; clear hN1
  go_wp2_with fail
  with_reducible refine (aw_pack w1 _ rfl).mono ?_
  rintro e w2 ⟨A2, c2, rfl, hO2, hN2⟩
  have HO2 := Lib.hid hO2; clear hO2
  have HN2 := Lib.hid hN2; clear hN2
  go_wp2_with fail
  with_reducible refine (aw_add w2).mono ?_
  rintro e w3 ⟨rfl, hN3⟩
  have HN3 := Lib.hid hN3; clear hN3
  have hconv1 : ∀ o, (convert 22 9 (.slice (some ⟨g, 0, none⟩) 2 2)).run Try.prog (w3.alloc o) = .ok (.string (bstr [1, 35])) (w3.alloc o) := fun o => own_string Try.underlying22 Try.underlying5 Try.underlying9 (own_new HO1.out (HN2.out.then_new (HN3.out.alloc _)))
  have hconv2 : ∀ o, (convert 22 9 (.slice A2 4 c2)).run Try.prog (w3.alloc o) = .ok (.string (bstr [0, 1, 0, 32])) (w3.alloc o) := fun o => own_string Try.underlying22 Try.underlying5 Try.underlying9 (own_new HO2.out (HN3.out.alloc _))
  have heq1 : ((bstr [1, 35]).toList == [1, 35]) = true := by rw [bstr_list]; decide
  have heq2 : ((bstr [0, 1, 0, 32]).toList == [0, 1, 0, 32]) = true := by rw [bstr_list]; decide
  go_wp2
  go_ret
  exact ⟨rfl, ((HN1.out.then_new HN2.out).then_new HN3.out).alloc _⟩
end Go.Proofs.Ytcnnakidpnhecaa
