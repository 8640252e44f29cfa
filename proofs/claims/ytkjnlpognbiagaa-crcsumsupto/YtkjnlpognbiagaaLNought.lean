/-
  What the law CrcNought does: it returns true and turns nothing that was there.
-/
import Derived.Test.YtkjnlpognbiagaaAwake
namespace Go.Proofs.Ytkjnlpognbiagaa
open Go.RowKit
/-- Seal of bytes whose slice was laid in a row of one just before -/
theorem Seal_at (v : Value) (F : Nat → Prop) (bs : List Nat) (w : World) (hh : Nat) (he : w.heap.size = hh) (hv : Byts w F v bs) (hF : ∀ k, F k → k < w.heap.size) (hT : bs.length + 2 ≤ 140737488355328) :
    Calls Try.prog 9 #[.slice (some ⟨hh, 0, none⟩) 1 1] (w.alloc (.cells #[v] 22)) fun e w' => ∃ A' m c', e = .returned (.slice A' m c') ∧ m = bs.length + 2 ∧ w'.ownsRow w.heap.size 5 1 (.slice A' m c') m ((sealed bs).map bV) ∧ New w w' := by
  subst he
  refine (Seal_one w.heap.size v F bs _ (Has.new _ _ _) (hv.new ((Chg.refl _ _).alloc _) hF) (fun k hk => by have := hF k hk; simp; omega) hT).mono ?_
  rintro e w' ⟨A', m, c', rfl, hm, hO, hN⟩
  exact ⟨A', m, c', rfl, hm, own_base hO (fun k hk => by have := (hO.lt k hk).1; simp at this; omega), Chg.new_then ((Chg.refl _ _).alloc _) hN⟩
theorem Sum_at (v : Value) (F : Nat → Prop) (bs : List Nat) (w : World) (hh : Nat) (he : w.heap.size = hh) (hv : Byts w F v bs) (hF : ∀ k, F k → k < w.heap.size) :
    Calls Try.prog 10 #[.slice (some ⟨hh, 0, none⟩) 1 1] (w.alloc (.cells #[v] 22)) fun e w' => e = .returned (.int .i64 (crc 65535 bs : Nat)) ∧ w' = w.alloc (.cells #[v] 22) := by
  subst he
  exact Sum_one w.heap.size v F bs _ (Has.new _ _ _) (hv.new ((Chg.refl _ _).alloc _) hF)
set_option maxRecDepth 100000 in
set_option maxHeartbeats 4000000 in
theorem nought_walk (A : Option Addr) (n c : Nat) (bs : List Nat) (w : World) (hA : Arr w (· < w.heap.size) A n (fun i => bV (bs.getD i 0))) (hl : bs.length = n) (h256 : ∀ x ∈ bs, x < 256) (hnil : A = none → n = 0 ∧ c = 0) (hn : n ≤ 140737488351232) :
    Calls Try.prog 6 #[.slice A n c] w fun e w' => e = .returned (.bool true) ∧ New w w' := by
  have hB : Byts w (· < w.heap.size) (.slice A n c) bs := by
    subst hl; exact ⟨A, c, rfl, hA, hnil, h256, by omega⟩
  have HB := Lib.hid hB; clear hB
  have HA := Lib.hid hA; clear hA
  have Hl := Lib.hid hl; clear hl
  have H256 := Lib.hid h256; clear h256
  have Hnil := Lib.hid hnil; clear hnil
  go_enter Try.func6, Try.ntmps6
  go_wp2_with fail
  with_reducible refine (awake_any _).mono ?_
  rintro e w1 ⟨rfl, hN1⟩
  have HB1 := Lib.hid (HB.out.new hN1 (fun k hk => hk))
  have HF1 := Lib.hid (fun k (hk : k < w.heap.size) => Nat.lt_of_lt_of_le hk hN1.size)
  have HN1 := Lib.hid hN1; clear hN1
  go_wp2_with fail
  with_reducible refine (Seal_at _ _ bs w1 _ rfl HB1.out HF1.out (by rw [Hl.out]; omega)).mono ?_
  rintro e w2 ⟨A2, m2, c2, rfl, hm2, hO2, hN2⟩
  rw [Hl.out] at hm2
  have hs256 := sealed_lt bs H256.out
  have hb2 : m2 ≤ 140737488355328 := by omega
  clear hm2
  have HB2 := Lib.hid (Byts.of_own hO2 hs256 hb2)
  have HF2 := Lib.hid (own_below hO2)
  have HO2 := Lib.hid hO2; clear hO2
  have HN2 := Lib.hid hN2; clear hN2
  have Hs256 := Lib.hid hs256; clear hs256
  go_wp2_with fail
  with_reducible refine (Seal_at _ _ (sealed bs) w2 _ rfl HB2.out HF2.out (by rw [sealed_length, Hl.out]; omega)).mono ?_
  rintro e w3 ⟨A3, m3, c3, rfl, hm3, hO3, hN3⟩
  rw [sealed_length, Hl.out] at hm3
  have hb3 : m3 ≤ 140737488355328 := by omega
  clear hm3
  have HO3 := Lib.hid hO3; clear hO3
  have HN3 := Lib.hid hN3; clear hN3
  go_wp2_with fail
  with_reducible refine (Open_own A3 m3 c3 _ (sealed (sealed bs)) w3 HO3.out (by omega) (sealed_lt _ Hs256.out)).mono ?_
  rw [sealed_openE, sealed_openB]
  rintro e w4 ⟨A4, m4, c4, rfl, hm4, hO4, hN4⟩
  rw [sealed_length, Hl.out] at hm4
  have hb4 : m4 ≤ 140737488355328 := by omega
  clear hm4
  have HO4 := Lib.hid hO4; clear hO4
  have HN4 := Lib.hid hN4; clear hN4
  go_wp2_with fail
  with_reducible refine (Open_own A4 m4 c4 _ (sealed bs) w4 HO4.out (by omega) Hs256.out).mono ?_
  rw [sealed_openE, sealed_openB]
  rintro e w5 ⟨A5, m5, c5, rfl, hm5, hO5, hN5⟩
  clear hm5
  have HO5 := Lib.hid hO5; clear hO5
  have HN5 := Lib.hid hN5; clear hN5
  have HN25 := Lib.hid ((HN3.out.then_new HN4.out).then_new HN5.out)
  have HB25 := Lib.hid (HB2.out.new HN25.out HF2.out)
  have HF25 := Lib.hid (fun k (hk : Value.ownBlock (.slice A2 m2 c2) = some k) => Nat.lt_of_lt_of_le (HF2.out k hk) HN25.out.size)
  go_wp2_with fail
  with_reducible refine (Sum_at _ _ (sealed bs) w5 _ rfl HB25.out HF25.out).mono ?_
  rw [sealed_crc]
  rintro e w6 ⟨rfl, rfl⟩
  have hN15 := Lib.hid (HN2.out.then_new HN25.out)
  have hconv1 : (convert 22 9 (.slice A4 m4 c4)).run Try.prog (w5.alloc (.cells #[.slice A2 m2 c2] 22)) = .ok (.string (bstr (sealed bs))) (w5.alloc (.cells #[.slice A2 m2 c2] 22)) := own_string Try.underlying22 Try.underlying5 Try.underlying9 (own_new HO4.out (HN5.out.alloc _))
  have hconv2 : (convert 22 9 (.slice A2 m2 c2)).run Try.prog (w5.alloc (.cells #[.slice A2 m2 c2] 22)) = .ok (.string (bstr (sealed bs))) (w5.alloc (.cells #[.slice A2 m2 c2] 22)) := own_string Try.underlying22 Try.underlying5 Try.underlying9 (own_new HO2.out (HN25.out.alloc _))
  have hconv3 : (convert 22 9 (.slice A5 m5 c5)).run Try.prog (w5.alloc (.cells #[.slice A2 m2 c2] 22)) = .ok (.string (bstr bs)) (w5.alloc (.cells #[.slice A2 m2 c2] 22)) := own_string Try.underlying22 Try.underlying5 Try.underlying9 (own_new HO5.out ((Chg.refl _ _).alloc _))
  have hconv4 : (convert 22 9 (.slice A n c)).run Try.prog (w5.alloc (.cells #[.slice A2 m2 c2] 22)) = .ok (.string (bstr bs)) (w5.alloc (.cells #[.slice A2 m2 c2] 22)) := arr_string Try.underlying22 Try.underlying5 Try.underlying9 (HA.out.new (((HN1.out.then_new hN15.out)).alloc _) (fun k hk => hk)) Hl.out H256.out Hnil.out
  go_wp2
  go_ret
  exact ⟨by simp, ((HN1.out.then_new hN15.out)).alloc _⟩
theorem nought_law (A : Option Addr) (n c : Nat) {w : World} (h : (∃ bs : List Nat, bs.length = n ∧ Arr w (· < w.heap.size) A n (fun i => bV (bs.getD i 0)) ∧ (∀ x ∈ bs, x < 256) ∧ n ≤ c ∧ c ≤ maxLen ∧ (A = none → n = 0 ∧ c = 0)) ∧ n ≤ 140737488351232) :
    Calls Try.prog 6 #[.slice A n c] w fun e w' => e = .returned (.bool true) ∧ New w w' := by
  obtain ⟨⟨bs, hl, hA, h256, _, _, hnil⟩, hn⟩ := h
  exact nought_walk A n c bs w hA hl h256 hnil hn
end Go.Proofs.Ytkjnlpognbiagaa
