/-
  What package keys does: Index, Contains, Level, Parent.
-/
import Derived.Test.YtkegafkmcdkphaaKyA
namespace Go.Proofs.Ytkegafkmcdkphaa
open Go.RowKit
/-- the first place of x among n numbers, or -1 -/
def IdxR (p : Nat → Int) (n : Nat) (x r : Int) : Prop := (∃ i : Nat, i < n ∧ p i = x ∧ (∀ j, j < i → p j ≠ x) ∧ r = (i : Int)) ∨ ((∀ j, j < n → p j ≠ x) ∧ r = -1)
set_option maxRecDepth 100000 in
theorem Index_any (p : Nat → Int) (x : Int) (A : Option Addr) (n c : Nat) (w : World) (F : Nat → Prop) (hA : Arr w F A n (fun i => iV (p i))) (hn : n ≤ 3) :
    Calls Try.prog 28 #[.slice A n c, .int .i64 x] w fun e w' => (∃ r, IdxR p n x r ∧ e = .returned (.int .i64 r)) ∧ w' = w := by
  have HA := Lib.hid hA; clear hA
  go_enter Try.func28, Try.ntmps28
  go_wp2_with fail
  go_loopg [8] n (fun gk i wr => ∃ k : Nat, k ≤ n ∧ gk = n - k ∧ i = .int .i64 k ∧ (∀ j, j < k → p j ≠ x) ∧ wr = w)
  case atStart => exact ⟨0, by omega, by omega, rfl, fun j hj => by omega, rfl⟩
  case round =>
    obtain ⟨k, hk, rfl, rfl, hR, rfl⟩ := hrel
    have HR := Lib.hid hR; clear hR
    by_cases hlt : k < n
    · obtain ⟨a, rfl, _, hc⟩ := HA.out k hlt
      simp only [iV] at hc
      obtain ⟨y, hy⟩ : ∃ y, y = p k := ⟨_, rfl⟩
      rw [← hy] at hc
      obtain ⟨b, hb⟩ : ∃ b, (x == y) = b := ⟨_, rfl⟩
      have Hy := Lib.hid hy; clear hy
      cases b with
      | true =>
        go_wp2_with fail
        go_ret
        refine ⟨⟨_, Or.inl ⟨k, hlt, ?_, HR.out, rfl⟩, rfl⟩, rfl⟩
        rw [← Hy.out]; exact (beq_iff_eq.1 hb).symm
      | false =>
        go_wp2_with fail
        go_roundg (n - (k + 1))
        case measure => omega
        case rel =>
          refine ⟨k + 1, by omega, rfl, by go_num, fun j hj => ?_, rfl⟩
          by_cases hjk : j = k
          · subst hjk; rw [← Hy.out]; exact fun h => beq_eq_false_iff_ne.1 hb h.symm
          · exact HR.out j (by omega)
    · obtain rfl : k = n := by omega
      go_wp2_with fail
      go_ret
      exact ⟨⟨_, Or.inr ⟨HR.out, rfl⟩, rfl⟩, rfl⟩
theorem IdxR.has {p : Nat → Int} {n : Nat} {x r : Int} (h : IdxR p n x r) : decide (0 ≤ r) = decide (∃ i, i < n ∧ p i = x) := by
  rw [decide_eq_decide]
  rcases h with ⟨i, hi, hp, _, rfl⟩ | ⟨h, rfl⟩
  · exact ⟨fun _ => ⟨i, hi, hp⟩, fun _ => by omega⟩
  · exact ⟨fun h0 => by omega, fun ⟨i, hi, hp⟩ => absurd hp (h i hi)⟩
theorem Contains_any (p : Nat → Int) (A : Option Addr) (n c : Nat) (w : World) (F : Nat → Prop) (hA : Arr w F A n (fun i => iV (p i))) (hn : n ≤ 3) :
    Calls Try.prog 22 #[.slice A n c, .int .i64 0] w fun e w' => e = .returned (.bool (zeroB n p)) ∧ w' = w := by
  have HI := Lib.hid (Index_any p 0 A n c w F hA hn); clear hA
  go_enter Try.func22, Try.ntmps22
  go_wp2_with fail
  with_reducible refine HI.out.mono ?_
  rintro e w' ⟨⟨r, hr, rfl⟩, rfl⟩
  go_wp2_with fail
  go_ret
  refine ⟨?_, rfl⟩
  rw [hr.has]
  rfl
theorem idx_lev {k : Ky} {r : Int} (h : IdxR (rowK k) 3 0 r) : (if 0 ≤ r then r else 3) = (lev k : Int) ∧ -1 ≤ r ∧ r ≤ 2 := by
  have e0 := rowK_0 k
  have e1 := rowK_1 k
  have e2 := rowK_2 k
  rcases h with ⟨i, hi, hp, hq, rfl⟩ | ⟨h, rfl⟩
  · rw [if_pos (by omega)]
    have q0 := hq 0
    have q1 := hq 1
    rw [e0] at q0
    rw [e1] at q1
    refine ⟨?_, by omega, by omega⟩
    rcases (show i = 0 ∨ i = 1 ∨ i = 2 by omega) with rfl | rfl | rfl
    · rw [e0] at hp; rw [lev_0 hp]
    · rw [e1] at hp; rw [lev_1 (q0 (by omega)) hp]
    · rw [e2] at hp; rw [lev_2 (q0 (by omega)) (q1 (by omega)) hp]
  · rw [if_neg (by omega)]
    have q0 := h 0 (by omega)
    have q1 := h 1 (by omega)
    have q2 := h 2 (by omega)
    rw [e0] at q0
    rw [e1] at q1
    rw [e2] at q2
    rw [lev_3 q0 q1 q2]
    omega
theorem row_arr {w : World} {g : Nat} {k : Ky} (h : Has w g 49 #[.int .i64 k.o, .int .i64 k.t, .int .i64 k.c]) : Arr w (· = g) (some ⟨g, 0, none⟩) 3 (fun i => iV (rowK k i)) := fun i hi => by
  obtain ⟨a, ha, hb, hc⟩ := Arr.of_has h (n := 3) (by simp) i hi
  refine ⟨a, ha, hb, hc.trans ?_⟩
  match i, hi with
  | 0, _ => rfl
  | 1, _ => rfl
  | 2, _ => rfl
set_option maxRecDepth 100000 in
theorem Level_any (k : Ky) (w : World) : Calls Try.prog 16 #[k.V] w fun e w' => e = .returned (.int .i64 (levI k)) ∧ New w w' := by
  have HC := Lib.hid (Right_any k)
  have HL := Lib.hid (fun (r : Int) => idx_lev (k := k) (r := r))
  have HF := Lib.hid (fieldsOf_any k)
  have HA := Lib.hid (fun (w : World) (g : Nat) => row_arr (w := w) (g := g) (k := k))
  obtain ⟨p, hp⟩ : ∃ p, p = rowK k := ⟨_, rfl⟩
  unfold levI
  rw [← hp] at HL HA
  obtain ⟨l, hl⟩ : ∃ l, l = (lev k : Int) := ⟨_, rfl⟩
  rw [← hl] at HL ⊢
  clear hl hp
  obtain ⟨b, hb⟩ : ∃ b, rightB k = b := ⟨_, rfl⟩
  rw [hb] at HC ⊢
  clear hb
  obtain ⟨o, t, c, v⟩ := k
  go_enter Try.func16, Try.ntmps16
  go_wp2_with fail
  with_reducible refine (HC.out _).mono ?_
  rintro e w1 ⟨rfl, hN⟩
  have HB := Lib.hid ((Has.new w 23 #[.int .i64 o, .int .i64 t, .int .i64 c, .int .i64 v]).keep hN)
  have HN := Lib.hid (((Chg.refl (fun _ => False) w).alloc _).then_new hN)
  clear hN
  have c0 : w1.cell? ⟨w.heap.size, 0, none⟩ = some (.int .i64 o) := (HB.out.cell 0).trans rfl
  have c1 : w1.cell? ⟨w.heap.size, 1, none⟩ = some (.int .i64 t) := (HB.out.cell 1).trans rfl
  have c2 : w1.cell? ⟨w.heap.size, 2, none⟩ = some (.int .i64 c) := (HB.out.cell 2).trans rfl
  have c3 : w1.cell? ⟨w.heap.size, 3, none⟩ = some (.int .i64 v) := (HB.out.cell 3).trans rfl
  cases b with
  | false =>
    go_wp2_with fail
    go_ret
    exact ⟨rfl, HN.out⟩
  | true =>
    go_wp2_with fail
    with_reducible refine (HF.out _).mono ?_
    rintro e w2 ⟨rfl, hN2⟩
    have HN2 := Lib.hid (HN.out.then_new hN2); clear hN2
    go_wp2_with fail
    have HX := Lib.hid (Has.new w2 49 #[.int .i64 o, .int .i64 t, .int .i64 c])
    have HN3 := Lib.hid (HN2.out.alloc (.cells #[.int .i64 o, .int .i64 t, .int .i64 c] 49))
    generalize (w2.alloc (.cells #[.int .i64 o, .int .i64 t, .int .i64 c] 49)) = w3 at HX HN3 ⊢
    with_reducible refine (Index_any p 0 _ 3 3 w3 _ (HA.out w3 _ HX.out) (by omega)).mono ?_
    rintro e w' ⟨⟨r, hr, rfl⟩, rfl⟩
    obtain ⟨h1, h2, h3⟩ := HL.out r hr
    have H1 := Lib.hid h1; clear h1 hr
    by_cases h0 : 0 ≤ r
    · have H2 : Hid (r = l) := by have := H1.out; rw [if_pos h0] at this; exact this
      go_wp2_with fail
      go_ret
      exact ⟨by rw [← H2.out]; rfl, HN3.out⟩
    · have H2 : Hid (3 = l) := by have := H1.out; rw [if_neg h0] at this; exact this
      go_wp2_with fail
      go_ret
      exact ⟨by rw [← H2.out]; rfl, HN3.out⟩
end Go.Proofs.Ytkegafkmcdkphaa
