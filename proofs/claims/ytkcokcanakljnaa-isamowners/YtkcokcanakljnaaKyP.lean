/-
  What package keys does, function by function: within, Right, fieldsOf, Index, Level, Product.
-/
import Derived.Test.YtkcokcanakljnaaIqB
namespace Go.Proofs.Ytkcokcanakljnaa
open Go.RowKit
structure Ky where
  o : Int
  t : Int
  c : Int
  v : Int
theorem Ky.eq {k l : Ky} (h0 : k.o = l.o) (h1 : k.t = l.t) (h2 : k.c = l.c) (h3 : k.v = l.v) : k = l := by
  cases k; cases l; simp_all
def KRight (k : Ky) : Prop := (0 ≤ k.o ∧ k.o ≤ 4) ∧ (0 ≤ k.t ∧ k.t ≤ 4) ∧ (0 ≤ k.c ∧ k.c ≤ 65535) ∧ (1 ≤ k.v ∧ k.v ≤ 255) ∧ (k.o = 0 → k.t = 0) ∧ (k.t = 0 → k.c = 0)
instance (k : Ky) : Decidable (KRight k) := by unfold KRight; infer_instance
def rightB (k : Ky) : Bool := decide (KRight k)
theorem rightB_yes {k : Ky} (h : rightB k = true) : KRight k := of_decide_eq_true h
theorem rightB_no {k : Ky} (h : rightB k = false) : ¬ KRight k := of_decide_eq_false h
/-- how many of its numbers are not 0, from the root on -/
def lev (k : Ky) : Nat := if k.o = 0 then 0 else if k.t = 0 then 1 else if k.c = 0 then 2 else 3
def levI (k : Ky) : Int := if rightB k = true then (lev k : Int) else -1
theorem lev_le (k : Ky) : lev k ≤ 3 := by unfold lev; split <;> first | omega | (split <;> first | omega | (split <;> omega))
theorem lev_ways {k : Ky} (h : KRight k) : (lev k = 0 ∧ k.o = 0 ∧ k.t = 0 ∧ k.c = 0) ∨ (lev k = 1 ∧ k.o ≠ 0 ∧ k.t = 0 ∧ k.c = 0) ∨ (lev k = 2 ∧ k.o ≠ 0 ∧ k.t ≠ 0 ∧ k.c = 0) ∨ (lev k = 3 ∧ k.o ≠ 0 ∧ k.t ≠ 0 ∧ k.c ≠ 0) := by
  obtain ⟨_, _, _, _, h5, h6⟩ := h
  by_cases a0 : k.o = 0
  · exact Or.inl ⟨by simp [lev, a0], a0, h5 a0, h6 (h5 a0)⟩
  by_cases a1 : k.t = 0
  · exact Or.inr (Or.inl ⟨by simp [lev, a0, a1], a0, a1, h6 a1⟩)
  by_cases a2 : k.c = 0
  · exact Or.inr (Or.inr (Or.inl ⟨by simp [lev, a0, a1, a2], a0, a1, a2⟩))
  · exact Or.inr (Or.inr (Or.inr ⟨by simp [lev, a0, a1, a2], a0, a1, a2⟩))
theorem lev_0 {k : Ky} (h : k.o = 0) : lev k = 0 := by simp [lev, h]
theorem lev_1 {k : Ky} (h : k.o ≠ 0) (h1 : k.t = 0) : lev k = 1 := by simp [lev, h, h1]
theorem lev_2 {k : Ky} (h : k.o ≠ 0) (h1 : k.t ≠ 0) (h2 : k.c = 0) : lev k = 2 := by simp [lev, h, h1, h2]
theorem lev_3 {k : Ky} (h : k.o ≠ 0) (h1 : k.t ≠ 0) (h2 : k.c ≠ 0) : lev k = 3 := by simp [lev, h, h1, h2]
/-- its numbers as a row -/
def rowK (k : Ky) (i : Nat) : Int := if i = 0 then k.o else if i = 1 then k.t else k.c
/-- a key by its row -/
def keyR (f : Nat → Int) (v : Int) : Ky := ⟨f 0, f 1, f 2, v⟩
def kz : Ky := ⟨0, 0, 0, 0⟩
theorem rowK_0 (k : Ky) : rowK k 0 = k.o := rfl
theorem rowK_1 (k : Ky) : rowK k 1 = k.t := rfl
theorem rowK_2 (k : Ky) : rowK k 2 = k.c := rfl
/-- a key as a value -/
abbrev Ky.V (k : Ky) : Value := .agg #[.int .i64 k.o, .int .i64 k.t, .int .i64 k.c, .int .i64 k.v]
theorem kwithin_any (n a b : Int) (w : World) :
    Calls Try.prog 107 #[.int .i64 n, .int .i64 a, .int .i64 b] w fun e w' => e = .returned (.bool (decide (a ≤ n) && decide (n ≤ b))) ∧ w' = w := by
  by_cases h0 : a ≤ n
  · have h0' : decide (a ≤ n) = true := decide_eq_true h0
    go_enter Try.func107, Try.ntmps107
    go_wp2
    go_ret
    first | exact ⟨rfl, rfl⟩ | (rw [h0', Bool.true_and]; exact ⟨rfl, rfl⟩)
  · have h0' : decide (a ≤ n) = false := decide_eq_false h0
    go_enter Try.func107, Try.ntmps107
    go_wp2
    go_ret
    exact ⟨rfl, rfl⟩
def inB (n a b : Int) : Bool := decide (a ≤ n) && decide (n ≤ b)
theorem inB_iff (n a b : Int) : inB n a b = true ↔ a ≤ n ∧ n ≤ b := by unfold inB; simp
/-- the four tests and the two together -/
theorem right_tests (k : Ky) : rightB k = (!((k.o == 0 && k.t != 0) || (k.t == 0 && k.c != 0)) && (inB k.v 1 255 && inB k.o 0 4 && inB k.t 0 4 && inB k.c 0 65535)) := by
  rw [Bool.eq_iff_iff]
  rw [show (rightB k = true ↔ KRight k) from decide_eq_true_iff]
  unfold KRight
  simp only [Bool.and_eq_true, Bool.not_eq_true', Bool.or_eq_false_iff, Bool.and_eq_false_iff, inB_iff, beq_eq_false_iff_ne, bne_eq_false_iff_eq, ne_eq]
  omega
set_option maxRecDepth 100000 in
theorem kRight_any (k : Ky) (w : World) : Calls Try.prog 103 #[k.V] w fun e w' => e = .returned (.bool (rightB k)) ∧ New w w' := by
  rw [right_tests]
  have HV := Lib.hid (fun w => kwithin_any k.v 1 255 w)
  have HO := Lib.hid (fun w => kwithin_any k.o 0 4 w)
  have HT := Lib.hid (fun w => kwithin_any k.t 0 4 w)
  have HC := Lib.hid (fun w => kwithin_any k.c 0 65535 w)
  change Hid (∀ w, Calls Try.prog 107 _ w fun e w' => e = .returned (.bool (inB k.v 1 255)) ∧ w' = w) at HV
  change Hid (∀ w, Calls Try.prog 107 _ w fun e w' => e = .returned (.bool (inB k.o 0 4)) ∧ w' = w) at HO
  change Hid (∀ w, Calls Try.prog 107 _ w fun e w' => e = .returned (.bool (inB k.t 0 4)) ∧ w' = w) at HT
  change Hid (∀ w, Calls Try.prog 107 _ w fun e w' => e = .returned (.bool (inB k.c 0 65535)) ∧ w' = w) at HC
  generalize inB k.v 1 255 = bv at HV ⊢
  generalize inB k.o 0 4 = bo at HO ⊢
  generalize inB k.t 0 4 = bt at HT ⊢
  generalize inB k.c 0 65535 = bc at HC ⊢
  obtain ⟨o, t, c, v⟩ := k
  simp only at HV HO HT HC ⊢
  obtain ⟨b0, h0⟩ : ∃ b, (o == 0) = b := ⟨_, rfl⟩
  obtain ⟨b1, h1⟩ : ∃ b, (t == 0) = b := ⟨_, rfl⟩
  obtain ⟨b2, h2⟩ : ∃ b, (c != 0) = b := ⟨_, rfl⟩
  have h1' : (t != 0) = !b1 := by rw [bne, h1]
  rw [h0, h1, h2, h1']
  cases b0 <;> cases b1 <;> cases b2 <;> simp only [Bool.not_true, Bool.not_false] at h1'
  all_goals
    go_enter Try.func103, Try.ntmps103
    go_wp2_with fail
    first
    | (go_ret; exact ⟨rfl, (Chg.refl _ _).alloc _⟩)
    | (with_reducible refine (HV.out _).mono ?_
       rintro e w' ⟨rfl, rfl⟩
       cases bv with
       | false => (go_wp2_with fail; go_ret; exact ⟨rfl, (Chg.refl _ _).alloc _⟩)
       | true =>
         go_wp2_with fail
         with_reducible refine (HO.out _).mono ?_
         rintro e w' ⟨rfl, rfl⟩
         cases bo with
         | false => (go_wp2_with fail; go_ret; exact ⟨rfl, (Chg.refl _ _).alloc _⟩)
         | true =>
           go_wp2_with fail
           with_reducible refine (HT.out _).mono ?_
           rintro e w' ⟨rfl, rfl⟩
           cases bt with
           | false => (go_wp2_with fail; go_ret; exact ⟨rfl, (Chg.refl _ _).alloc _⟩)
           | true =>
             go_wp2_with fail
             with_reducible refine (HC.out _).mono ?_
             rintro e w' ⟨rfl, rfl⟩
             go_wp2_with fail
             go_ret
             exact ⟨rfl, (Chg.refl _ _).alloc _⟩)
theorem fieldsOf_any (k : Ky) (w : World) : Calls Try.prog 104 #[k.V] w fun e w' => e = .returned (.agg #[.int .i64 k.o, .int .i64 k.t, .int .i64 k.c]) ∧ New w w' := by
  obtain ⟨o, t, c, v⟩ := k
  go_enter Try.func104, Try.ntmps104
  go_wp2_with fail
  have hX := Has.new_at (w.alloc (.cells #[.int .i64 o, .int .i64 t, .int .i64 c, .int .i64 v] 123)) 175 #[.int .i64 o, .int .i64 t, .int .i64 c] (w.heap.size + 1) (by simp)
  have hN : New w (((w.alloc (.cells #[.int .i64 o, .int .i64 t, .int .i64 c, .int .i64 v] 123)).alloc (.cells #[.int .i64 o, .int .i64 t, .int .i64 c] 175))) := ((Chg.refl _ w).alloc _).alloc _
  generalize ((w.alloc (.cells #[.int .i64 o, .int .i64 t, .int .i64 c, .int .i64 v] 123)).alloc (.cells #[.int .i64 o, .int .i64 t, .int .i64 c] 175)) = wX at hX hN ⊢
  have g0 := (hX.cell 0).trans rfl
  have g1 := (hX.cell 1).trans rfl
  have g2 := (hX.cell 2).trans rfl
  refine bodyPost_ret (v := .agg #[.int .i64 o, .int .i64 t, .int .i64 c]) (by simp [results, Try.results104, go_sem, g0, g1, g2]) rfl ?_
  exact ⟨rfl, hN⟩
theorem setK {w : World} {g : Nat} {y0 y1 y2 y3 : Value} (h : Has w g 123 #[y0, y1, y2, y3]) (x0 x1 x2 x3 : Value) :
    Has ((((w.setCell ⟨g, 0, none⟩ x0).setCell ⟨g, 1, none⟩ x1).setCell ⟨g, 2, none⟩ x2).setCell ⟨g, 3, none⟩ x3) g 123 #[x0, x1, x2, x3] ∧
      Chg (· = g) w ((((w.setCell ⟨g, 0, none⟩ x0).setCell ⟨g, 1, none⟩ x1).setCell ⟨g, 2, none⟩ x2).setCell ⟨g, 3, none⟩ x3) := by
  refine ⟨?_, ?_⟩
  · have := (((h.set 0 x0).set 1 x1).set 2 x2).set 3 x3
    simpa using this
  · exact Chg.setCell (S := (· = g)) (Chg.setCell (S := (· = g)) (Chg.setCell (S := (· = g)) (Chg.setCell (S := (· = g)) (Chg.refl _ _) (fun _ => rfl) _) (fun _ => rfl) _) (fun _ => rfl) _) (fun _ => rfl) _
theorem New.set {w w' wX : World} {g : Nat} (hN : New w w') (hG : Chg (· = g) w' wX) (hg : w.heap.size ≤ g) : New w wX := hN.trans hG fun i hi h => by omega
/-- the first place of x among n numbers, or -1 -/
def IdxR (p : Nat → Int) (n : Nat) (x r : Int) : Prop := (∃ i : Nat, i < n ∧ p i = x ∧ (∀ j, j < i → p j ≠ x) ∧ r = (i : Int)) ∨ ((∀ j, j < n → p j ≠ x) ∧ r = -1)
set_option maxRecDepth 100000 in
theorem Index_any (p : Nat → Int) (x : Int) (A : Option Addr) (n c : Nat) (w : World) (F : Nat → Prop) (hA : Arr w F A n (fun i => iV (p i))) (hn : n ≤ 3) :
    Calls Try.prog 105 #[.slice A n c, .int .i64 x] w fun e w' => (∃ r, IdxR p n x r ∧ e = .returned (.int .i64 r)) ∧ w' = w := by
  have HA := Lib.hid hA; clear hA
  go_enter Try.func105, Try.ntmps105
  go_wp2_with fail
  go_loopg [8] n (fun gk i wr => ∃ k : Nat, k ≤ n ∧ gk = n - k ∧ i = .int .i64 k ∧ (∀ j, j < k → p j ≠ x) ∧ wr = w)
  case atStart => exact ⟨0, by omega, by omega, rfl, fun j hj => by omega, rfl⟩
  case round =>
    obtain ⟨k, hk, rfl, rfl, hR, rfl⟩ := hrel
    have HR := Lib.hid hR; clear hR
    by_cases hlt : k < n
    · obtain ⟨a, rfl, _, hc⟩ := HA.out k hlt
      simp only [iV] at hc
      obtain ⟨y, hy⟩ : ∃ y, y = p k := ⟨_, rfl⟩
      rw [← hy] at hc
      obtain ⟨b, hb⟩ : ∃ b, (x == y) = b := ⟨_, rfl⟩
      have Hy := Lib.hid hy; clear hy
      cases b with
      | true =>
        go_wp2_with fail
        go_ret
        refine ⟨⟨_, Or.inl ⟨k, hlt, ?_, HR.out, rfl⟩, rfl⟩, rfl⟩
        rw [← Hy.out]; exact (beq_iff_eq.1 hb).symm
      | false =>
        go_wp2_with fail
        go_roundg (n - (k + 1))
        case measure => omega
        case rel =>
          refine ⟨k + 1, by omega, rfl, by go_num, fun j hj => ?_, rfl⟩
          by_cases hjk : j = k
          · subst hjk; rw [← Hy.out]; exact fun h => beq_eq_false_iff_ne.1 hb h.symm
          · exact HR.out j (by omega)
    · obtain rfl : k = n := by omega
      go_wp2_with fail
      go_ret
      exact ⟨⟨_, Or.inr ⟨HR.out, rfl⟩, rfl⟩, rfl⟩
theorem idx_lev {k : Ky} {r : Int} (h : IdxR (rowK k) 3 0 r) : (if 0 ≤ r then r else 3) = (lev k : Int) ∧ -1 ≤ r ∧ r ≤ 2 := by
  have e0 := rowK_0 k
  have e1 := rowK_1 k
  have e2 := rowK_2 k
  rcases h with ⟨i, hi, hp, hq, rfl⟩ | ⟨h, rfl⟩
  · rw [if_pos (by omega)]
    have q0 := hq 0
    have q1 := hq 1
    rw [e0] at q0
    rw [e1] at q1
    refine ⟨?_, by omega, by omega⟩
    rcases (show i = 0 ∨ i = 1 ∨ i = 2 by omega) with rfl | rfl | rfl
    · rw [e0] at hp; rw [lev_0 hp]
    · rw [e1] at hp; rw [lev_1 (q0 (by omega)) hp]
    · rw [e2] at hp; rw [lev_2 (q0 (by omega)) (q1 (by omega)) hp]
  · rw [if_neg (by omega)]
    have q0 := h 0 (by omega)
    have q1 := h 1 (by omega)
    have q2 := h 2 (by omega)
    rw [e0] at q0
    rw [e1] at q1
    rw [e2] at q2
    rw [lev_3 q0 q1 q2]
    omega
theorem row_arr {w : World} {g : Nat} {k : Ky} (h : Has w g 175 #[.int .i64 k.o, .int .i64 k.t, .int .i64 k.c]) : Arr w (· = g) (some ⟨g, 0, none⟩) 3 (fun i => iV (rowK k i)) := fun i hi => by
  obtain ⟨a, ha, hb, hc⟩ := Arr.of_has h (n := 3) (by simp) i hi
  refine ⟨a, ha, hb, hc.trans ?_⟩
  match i, hi with
  | 0, _ => rfl
  | 1, _ => rfl
  | 2, _ => rfl
set_option maxRecDepth 100000 in
theorem Level_any (k : Ky) (w : World) : Calls Try.prog 99 #[k.V] w fun e w' => e = .returned (.int .i64 (levI k)) ∧ New w w' := by
  have HC := Lib.hid (kRight_any k)
  have HL := Lib.hid (fun (r : Int) => idx_lev (k := k) (r := r))
  have HF := Lib.hid (fieldsOf_any k)
  have HA := Lib.hid (fun (w : World) (g : Nat) => row_arr (w := w) (g := g) (k := k))
  obtain ⟨p, hp⟩ : ∃ p, p = rowK k := ⟨_, rfl⟩
  unfold levI
  rw [← hp] at HL HA
  obtain ⟨l, hl⟩ : ∃ l, l = (lev k : Int) := ⟨_, rfl⟩
  rw [← hl] at HL ⊢
  clear hl hp
  obtain ⟨b, hb⟩ : ∃ b, rightB k = b := ⟨_, rfl⟩
  rw [hb] at HC ⊢
  clear hb
  obtain ⟨o, t, c, v⟩ := k
  go_enter Try.func99, Try.ntmps99
  go_wp2_with fail
  with_reducible refine (HC.out _).mono ?_
  rintro e w1 ⟨rfl, hN⟩
  have HB := Lib.hid ((Has.new w 123 #[.int .i64 o, .int .i64 t, .int .i64 c, .int .i64 v]).keep hN)
  have HN := Lib.hid (((Chg.refl (fun _ => False) w).alloc _).then_new hN)
  clear hN
  have c0 : w1.cell? ⟨w.heap.size, 0, none⟩ = some (.int .i64 o) := (HB.out.cell 0).trans rfl
  have c1 : w1.cell? ⟨w.heap.size, 1, none⟩ = some (.int .i64 t) := (HB.out.cell 1).trans rfl
  have c2 : w1.cell? ⟨w.heap.size, 2, none⟩ = some (.int .i64 c) := (HB.out.cell 2).trans rfl
  have c3 : w1.cell? ⟨w.heap.size, 3, none⟩ = some (.int .i64 v) := (HB.out.cell 3).trans rfl
  cases b with
  | false =>
    go_wp2_with fail
    go_ret
    exact ⟨rfl, HN.out⟩
  | true =>
    go_wp2_with fail
    with_reducible refine (HF.out _).mono ?_
    rintro e w2 ⟨rfl, hN2⟩
    have HN2 := Lib.hid (HN.out.then_new hN2); clear hN2
    go_wp2_with fail
    have HX := Lib.hid (Has.new w2 175 #[.int .i64 o, .int .i64 t, .int .i64 c])
    have HN3 := Lib.hid (HN2.out.alloc (.cells #[.int .i64 o, .int .i64 t, .int .i64 c] 175))
    generalize (w2.alloc (.cells #[.int .i64 o, .int .i64 t, .int .i64 c] 175)) = w3 at HX HN3 ⊢
    with_reducible refine (Index_any p 0 _ 3 3 w3 _ (HA.out w3 _ HX.out) (by omega)).mono ?_
    rintro e w' ⟨⟨r, hr, rfl⟩, rfl⟩
    obtain ⟨h1, h2, h3⟩ := HL.out r hr
    have H1 := Lib.hid h1; clear h1 hr
    by_cases h0 : 0 ≤ r
    · have H2 : Hid (r = l) := by have := H1.out; rw [if_pos h0] at this; exact this
      go_wp2_with fail
      go_ret
      exact ⟨by rw [← H2.out]; rfl, HN3.out⟩
    · have H2 : Hid (3 = l) := by have := H1.out; rw [if_neg h0] at this; exact this
      go_wp2_with fail
      go_ret
      exact ⟨by rw [← H2.out]; rfl, HN3.out⟩
def proE (k : Ky) : Int := if levI k = 3 then 0 else 2
def proK (k : Ky) : Ky := if levI k = 3 then k else kz
/-- a product as a value -/
abbrev PrV (x0 x1 x2 x3 x4 x5 x6 x7 x9 x10 x11 x12 : Int) (x8 x13 : Bool) : Value := .agg #[.int .i64 x0, .int .i64 x1, .int .i64 x2, .int .i64 x3, .int .i64 x4, .int .i64 x5, .int .i64 x6, .int .i64 x7, .bool x8, .int .i64 x9, .int .i64 x10, .int .i64 x11, .int .i64 x12, .bool x13]
set_option maxRecDepth 100000 in
set_option maxHeartbeats 1000000 in
theorem Product_any (x0 x1 x2 x3 x4 x5 x6 x7 x9 x10 x11 x12 : Int) (x8 x13 : Bool) (w : World) : Calls Try.prog 85 #[PrV x0 x1 x2 x3 x4 x5 x6 x7 x9 x10 x11 x12 x8 x13] w fun e w' => e = .returned (.tuple #[(proK ⟨x1, x0, x3, x4⟩).V, .int .i64 (proE ⟨x1, x0, x3, x4⟩)]) ∧ New w w' := by
  have HL := Lib.hid (Level_any ⟨x1, x0, x3, x4⟩)
  unfold proK proE
  generalize levI ⟨x1, x0, x3, x4⟩ = l at HL ⊢
  by_cases h : l = 3
  · subst h
    rw [if_pos rfl, if_pos rfl]
    have HH : Hid True := trivial
    go_enter Try.func85, Try.ntmps85
    go_wp2_with fail
    with_reducible refine (HL.out _).mono ?_
    rintro e w1 ⟨rfl, hN⟩
    have HB := Lib.hid ((Has.new_at ((w.alloc (.cells #[.int .i64 x0, .int .i64 x1, .int .i64 x2, .int .i64 x3, .int .i64 x4, .int .i64 x5, .int .i64 x6, .int .i64 x7, .bool x8, .int .i64 x9, .int .i64 x10, .int .i64 x11, .int .i64 x12, .bool x13] 24)).alloc (.cells #[.int .i64 0, .int .i64 0, .int .i64 0, .int .i64 0] 123)) 123 #[.int .i64 x1, .int .i64 x0, .int .i64 x3, .int .i64 x4] (w.heap.size + 2) (by simp)).keep hN)
    have HR := Lib.hid (((Has.new_at (w.alloc (.cells #[.int .i64 x0, .int .i64 x1, .int .i64 x2, .int .i64 x3, .int .i64 x4, .int .i64 x5, .int .i64 x6, .int .i64 x7, .bool x8, .int .i64 x9, .int .i64 x10, .int .i64 x11, .int .i64 x12, .bool x13] 24)) 123 #[.int .i64 0, .int .i64 0, .int .i64 0, .int .i64 0] (w.heap.size + 1) (by simp)).alloc (.cells #[.int .i64 x1, .int .i64 x0, .int .i64 x3, .int .i64 x4] 123)).keep hN)
    have HN := Lib.hid (((((Chg.refl (fun _ => False) w).alloc _).alloc _).alloc _).then_new hN)
    clear hN
    have c0 : w1.cell? ⟨w.heap.size + 2, 0, none⟩ = some (.int .i64 x1) := (HB.out.cell 0).trans rfl
    have c1 : w1.cell? ⟨w.heap.size + 2, 1, none⟩ = some (.int .i64 x0) := (HB.out.cell 1).trans rfl
    have c2 : w1.cell? ⟨w.heap.size + 2, 2, none⟩ = some (.int .i64 x3) := (HB.out.cell 2).trans rfl
    have c3 : w1.cell? ⟨w.heap.size + 2, 3, none⟩ = some (.int .i64 x4) := (HB.out.cell 3).trans rfl
    have r0 : w1.cell? ⟨w.heap.size + 1, 0, none⟩ = some (.int .i64 0) := (HR.out.cell 0).trans rfl
    have r1 : w1.cell? ⟨w.heap.size + 1, 1, none⟩ = some (.int .i64 0) := (HR.out.cell 1).trans rfl
    have r2 : w1.cell? ⟨w.heap.size + 1, 2, none⟩ = some (.int .i64 0) := (HR.out.cell 2).trans rfl
    have r3 : w1.cell? ⟨w.heap.size + 1, 3, none⟩ = some (.int .i64 0) := (HR.out.cell 3).trans rfl
    have z0 := HR.out.free 0
    have z1 := HR.out.free 1
    have z2 := HR.out.free 2
    have z3 := HR.out.free 3
    go_wp2_with fail
    obtain ⟨hX, hGX⟩ := setK HR.out (.int .i64 x1) (.int .i64 x0) (.int .i64 x3) (.int .i64 x4)
    generalize ((((w1.setCell ⟨w.heap.size + 1, 0, none⟩ (.int .i64 x1)).setCell ⟨w.heap.size + 1, 1, none⟩ (.int .i64 x0)).setCell ⟨w.heap.size + 1, 2, none⟩ (.int .i64 x3)).setCell ⟨w.heap.size + 1, 3, none⟩ (.int .i64 x4)) = wX at hX hGX ⊢
    have g0 := (hX.cell 0).trans rfl
    have g1 := (hX.cell 1).trans rfl
    have g2 := (hX.cell 2).trans rfl
    have g3 := (hX.cell 3).trans rfl
    refine bodyPost_ret (v := .tuple #[.agg #[.int .i64 x1, .int .i64 x0, .int .i64 x3, .int .i64 x4], .int .i64 0]) (by simp [results, Try.results85, go_sem, g0, g1, g2, g3]) rfl ?_
    exact ⟨by first | rfl | (simp only [HH.out]; rfl) | simp [HH.out], New.set HN.out hGX (by omega)⟩
  · rw [if_neg h, if_neg h]
    have h' : (l != 3) = true := bne_iff_ne.2 h
    clear h
    have HH : Hid True := trivial
    go_enter Try.func85, Try.ntmps85
    go_wp2_with fail
    with_reducible refine (HL.out _).mono ?_
    rintro e w1 ⟨rfl, hN⟩
    have HB := Lib.hid ((Has.new_at ((w.alloc (.cells #[.int .i64 x0, .int .i64 x1, .int .i64 x2, .int .i64 x3, .int .i64 x4, .int .i64 x5, .int .i64 x6, .int .i64 x7, .bool x8, .int .i64 x9, .int .i64 x10, .int .i64 x11, .int .i64 x12, .bool x13] 24)).alloc (.cells #[.int .i64 0, .int .i64 0, .int .i64 0, .int .i64 0] 123)) 123 #[.int .i64 x1, .int .i64 x0, .int .i64 x3, .int .i64 x4] (w.heap.size + 2) (by simp)).keep hN)
    have HR := Lib.hid (((Has.new_at (w.alloc (.cells #[.int .i64 x0, .int .i64 x1, .int .i64 x2, .int .i64 x3, .int .i64 x4, .int .i64 x5, .int .i64 x6, .int .i64 x7, .bool x8, .int .i64 x9, .int .i64 x10, .int .i64 x11, .int .i64 x12, .bool x13] 24)) 123 #[.int .i64 0, .int .i64 0, .int .i64 0, .int .i64 0] (w.heap.size + 1) (by simp)).alloc (.cells #[.int .i64 x1, .int .i64 x0, .int .i64 x3, .int .i64 x4] 123)).keep hN)
    have HN := Lib.hid (((((Chg.refl (fun _ => False) w).alloc _).alloc _).alloc _).then_new hN)
    clear hN
    have c0 : w1.cell? ⟨w.heap.size + 2, 0, none⟩ = some (.int .i64 x1) := (HB.out.cell 0).trans rfl
    have c1 : w1.cell? ⟨w.heap.size + 2, 1, none⟩ = some (.int .i64 x0) := (HB.out.cell 1).trans rfl
    have c2 : w1.cell? ⟨w.heap.size + 2, 2, none⟩ = some (.int .i64 x3) := (HB.out.cell 2).trans rfl
    have c3 : w1.cell? ⟨w.heap.size + 2, 3, none⟩ = some (.int .i64 x4) := (HB.out.cell 3).trans rfl
    have r0 : w1.cell? ⟨w.heap.size + 1, 0, none⟩ = some (.int .i64 0) := (HR.out.cell 0).trans rfl
    have r1 : w1.cell? ⟨w.heap.size + 1, 1, none⟩ = some (.int .i64 0) := (HR.out.cell 1).trans rfl
    have r2 : w1.cell? ⟨w.heap.size + 1, 2, none⟩ = some (.int .i64 0) := (HR.out.cell 2).trans rfl
    have r3 : w1.cell? ⟨w.heap.size + 1, 3, none⟩ = some (.int .i64 0) := (HR.out.cell 3).trans rfl
    have z0 := HR.out.free 0
    have z1 := HR.out.free 1
    have z2 := HR.out.free 2
    have z3 := HR.out.free 3
    go_wp2_with fail
    obtain ⟨hX, hGX⟩ := setK HR.out (.int .i64 0) (.int .i64 0) (.int .i64 0) (.int .i64 0)
    generalize ((((w1.setCell ⟨w.heap.size + 1, 0, none⟩ (.int .i64 0)).setCell ⟨w.heap.size + 1, 1, none⟩ (.int .i64 0)).setCell ⟨w.heap.size + 1, 2, none⟩ (.int .i64 0)).setCell ⟨w.heap.size + 1, 3, none⟩ (.int .i64 0)) = wX at hX hGX ⊢
    have g0 := (hX.cell 0).trans rfl
    have g1 := (hX.cell 1).trans rfl
    have g2 := (hX.cell 2).trans rfl
    have g3 := (hX.cell 3).trans rfl
    refine bodyPost_ret (v := .tuple #[.agg #[.int .i64 0, .int .i64 0, .int .i64 0, .int .i64 0], .int .i64 2]) (by simp [results, Try.results85, go_sem, g0, g1, g2, g3]) rfl ?_
    exact ⟨by first | rfl | (simp only [HH.out]; rfl) | simp [HH.out], New.set HN.out hGX (by omega)⟩
end Go.Proofs.Ytkcokcanakljnaa
