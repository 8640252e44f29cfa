/-
  Keys in rows: their cells, a row of the call's own, append of keys that came in and of one.
-/
import Derived.Test.YtkegafkmcdkphaaKyW
import Derived.Test.YtkegafkmcdkphaaOpenK
namespace Go.Proofs.Ytkegafkmcdkphaa
open Go.RowKit
def kc (k : Ky) : List Value := [.int .i64 k.o, .int .i64 k.t, .int .i64 k.c, .int .i64 k.v]
def kcells (f : Nat → Ky) : Nat → List Value
  | 0 => []
  | n + 1 => kcells f n ++ kc (f n)
theorem kcells_len (f : Nat → Ky) (n : Nat) : (kcells f n).length = n * 4 := by
  induction n with
  | zero => rfl
  | succ n ih => simp only [kcells, kc, List.length_append, ih, List.length_cons, List.length_nil]; omega
theorem kcells_get (f : Nat → Ky) (n i r : Nat) (h : i < n) (hr : r < 4) : (kcells f n)[i * 4 + r]? = (kc (f i))[r]? := by
  induction n with
  | zero => omega
  | succ n ih =>
    simp only [kcells]
    rcases Nat.lt_or_ge i n with h1 | h1
    · rw [List.getElem?_append_left (by rw [kcells_len]; omega)]
      exact ih h1
    · obtain rfl : i = n := by omega
      rw [List.getElem?_append_right (by rw [kcells_len]; omega), kcells_len]
      have e1 : i * 4 + r - i * 4 = r := by omega
      rw [e1]
theorem kcells_one (f : Nat → Ky) (n : Nat) : ∀ u ∈ kcells f n, u.oneCell' = true := by
  induction n with
  | zero => simp [kcells]
  | succ n ih =>
    intro u hu
    simp only [kcells, kc, List.mem_append, List.mem_cons, List.not_mem_nil, or_false] at hu
    rcases hu with hu | rfl | rfl | rfl | rfl
    · exact ih u hu
    all_goals rfl
theorem add_more (a : Addr) (q r : Nat) (hr : 0 < r) : a.add (q * 4 + r) = ⟨(a.add (q * 4)).block, (a.add (q * 4)).off + r, none⟩ := by
  unfold Addr.add
  rw [if_neg (by omega)]
  by_cases h0 : q * 4 = 0
  · simp [h0]
  · simp [h0, Nat.add_assoc]
theorem Kys.cells {w : World} {F : Nat → Prop} {A : Option Addr} {n : Nat} {f : Nat → Ky} (h : Kys w F A n f) : ∀ j u, (kcells f n)[j]? = some u → ∃ ad, A = some ad ∧ w.cell? (ad.add j) = some u := by
  intro j u hu
  have hj : j < n * 4 := by
    rcases Nat.lt_or_ge j (n * 4) with h1 | h1
    · exact h1
    · rw [List.getElem?_eq_none (by rw [kcells_len]; exact h1)] at hu; cases hu
  obtain ⟨q, hq⟩ : ∃ q, q = j / 4 := ⟨_, rfl⟩
  obtain ⟨r, hr⟩ : ∃ r, r = j % 4 := ⟨_, rfl⟩
  have hr4 : r < 4 := by omega
  have e : j = q * 4 + r := by omega
  obtain ⟨a, rfl, _, h0, h1, h2, h3⟩ := h q (by omega)
  rw [e, kcells_get f n q r (by omega) hr4] at hu
  refine ⟨a, rfl, ?_⟩
  rw [e]
  clear e hq hr hj
  rcases (show r = 0 ∨ r = 1 ∨ r = 2 ∨ r = 3 by omega) with rfl | rfl | rfl | rfl
  · simp only [kc, List.getElem?_cons_zero, Option.some.injEq] at hu
    rw [← hu]; exact h0
  · simp only [kc, List.getElem?_cons_succ, List.getElem?_cons_zero, Option.some.injEq] at hu
    rw [← hu, add_more _ _ _ (by omega)]; exact h1
  · simp only [kc, List.getElem?_cons_succ, List.getElem?_cons_zero, Option.some.injEq] at hu
    rw [← hu, add_more _ _ _ (by omega)]; exact h2
  · simp only [kc, List.getElem?_cons_succ, List.getElem?_cons_zero, Option.some.injEq] at hu
    rw [← hu, add_more _ _ _ (by omega)]; exact h3
theorem Kys.of_own {w : World} {base c : Nat} {A : Option Addr} {n : Nat} {f : Nat → Ky} (h : w.ownsRow base 23 4 (.slice A n c) n (kcells f n)) : Kys w (fun k => Value.ownBlock (.slice A n c) = some k) A n f := by
  intro i hi
  rcases h.2 with ⟨hv, hn⟩ | ⟨g, cap, cur, hv, _, hg, _⟩
  · omega
  · simp only [Value.slice.injEq] at hv
    obtain ⟨rfl, _, rfl⟩ := hv
    have hadd : (⟨g, 0, none⟩ : Addr).add (i * 4) = ⟨g, i * 4, none⟩ := by unfold Addr.add; split <;> simp_all
    have hc : ∀ r, r < 4 → w.cell? ⟨g, i * 4 + r, none⟩ = (kc (f i))[r]? := fun r hr => by rw [h.cellAt (i * 4 + r) (by omega)]; exact kcells_get f n i r hi hr
    exact ⟨_, rfl, rfl, by rw [hadd]; exact hc 0 (by omega), by rw [hadd]; exact hc 1 (by omega), by rw [hadd]; exact hc 2 (by omega), by rw [hadd]; exact hc 3 (by omega)⟩
theorem Try.info23 : (Try.prog.info? 23).map (fun i => (i.zero, i.size, i.bytes)) = some (some (.agg #[.int .i64 0, .int .i64 0, .int .i64 0, .int .i64 0]), 4, 32) := by kernel_rfl
theorem kcells_ext {f g : Nat → Ky} (n : Nat) (h : ∀ i, i < n → f i = g i) : kcells f n = kcells g n := by
  induction n with
  | zero => rfl
  | succ n ih => simp only [kcells]; rw [ih (fun i hi => h i (by omega)), h n (by omega)]
/-- 'append(s, x)' of one key, s the call's own, x laid just before -/
theorem wpList_push_key {w0 : World} {ops : Array Oper} {rest : List Oper} {o : Oper} {a : Act} {Q : Exit → Act → World → Prop} (hgd : o.guard = none) (base : Nat) (hb : base ≤ w0.heap.size) (s x : Operand)
    (ho : o.op = .call { callee := .builtin .append, args := #[s, x], argTypes := #[25, 25] }) (v : Value) (n : Nat) (f : Nat → Ky) (hs : a.eval s = v) (hown : w0.ownsRow base 23 4 v n (kcells f n)) (x0 x1 x2 x3 : Int)
    (hf : f n = ⟨x0, x1, x2, x3⟩) (hx : a.eval x = .slice (some ⟨w0.heap.size, 0, none⟩) 1 1) (hn : n + 1 ≤ 1000)
    (h : ∀ A' c' w', w'.ownsRow base 23 4 (.slice A' (n + 1) c') (n + 1) (kcells f (n + 1)) → Chg (fun k => v.ownBlock = some k) w0 w' → wpList Try.prog ops Q rest (a.put o.dst (.slice A' (n + 1) c')) w') : wpList Try.prog ops Q (o :: rest) a (w0.alloc (.cells #[.int .i64 x0, .int .i64 x1, .int .i64 x2, .int .i64 x3] 23)) := by
  obtain ⟨i0, hi, hz0, hz1, hz2⟩ := info_parts Try.info23
  refine wpList_append_one hgd s x 25 ho base 23 i0 (.agg #[.int .i64 0, .int .i64 0, .int .i64 0, .int .i64 0]) 4 32 Try.underlying25 hi hz0 hz1 hz2 rfl (by decide) v n _ hs hown #[.int .i64 x0, .int .i64 x1, .int .i64 x2, .int .i64 x3] hx rfl (by simp [Value.oneCell']) (by simp only [maxLen]; omega) (by omega) hb ?_
  intro A' c' w' hO hC _
  have e : kcells f n ++ (#[Value.int .i64 x0, .int .i64 x1, .int .i64 x2, .int .i64 x3] : Array Value).toList = kcells f (n + 1) := by simp only [kcells, kc, hf]
  rw [e] at hO
  exact h A' c' w' hO hC
/-- 'append([]api.Key{}, xs...)' of keys that came in -/
theorem step_copy_keys {w1 : World} {ops : Array Oper} {o : Oper} {a : Act} {K : Act → World → Prop} {Q : Exit → Act → World → Prop} {E : Prop} (hw : Region.wanted o (yielded ops a.tmps) = true) (s x : Operand)
    (ho : o.op = .call { callee := .builtin .append, args := #[s, x], argTypes := #[25, 25] }) (base g : Nat) (hs : a.eval s = .slice (some ⟨g, 0, none⟩) 0 0) (hg : Has w1 g 23 #[]) (hbg : base ≤ g)
    (A : Option Addr) (n c : Nat) (f : Nat → Ky) (F : Nat → Prop) (hx : a.eval x = .slice A n c) (hA : Kys w1 F A n f) (hnil : A = none → n = 0 ∧ c = 0) (hn : n ≤ 4398046510976)
    (h : ∀ A' c' w', w'.ownsRow base 23 4 (.slice A' n c') n (kcells f n) → Chg (fun k => k = g) w1 w' → K (a.put o.dst (.slice A' n c')) w') :
    if Region.wanted o (yielded ops a.tmps) = true then Oper.wp Try.prog o a w1 K Q else E := by
  rw [if_pos hw]
  obtain ⟨i0, hi, hz0, hz1, hz2⟩ := info_parts Try.info23
  have hown : w1.ownsRow base 23 4 (.slice (some ⟨g, 0, none⟩) 0 0) 0 [] := ⟨rfl, Or.inr ⟨g, 0, #[], rfl, hbg, hg, by simp, by simp [maxLen], by simp, by simp⟩⟩
  refine wp_append_src s x 25 ho base 23 i0 (.agg #[.int .i64 0, .int .i64 0, .int .i64 0, .int .i64 0]) 4 32 Try.underlying25 hi hz0 hz1 hz2 rfl (by decide) _ 0 [] hs hown A n c (kcells f n) hx hnil (kcells_len f n) hA.cells (kcells_one f n) (by simp only [maxLen]; omega) (by omega) (Nat.le_of_lt (Nat.lt_of_le_of_lt hbg hg.lt)) ?_
  intro A' c' w' h1 h2 _
  rw [Nat.zero_add] at h1 ⊢
  rw [List.nil_append] at h1
  exact h A' c' w' h1 (h2.mono fun k _ hk => by simp only [Value.ownBlock, Option.some.injEq] at hk; exact hk.symm)
/-- 'append([]int{}, xs...)' of numbers that came in -/
theorem step_copy_ints {w1 : World} {ops : Array Oper} {o : Oper} {a : Act} {K : Act → World → Prop} {Q : Exit → Act → World → Prop} {E : Prop} (hw : Region.wanted o (yielded ops a.tmps) = true) (s x : Operand)
    (ho : o.op = .call { callee := .builtin .append, args := #[s, x], argTypes := #[24, 24] }) (base g : Nat) (hs : a.eval s = .slice (some ⟨g, 0, none⟩) 0 0) (hg : Has w1 g 3 #[]) (hbg : base ≤ g)
    (A : Option Addr) (n c : Nat) (xs : List Int) (F : Nat → Prop) (hx : a.eval x = .slice A n c) (hA : Arr w1 F A n (fun i => iV (xs.getD i 0))) (hl : xs.length = n) (hnil : A = none → n = 0 ∧ c = 0) (hn : n ≤ 17592186044416)
    (h : ∀ A' c' w', w'.ownsRow base 3 1 (.slice A' n c') n (xs.map iV) → Chg (fun k => k = g) w1 w' → K (a.put o.dst (.slice A' n c')) w') :
    if Region.wanted o (yielded ops a.tmps) = true then Oper.wp Try.prog o a w1 K Q else E := by
  rw [if_pos hw]
  obtain ⟨i0, hi, hz0, hz1, hz2⟩ := info_parts Try.info3
  have hown : w1.ownsRow base 3 1 (.slice (some ⟨g, 0, none⟩) 0 0) 0 [] := ⟨rfl, Or.inr ⟨g, 0, #[], rfl, hbg, hg, by simp, by simp [maxLen], by simp, by simp⟩⟩
  refine wp_append_src s x 24 ho base 3 i0 (.int .i64 0) 1 8 Try.underlying24 hi hz0 hz1 hz2 rfl (by decide) _ 0 [] hs hown A n c (xs.map iV) hx hnil (by rw [List.length_map, Nat.mul_one, hl]) (map_news hA hl) (iV_one xs) (by simp only [maxLen]; omega) (by omega) (Nat.le_of_lt (Nat.lt_of_le_of_lt hbg hg.lt)) ?_
  intro A' c' w' h1 h2 _
  rw [Nat.zero_add] at h1 ⊢
  rw [List.nil_append] at h1
  exact h A' c' w' h1 (h2.mono fun k _ hk => by simp only [Value.ownBlock, Option.some.injEq] at hk; exact hk.symm)
theorem Derive_own (k : Ky) (base : Nat) (A : Option Addr) (n m : Nat) (xs : List Int) (w : World) (hO : w.ownsRow base 3 1 (.slice A n m) n (xs.map iV)) (hn : n ≤ 1000000000000000000) :
    Calls Try.prog 9 #[k.V, .slice A n m] w fun e w' => e = .returned (.tuple #[(derK k n (fun i => xs.getD i 0)).V, .int .i64 (derE k n (fun i => xs.getD i 0))]) ∧ New w w' :=
  Derive_any k A n m (fun i => xs.getD i 0) _ w (own_arr hO) (own_below hO) hn
/-- a box laid and filled -/
theorem box_set {w1 W : World} {g : Nat} {x0 x1 x2 x3 : Value} (h : Has W g 23 #[.int .i64 0, .int .i64 0, .int .i64 0, .int .i64 0]) (hN : New w1 W) (hg : w1.heap.size ≤ g) :
    Has ((((W.setCell ⟨g, 0, none⟩ x0).setCell ⟨g, 1, none⟩ x1).setCell ⟨g, 2, none⟩ x2).setCell ⟨g, 3, none⟩ x3) g 23 #[x0, x1, x2, x3] ∧ New w1 ((((W.setCell ⟨g, 0, none⟩ x0).setCell ⟨g, 1, none⟩ x1).setCell ⟨g, 2, none⟩ x2).setCell ⟨g, 3, none⟩ x3) := by
  obtain ⟨h1, h2⟩ := setK h x0 x1 x2 x3
  exact ⟨h1, New.set hN h2 hg⟩
theorem frB_0 (k : Ky) (f : Nat → Ky) : frB k 0 f = rightB k := by
  cases hb : rightB k with
  | true => exact frB_yes ⟨rightB_yes hb, fun j hj => by omega⟩
  | false => exact frB_no fun h => by have := rightB_of h.1; rw [hb] at this; cases this
theorem frB_succ (k : Ky) (n : Nat) (f : Nat → Ky) : frB k (n + 1) f = (frB k n f && fromB k (f n)) := by
  rw [Bool.eq_iff_iff, Bool.and_eq_true]
  unfold frB
  rw [@decide_eq_true_eq _ (frB_dec k (n + 1) f), @decide_eq_true_eq _ (frB_dec k n f)]
  unfold frP
  constructor
  · exact fun h => ⟨⟨h.1, fun j hj => h.2 j (by omega)⟩, h.2 n (by omega)⟩
  · rintro ⟨⟨h1, h2⟩, h3⟩
    refine ⟨h1, fun j hj => ?_⟩
    rcases Nat.lt_or_ge j n with hh | hh
    · exact h2 j hh
    · obtain rfl : j = n := by omega
      exact h3
end Go.Proofs.Ytkegafkmcdkphaa
