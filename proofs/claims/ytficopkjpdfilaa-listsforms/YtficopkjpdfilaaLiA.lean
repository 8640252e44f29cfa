/-
  Items in memory: rows of items, of the call's own and such as came in.
-/
import Derived.Test.YtficopkjpdfilaaLiM
import Derived.Test.YtficopkjpdfilaaLB
namespace Go.Proofs.Ytficopkjpdfilaa
open Go.RowKit
abbrev It.V (x : It) : Value := .agg #[.int .i64 x.c, .int .i64 x.o, .int .i64 x.i, .int .i64 x.n, .int .i64 x.a]
abbrev It.C (x : It) : Array Value := #[.int .i64 x.c, .int .i64 x.o, .int .i64 x.i, .int .i64 x.n, .int .i64 x.a]
def ic (x : It) : List Value := [.int .i64 x.c, .int .i64 x.o, .int .i64 x.i, .int .i64 x.n, .int .i64 x.a]
def ics (xs : List It) : List Value := xs.flatMap ic
theorem ics_nil : ics [] = [] := rfl
theorem ics_app (xs ys : List It) : ics (xs ++ ys) = ics xs ++ ics ys := by unfold ics; rw [List.flatMap_append]
theorem ics_one (x : It) : ics [x] = ic x := by simp [ics]
theorem ics_len (xs : List It) : (ics xs).length = xs.length * 5 := by
  induction xs with
  | nil => rfl
  | cons x xs ih => rw [show x :: xs = [x] ++ xs from rfl, ics_app, List.length_append, ih, ics_one]; simp only [ic, List.length_append, List.length_cons, List.length_nil]; omega
theorem ics_get (xs : List It) : ∀ (q r : Nat) (x : It), xs[q]? = some x → r < 5 → (ics xs)[q * 5 + r]? = (ic x)[r]? := by
  induction xs with
  | nil => intro q r x h; simp at h
  | cons y xs ih =>
    intro q r x h hr
    rw [show y :: xs = [y] ++ xs from rfl, ics_app, ics_one]
    cases q with
    | zero =>
      simp only [List.getElem?_cons_zero, Option.some.injEq] at h
      subst h
      rw [List.getElem?_append_left (by simp [ic]; omega)]
      simp
    | succ q =>
      simp only [List.getElem?_cons_succ] at h
      rw [List.getElem?_append_right (by simp [ic]; omega)]
      rw [← ih q r x h hr]
      congr 1
      simp only [ic, List.length_cons, List.length_nil]
      omega
theorem ics_cells (xs : List It) : ∀ u ∈ ics xs, u.oneCell' = true := by
  intro u hu
  unfold ics at hu
  rw [List.mem_flatMap] at hu
  obtain ⟨x, _, hx⟩ := hu
  simp only [ic, List.mem_cons, List.not_mem_nil, or_false] at hx
  rcases hx with rfl | rfl | rfl | rfl | rfl <;> rfl
theorem add_more5 (a : Addr) (q r : Nat) (hr : 0 < r) : a.add (q * 5 + r) = ⟨(a.add (q * 5)).block, (a.add (q * 5)).off + r, none⟩ := by
  unfold Addr.add
  rw [if_neg (by omega)]
  by_cases h0 : q * 5 = 0
  · simp [h0]
  · simp [h0, Nat.add_assoc]
/-- the j-th item of a slice at A -/
def ItAt (w : World) (F : Nat → Prop) (A : Option Addr) (j : Nat) (x : It) : Prop :=
  ∃ a, A = some a ∧ F a.block ∧ w.cell? (a.add (j * 5)) = some (.int .i64 x.c) ∧ w.cell? ⟨(a.add (j * 5)).block, (a.add (j * 5)).off + 1, none⟩ = some (.int .i64 x.o) ∧ w.cell? ⟨(a.add (j * 5)).block, (a.add (j * 5)).off + 2, none⟩ = some (.int .i64 x.i) ∧ w.cell? ⟨(a.add (j * 5)).block, (a.add (j * 5)).off + 3, none⟩ = some (.int .i64 x.n) ∧ w.cell? ⟨(a.add (j * 5)).block, (a.add (j * 5)).off + 4, none⟩ = some (.int .i64 x.a)
def Its (w : World) (F : Nat → Prop) (A : Option Addr) (xs : List It) : Prop := ∀ j x, xs[j]? = some x → ItAt w F A j x
theorem ItAt.chg {w w' : World} {F S : Nat → Prop} {A : Option Addr} {j : Nat} {e : It} (h : ItAt w F A j e) (c : Chg S w w') (hF : ∀ k, F k → k < w.heap.size ∧ ¬ S k) : ItAt w' F A j e := by
  obtain ⟨a, rfl, hb, h0, h1, h2, h3, h4⟩ := h
  have hb1 : (a.add (j * 5)).block < w.heap.size := by rw [add_block]; exact (hF _ hb).1
  have hb2 : ¬ S (a.add (j * 5)).block := by rw [add_block]; exact (hF _ hb).2
  exact ⟨a, rfl, hb, (c.cell hb1 hb2).trans h0, (c.cell (p := ⟨(a.add (j * 5)).block, _, none⟩) hb1 hb2).trans h1, (c.cell (p := ⟨(a.add (j * 5)).block, _, none⟩) hb1 hb2).trans h2, (c.cell (p := ⟨(a.add (j * 5)).block, _, none⟩) hb1 hb2).trans h3, (c.cell (p := ⟨(a.add (j * 5)).block, _, none⟩) hb1 hb2).trans h4⟩
theorem Its.chg {w w' : World} {F S : Nat → Prop} {A : Option Addr} {xs : List It} (h : Its w F A xs) (c : Chg S w w') (hF : ∀ k, F k → k < w.heap.size ∧ ¬ S k) : Its w' F A xs := fun j x hj => (h j x hj).chg c hF
theorem Its.new {w w' : World} {F : Nat → Prop} {A : Option Addr} {xs : List It} (h : Its w F A xs) (c : New w w') (hF : ∀ k, F k → k < w.heap.size) : Its w' F A xs := h.chg c fun k hk => ⟨hF k hk, fun f => f⟩
theorem Its.mono {w : World} {F G : Nat → Prop} {A : Option Addr} {xs : List It} (h : Its w F A xs) (hF : ∀ k, F k → G k) : Its w G A xs := fun j x hj => by
  obtain ⟨a, ha, hb, r⟩ := h j x hj
  exact ⟨a, ha, hF _ hb, r⟩
theorem Its.empty {w : World} {F : Nat → Prop} {A : Option Addr} : Its w F A [] := fun j x hj => by simp at hj
theorem Its.cells {w : World} {F : Nat → Prop} {A : Option Addr} {xs : List It} (h : Its w F A xs) : ∀ j u, (ics xs)[j]? = some u → ∃ ad, A = some ad ∧ w.cell? (ad.add j) = some u := by
  intro j u hu
  have hj : j < xs.length * 5 := by
    rcases Nat.lt_or_ge j (xs.length * 5) with h1 | h1
    · exact h1
    · rw [List.getElem?_eq_none (by rw [ics_len]; exact h1)] at hu; cases hu
  obtain ⟨q, hq⟩ : ∃ q, q = j / 5 := ⟨_, rfl⟩
  obtain ⟨r, hr⟩ : ∃ r, r = j % 5 := ⟨_, rfl⟩
  have hr4 : r < 5 := by omega
  have e : j = q * 5 + r := by omega
  have hqx : xs[q]? = some xs[q] := List.getElem?_eq_getElem (by omega)
  obtain ⟨x, hx⟩ : ∃ x, xs[q]? = some x := ⟨_, hqx⟩
  clear hqx
  obtain ⟨a, rfl, _, h0, h1, h2, h3, h4⟩ := h q x hx
  rw [e, ics_get xs q r x hx hr4] at hu
  refine ⟨a, rfl, ?_⟩
  rw [e]
  clear e hq hr hj
  rcases (show r = 0 ∨ r = 1 ∨ r = 2 ∨ r = 3 ∨ r = 4 by omega) with rfl | rfl | rfl | rfl | rfl
  · simp only [ic, List.getElem?_cons_zero, Option.some.injEq] at hu
    rw [← hu]; exact h0
  · simp only [ic, List.getElem?_cons_succ, List.getElem?_cons_zero, Option.some.injEq] at hu
    rw [← hu, add_more5 _ _ _ (by omega)]; exact h1
  · simp only [ic, List.getElem?_cons_succ, List.getElem?_cons_zero, Option.some.injEq] at hu
    rw [← hu, add_more5 _ _ _ (by omega)]; exact h2
  · simp only [ic, List.getElem?_cons_succ, List.getElem?_cons_zero, Option.some.injEq] at hu
    rw [← hu, add_more5 _ _ _ (by omega)]; exact h3
  · simp only [ic, List.getElem?_cons_succ, List.getElem?_cons_zero, Option.some.injEq] at hu
    rw [← hu, add_more5 _ _ _ (by omega)]; exact h4
theorem own_items {w : World} {base n : Nat} {v : Value} {xs : List It} (h : w.ownsRow base 44 5 v n (ics xs)) : xs.length = n := by
  have := h.1
  rw [ics_len] at this
  omega
/-- the cells of a row of the call's own -/
theorem Its.of_own {w : World} {base c n : Nat} {A : Option Addr} {xs : List It} (h : w.ownsRow base 44 5 (.slice A n c) n (ics xs)) : Its w (fun k => Value.ownBlock (.slice A n c) = some k) A xs := by
  intro i x hi
  have hn := own_items h
  have hlt : i < xs.length := by
    rcases Nat.lt_or_ge i xs.length with h1 | h1
    · exact h1
    · rw [List.getElem?_eq_none h1] at hi; cases hi
  rcases h.2 with ⟨hv, hn0⟩ | ⟨g, cap, cur, hv, _, hg, _⟩
  · omega
  · simp only [Value.slice.injEq] at hv
    obtain ⟨rfl, _, rfl⟩ := hv
    have hadd : (⟨g, 0, none⟩ : Addr).add (i * 5) = ⟨g, i * 5, none⟩ := by unfold Addr.add; split <;> simp_all
    have hc : ∀ r, r < 5 → w.cell? ⟨g, i * 5 + r, none⟩ = (ic x)[r]? := fun r hr => by rw [h.cellAt (i * 5 + r) (by omega)]; exact ics_get xs i r x hi hr
    exact ⟨_, rfl, rfl, by rw [hadd]; exact hc 0 (by omega), by rw [hadd]; exact hc 1 (by omega), by rw [hadd]; exact hc 2 (by omega), by rw [hadd]; exact hc 3 (by omega), by rw [hadd]; exact hc 4 (by omega)⟩
/-- one item laid in a block -/
theorem Its.one {w : World} {g : Nat} {x : It} (h : Has w g 44 x.C) : Its w (· = g) (some ⟨g, 0, none⟩) [x] := by
  intro j y hj
  cases j with
  | succ j => simp at hj
  | zero =>
    simp only [List.getElem?_cons_zero, Option.some.injEq] at hj
    subst hj
    have hadd : (⟨g, 0, none⟩ : Addr).add (0 * 5) = ⟨g, 0, none⟩ := by simp [Addr.add]
    exact ⟨_, rfl, rfl, by rw [hadd]; exact (h.cell 0).trans rfl, by rw [hadd]; exact (h.cell 1).trans rfl, by rw [hadd]; exact (h.cell 2).trans rfl, by rw [hadd]; exact (h.cell 3).trans rfl, by rw [hadd]; exact (h.cell 4).trans rfl⟩
theorem Try.infoI : (Try.prog.info? 44).map (fun i => (i.zero, i.size, i.bytes)) = some (some (.agg #[.int .i64 0, .int .i64 0, .int .i64 0, .int .i64 0, .int .i64 0]), 5, 40) := by kernel_rfl
/-- 'append(s, x)' of one item, s the call's own, x laid just before -/
theorem wpList_push_item {w0 : World} {ops : Array Oper} {rest : List Oper} {o : Oper} {a : Act} {Q : Exit → Act → World → Prop} (hgd : o.guard = none) (base : Nat) (hb : base ≤ w0.heap.size) (s x : Operand)
    (ho : o.op = .call { callee := .builtin .append, args := #[s, x], argTypes := #[26, 26] }) (v : Value) (n : Nat) (xs : List It) (hs : a.eval s = v) (hown : w0.ownsRow base 44 5 v n (ics xs)) (y : It)
    (hx : a.eval x = .slice (some ⟨w0.heap.size, 0, none⟩) 1 1) (hn : n ≤ 3518437208882)
    (h : ∀ A' c' w', w'.ownsRow base 44 5 (.slice A' (n + 1) c') (n + 1) (ics (xs ++ [y])) → Chg (fun k => v.ownBlock = some k) w0 w' → (Value.ownBlock (.slice A' (n + 1) c') = v.ownBlock ∨ ∀ k, Value.ownBlock (.slice A' (n + 1) c') = some k → w0.heap.size ≤ k) → wpList Try.prog ops Q rest (a.put o.dst (.slice A' (n + 1) c')) w') : wpList Try.prog ops Q (o :: rest) a (w0.alloc (.cells y.C 44)) := by
  obtain ⟨i0, hi, hz0, hz1, hz2⟩ := info_parts Try.infoI
  refine wpList_append_one hgd s x 26 ho base 44 i0 (.agg #[.int .i64 0, .int .i64 0, .int .i64 0, .int .i64 0, .int .i64 0]) 5 40 Try.underlying26 hi hz0 hz1 hz2 rfl (by decide) v n _ hs hown y.C hx rfl (by simp [Value.oneCell']) (by simp only [maxLen]; omega) (by omega) hb ?_
  intro A' c' w' hO hC hf
  have e : ics xs ++ y.C.toList = ics (xs ++ [y]) := by rw [ics_app, ics_one]; rfl
  rw [e] at hO
  exact h A' c' w' hO hC hf
/-- 'append([]api.Item{}, xs...)' of items that are there -/
theorem wpList_copy_items {w1 : World} {ops : Array Oper} {rest : List Oper} {o : Oper} {a : Act} {Q : Exit → Act → World → Prop} (hgd : o.guard = none) (s x : Operand)
    (ho : o.op = .call { callee := .builtin .append, args := #[s, x], argTypes := #[26, 26] }) (base g : Nat) (hs : a.eval s = .slice (some ⟨g, 0, none⟩) 0 0) (hg : Has w1 g 44 #[]) (hbg : base ≤ g)
    (A : Option Addr) (n c : Nat) (xs : List It) (F : Nat → Prop) (hx : a.eval x = .slice A n c) (hA : Its w1 F A xs) (hl : xs.length = n) (hnil : A = none → n = 0 ∧ c = 0) (hn : n ≤ 3518437208883)
    (h : ∀ A' c' w', w'.ownsRow base 44 5 (.slice A' n c') n (ics xs) → Chg (fun k => k = g) w1 w' → wpList Try.prog ops Q rest (a.put o.dst (.slice A' n c')) w') : wpList Try.prog ops Q (o :: rest) a w1 := by
  obtain ⟨i0, hi, hz0, hz1, hz2⟩ := info_parts Try.infoI
  have hown : w1.ownsRow base 44 5 (.slice (some ⟨g, 0, none⟩) 0 0) 0 [] := ⟨rfl, Or.inr ⟨g, 0, #[], rfl, hbg, hg, by simp, by simp [maxLen], by simp, by simp⟩⟩
  refine wpList_append_src hgd s x 26 ho base 44 i0 (.agg #[.int .i64 0, .int .i64 0, .int .i64 0, .int .i64 0, .int .i64 0]) 5 40 Try.underlying26 hi hz0 hz1 hz2 rfl (by decide) _ 0 [] hs hown A n c (ics xs) hx hnil (by rw [ics_len, hl]) hA.cells (ics_cells xs) (by simp only [maxLen]; omega) (by omega) (Nat.le_of_lt (Nat.lt_of_le_of_lt hbg hg.lt)) ?_
  intro A' c' w' h1 h2 _
  rw [Nat.zero_add] at h1 ⊢
  rw [List.nil_append] at h1
  exact h A' c' w' h1 (h2.mono fun k _ hk => by simp only [Value.ownBlock, Option.some.injEq] at hk; exact hk.symm)
theorem step_copy_items {w1 : World} {ops : Array Oper} {o : Oper} {a : Act} {K : Act → World → Prop} {Q : Exit → Act → World → Prop} {E : Prop} (hw : Region.wanted o (yielded ops a.tmps) = true) (s x : Operand)
    (ho : o.op = .call { callee := .builtin .append, args := #[s, x], argTypes := #[26, 26] }) (base g : Nat) (hs : a.eval s = .slice (some ⟨g, 0, none⟩) 0 0) (hg : Has w1 g 44 #[]) (hbg : base ≤ g)
    (A : Option Addr) (n c : Nat) (xs : List It) (F : Nat → Prop) (hx : a.eval x = .slice A n c) (hA : Its w1 F A xs) (hl : xs.length = n) (hnil : A = none → n = 0 ∧ c = 0) (hn : n ≤ 3518437208883)
    (h : ∀ A' c' w', w'.ownsRow base 44 5 (.slice A' n c') n (ics xs) → Chg (fun k => k = g) w1 w' → K (a.put o.dst (.slice A' n c')) w') :
    if Region.wanted o (yielded ops a.tmps) = true then Oper.wp Try.prog o a w1 K Q else E := by
  rw [if_pos hw]
  obtain ⟨i0, hi, hz0, hz1, hz2⟩ := info_parts Try.infoI
  have hown : w1.ownsRow base 44 5 (.slice (some ⟨g, 0, none⟩) 0 0) 0 [] := ⟨rfl, Or.inr ⟨g, 0, #[], rfl, hbg, hg, by simp, by simp [maxLen], by simp, by simp⟩⟩
  refine wp_append_src s x 26 ho base 44 i0 (.agg #[.int .i64 0, .int .i64 0, .int .i64 0, .int .i64 0, .int .i64 0]) 5 40 Try.underlying26 hi hz0 hz1 hz2 rfl (by decide) _ 0 [] hs hown A n c (ics xs) hx hnil (by rw [ics_len, hl]) hA.cells (ics_cells xs) (by simp only [maxLen]; omega) (by omega) (Nat.le_of_lt (Nat.lt_of_le_of_lt hbg hg.lt)) ?_
  intro A' c' w' h1 h2 _
  rw [Nat.zero_add] at h1 ⊢
  rw [List.nil_append] at h1
  exact h A' c' w' h1 (h2.mono fun k _ hk => by simp only [Value.ownBlock, Option.some.injEq] at hk; exact hk.symm)
/-- a slice of items: its value, and what its items are -/
def ItsV (w : World) (F : Nat → Prop) (v : Value) (xs : List It) : Prop := ∃ A c, v = .slice A xs.length c ∧ Its w F A xs ∧ (A = none → xs.length = 0 ∧ c = 0)
theorem ItsV.new {w w' : World} {F : Nat → Prop} {v : Value} {xs : List It} (h : ItsV w F v xs) (c : New w w') (hF : ∀ k, F k → k < w.heap.size) : ItsV w' F v xs := by
  obtain ⟨A, c0, e, h1, h2⟩ := h
  exact ⟨A, c0, e, h1.new c hF, h2⟩
theorem ItsV.chg {w w' : World} {F S : Nat → Prop} {v : Value} {xs : List It} (h : ItsV w F v xs) (c : Chg S w w') (hF : ∀ k, F k → k < w.heap.size ∧ ¬ S k) : ItsV w' F v xs := by
  obtain ⟨A, c0, e, h1, h2⟩ := h
  exact ⟨A, c0, e, h1.chg c hF, h2⟩
theorem ItsV.mono {w : World} {F G : Nat → Prop} {v : Value} {xs : List It} (h : ItsV w F v xs) (hF : ∀ k, F k → G k) : ItsV w G v xs := by
  obtain ⟨A, c0, e, h1, h2⟩ := h
  exact ⟨A, c0, e, h1.mono hF, h2⟩
theorem ItsV.of_own {w : World} {base n : Nat} {v : Value} {xs : List It} (h : w.ownsRow base 44 5 v n (ics xs)) : ItsV w (fun k => v.ownBlock = some k) v xs := by
  obtain ⟨A, c, rfl, hn⟩ := own_form h
  obtain rfl := own_items h
  exact ⟨A, c, rfl, Its.of_own h, hn⟩
theorem own_lt {w : World} {base e size n : Nat} {v : Value} {xs : List Value} (h : w.ownsRow base e size v n xs) : ∀ k, v.ownBlock = some k → k < w.heap.size := fun k hk => (h.lt k hk).2
theorem own_ge {w : World} {base e size n : Nat} {v : Value} {xs : List Value} (h : w.ownsRow base e size v n xs) : ∀ k, v.ownBlock = some k → base ≤ k := fun k hk => (h.lt k hk).1
theorem nil_own (w : World) (base : Nat) : w.ownsRow base 44 5 (.slice none 0 0) 0 (ics []) := ⟨rfl, Or.inl ⟨rfl, rfl⟩⟩
end Go.Proofs.Ytficopkjpdfilaa
