/-
  More words for bytes: slices of bytes kept and changed, copies and appends as one step, also in regions that draw their order.
-/
import Derived.Test.YtficopkjpdfilaaSeqB
import Derived.Deep.RegionHeldLaw
namespace Go.Proofs.Ytficopkjpdfilaa
open Go.RowKit
theorem Byts.chg {w w' : World} {F S : Nat → Prop} {v : Value} {bs : List Nat} (h : Byts w F v bs) (c : Chg S w w') (hF : ∀ k, F k → k < w.heap.size ∧ ¬ S k) : Byts w' F v bs := by
  obtain ⟨A, cc, he, hA, r⟩ := h
  exact ⟨A, cc, he, hA.chg c hF, r⟩
theorem Byts.new {w w' : World} {F : Nat → Prop} {v : Value} {bs : List Nat} (h : Byts w F v bs) (c : New w w') (hF : ∀ k, F k → k < w.heap.size) : Byts w' F v bs := h.chg c fun k hk => ⟨hF k hk, fun f => f⟩
theorem Byts.mono {w : World} {F F' : Nat → Prop} {v : Value} {bs : List Nat} (h : Byts w F v bs) (hF : ∀ k, F k → F' k) : Byts w F' v bs := by
  obtain ⟨A, cc, he, hA, r⟩ := h
  exact ⟨A, cc, he, hA.mono hF, r⟩
/-- slices of bytes laid in a row -/
theorem Lists.of_has {w : World} {F : Nat → Prop} {g : Nat} {t : TypeId} {vs : List Value} {L : List (List Nat)} (hg : Has w g t vs.toArray) (hl : vs.length = L.length) (hv : ∀ i, i < L.length → Byts w F (vs.getD i undef) (L.getD i [])) : Lists w (fun k => F k ∨ k = g) (some ⟨g, 0, none⟩) L := by
  refine ⟨fun i => vs.getD i undef, fun i hi => ?_, fun i hi => (hv i hi).mono fun k hk => Or.inl hk⟩
  have hadd : (⟨g, 0, none⟩ : Addr).add i = ⟨g, i, none⟩ := by unfold Addr.add; split <;> simp_all
  refine ⟨_, rfl, Or.inr rfl, ?_⟩
  have hlt : i < vs.length := by omega
  rw [hadd, hg.cell i]
  simp [hlt]
theorem Lists.one {w : World} {F : Nat → Prop} {g : Nat} {t : TypeId} {v : Value} {bs : List Nat} (hg : Has w g t #[v]) (hv : Byts w F v bs) : Lists w (fun k => F k ∨ k = g) (some ⟨g, 0, none⟩) [bs] :=
  Lists.of_has (vs := [v]) hg rfl fun i hi => by
    obtain rfl : i = 0 := by simp at hi; omega
    exact hv
theorem Lists.three {w : World} {F : Nat → Prop} {g : Nat} {t : TypeId} {v1 v2 v3 : Value} {b1 b2 b3 : List Nat} (hg : Has w g t #[v1, v2, v3]) (h1 : Byts w F v1 b1) (h2 : Byts w F v2 b2) (h3 : Byts w F v3 b3) : Lists w (fun k => F k ∨ k = g) (some ⟨g, 0, none⟩) [b1, b2, b3] :=
  Lists.of_has (vs := [v1, v2, v3]) hg rfl fun i hi => by
    rcases (show i = 0 ∨ i = 1 ∨ i = 2 by simp at hi; omega) with rfl | rfl | rfl
    · exact h1
    · exact h2
    · exact h3
theorem or_bytes (hi lo : Nat) (h2 : lo < 256) : 256 * hi ||| lo = 256 * hi + lo := by
  have := Nat.shiftLeft_add_eq_or_of_lt (i := 8) (b := lo) (by omega) hi
  rw [Nat.shiftLeft_eq, Nat.mul_comm] at this
  exact this.symm
theorem getD_left (bs cs : List Nat) (i : Nat) (h : i < bs.length) : (bs ++ cs).getD i 0 = bs.getD i 0 := by
  rw [List.getD_eq_getElem?_getD, List.getElem?_append_left h, ← List.getD_eq_getElem?_getD]
theorem last_two (bs : List Nat) (m : Nat) (h : bs.length = m + 2) : bs = bs.take m ++ [bs.getD m 0, bs.getD (m + 1) 0] := by
  have h1 : m < bs.length := by omega
  have h2 : m + 1 < bs.length := by omega
  conv => lhs; rw [← List.take_append_drop m bs]
  congr 1
  rw [List.drop_eq_getElem_cons h1, List.drop_eq_getElem_cons h2, List.drop_eq_nil_of_le (by omega)]
  simp [List.getD_eq_getElem?_getD, List.getElem?_eq_getElem h1, List.getElem?_eq_getElem h2]
theorem getD_lt (bs : List Nat) (h : ∀ x ∈ bs, x < 256) (i : Nat) : bs.getD i 0 < 256 := by
  rw [List.getD_eq_getElem?_getD]
  by_cases hi : i < bs.length
  · rw [List.getElem?_eq_getElem hi]; exact h _ (List.getElem_mem hi)
  · rw [List.getElem?_eq_none (by omega)]; decide
theorem own_length {w : World} {base c n : Nat} {A : Option Addr} {bs : List Nat} (h : w.ownsRow base 5 1 (.slice A n c) n (bs.map bV)) : bs.length = n := by
  have := h.1
  rw [List.length_map, Nat.mul_one] at this
  exact this
theorem Byts.of_own {w : World} {base c n : Nat} {A : Option Addr} {bs : List Nat} (h : w.ownsRow base 5 1 (.slice A n c) n (bs.map bV)) (h256 : ∀ x ∈ bs, x < 256) (hb : n ≤ 140737488355328) : Byts w (fun k => Value.ownBlock (.slice A n c) = some k) (.slice A n c) bs := by
  have hl := own_length h
  have hn := own_nil h
  subst hl
  exact ⟨A, c, rfl, own_arr_bytes h, hn, h256, hb⟩
theorem own_below {w : World} {base e size c n : Nat} {A : Option Addr} {xs : List Value} (h : w.ownsRow base e size (.slice A n c) n xs) : ∀ k, Value.ownBlock (.slice A n c) = some k → k < w.heap.size := fun k hk => (h.lt k hk).2
theorem Byts.own_any {w w' : World} {base c n : Nat} {A : Option Addr} {xb : List Nat} (h : w.ownsRow base 5 1 (.slice A n c) n (xb.map bV)) (hN : New w w') (h256 : ∀ x ∈ xb, x < 256) (hb : n ≤ 140737488355328) : Byts w' (· < w'.heap.size) (.slice A n c) xb :=
  (Byts.of_own (own_new h hN) h256 hb).mono (own_below (own_new h hN))
theorem Byts.of_mark {w : World} {g : Nat} {t : TypeId} {fr : Nat × Nat} {bs : List Nat} (h : w.heap[g]? = some (.cells (bs.map bV).toArray t fr)) (h256 : ∀ x ∈ bs, x < 256) (hb : bs.length ≤ 140737488355328) : Byts w (· = g) (.slice (some ⟨g, 0, none⟩) bs.length bs.length) bs := by
  refine ⟨_, _, rfl, fun i hi => ?_, (fun h => by cases h), h256, hb⟩
  have hadd : (⟨g, 0, none⟩ : Addr).add i = ⟨g, i, none⟩ := by unfold Addr.add; split <;> simp_all
  refine ⟨_, rfl, rfl, ?_⟩
  rw [hadd, Joins.cell_of_block h i]
  simp [hi]
theorem own_put {w : World} {base e g c n : Nat} {xs : List Value} (h : w.ownsRow base e 1 (.slice (some ⟨g, 0, none⟩) n c) n xs) (i : Nat) (u : Value) : (w.setCell ⟨g, i, none⟩ u).ownsRow base e 1 (.slice (some ⟨g, 0, none⟩) n c) n (xs.set i u) := by
  refine ⟨by rw [List.length_set]; exact h.1, ?_⟩
  rcases h.2 with ⟨hv, _⟩ | ⟨g', cap, cur, hv, hb, hg, hnc, hcm, hcs, ht⟩
  · cases hv
  · simp only [Value.slice.injEq, Option.some.injEq, Addr.mk.injEq, and_true, true_and] at hv
    obtain ⟨rfl, rfl⟩ := hv
    refine Or.inr ⟨g, c, cur.setIfInBounds i u, rfl, hb, Has.set hg i u, hnc, hcm, by simp [hcs], ?_⟩
    rw [← ht, Array.toList_setIfInBounds, List.take_set]
theorem own_free {w : World} {base e g c n : Nat} {xs : List Value} (h : w.ownsRow base e 1 (.slice (some ⟨g, 0, none⟩) n c) n xs) (i : Nat) : w.frozen? ⟨g, i, none⟩ = false := by
  rcases h.2 with ⟨hv, _⟩ | ⟨g', cap, cur, hv, hb, hg, _⟩
  · cases hv
  · simp only [Value.slice.injEq, Option.some.injEq, Addr.mk.injEq, and_true, true_and] at hv
    obtain ⟨rfl, rfl⟩ := hv
    exact Has.free hg i
theorem own_made (w : World) (base : Nat) (hb : base ≤ w.heap.size) : (w.alloc (.cells #[] 5)).ownsRow base 5 1 (.slice (some ⟨w.heap.size, 0, none⟩) 0 0) 0 [] :=
  World.ownsRow_made (base := base) (e := 5) (size := 1) w #[] 0 hb (by decide) rfl
theorem Has.new_at (w : World) (t : TypeId) (cs : Array Value) (g : Nat) (h : w.heap.size = g) : Has (w.alloc (.cells cs t)) g t cs := by
  subst h; exact Has.new w t cs
theorem own_empty {w : World} {g base : Nat} (h : Has w g 5 #[]) (hb : base ≤ g) : w.ownsRow base 5 1 (.slice (some ⟨g, 0, none⟩) 0 0) 0 (([] : List Nat).map bV) :=
  ⟨by simp, Or.inr ⟨g, 0, #[], rfl, hb, h, Nat.le_refl _, by decide, rfl, rfl⟩⟩
theorem arr_two {w : World} {g x y : Nat} (h : Has w g 5 #[.int .u8 (x : Int), .int .u8 (y : Int)]) : Arr w (· = g) (some ⟨g, 0, none⟩) 2 (fun i => bV ([x, y].getD i 0)) := by
  intro i hi
  refine ⟨_, rfl, rfl, ?_⟩
  have hadd : (⟨g, 0, none⟩ : Addr).add i = ⟨g, i, none⟩ := by unfold Addr.add; split <;> simp_all
  rw [hadd, h.cell i]
  rcases (show i = 0 ∨ i = 1 by omega) with rfl | rfl <;> rfl
/-- 'append([]byte{}, b...)': new memory with the bytes of b -/
theorem wp_copy {w1 : World} {o : Oper} {a : Act} {K : Act → World → Prop} {Q : Exit → Act → World → Prop} (s x : Operand)
    (ho : o.op = .call { callee := .builtin .append, args := #[s, x], argTypes := #[56, 56] }) (hs : a.eval s = .slice (some ⟨w1.heap.size, 0, none⟩) 0 0)
    (A : Option Addr) (n c : Nat) (bs : List Nat) (F : Nat → Prop) (hx : a.eval x = .slice A n c) (hA : Arr w1 F A n (fun i => bV (bs.getD i 0))) (hF : ∀ k, F k → k < w1.heap.size) (hl : bs.length = n) (hnil : A = none → n = 0 ∧ c = 0) (hn : n ≤ 140737488355328)
    (h : ∀ A' c' w', w'.ownsRow w1.heap.size 5 1 (.slice A' n c') n (bs.map bV) → New w1 w' → K (a.put o.dst (.slice A' n c')) w') : o.wp Try.prog a (w1.alloc (.cells #[] 5)) K Q := by
  obtain ⟨i0, hi, hz0, hz1, hz2⟩ := info_parts Try.info5
  have ho1 := own_made w1 w1.heap.size (Nat.le_refl _)
  refine wp_append_src s x 56 ho w1.heap.size 5 i0 (.int .u8 0) 1 1 Try.underlying56 hi hz0 hz1 hz2 rfl (by decide) _ 0 [] hs ho1 A n c (bs.map bV) hx hnil (by rw [List.length_map, Nat.mul_one, hl]) (map_news (hA.new ((Chg.refl _ _).alloc _) hF) hl) (bV_one bs) (by simp only [maxLen]; omega) (by omega) (by simp) ?_
  intro A' c' w' hO hC _
  rw [Nat.zero_add] at hO ⊢
  exact h A' c' w' hO (((Chg.refl _ _).alloc _).trans hC (fun i hi hk => by have := (ho1.lt i hk).1; omega))
theorem wpList_copy {w1 : World} {ops : Array Oper} {rest : List Oper} {o : Oper} {a : Act} {Q : Exit → Act → World → Prop} (hgd : o.guard = none) (s x : Operand)
    (ho : o.op = .call { callee := .builtin .append, args := #[s, x], argTypes := #[56, 56] }) (hs : a.eval s = .slice (some ⟨w1.heap.size, 0, none⟩) 0 0)
    (A : Option Addr) (n c : Nat) (bs : List Nat) (F : Nat → Prop) (hx : a.eval x = .slice A n c) (hA : Arr w1 F A n (fun i => bV (bs.getD i 0))) (hF : ∀ k, F k → k < w1.heap.size) (hl : bs.length = n) (hnil : A = none → n = 0 ∧ c = 0) (hn : n ≤ 140737488355328)
    (h : ∀ A' c' w', w'.ownsRow w1.heap.size 5 1 (.slice A' n c') n (bs.map bV) → New w1 w' → wpList Try.prog ops Q rest (a.put o.dst (.slice A' n c')) w') : wpList Try.prog ops Q (o :: rest) a (w1.alloc (.cells #[] 5)) :=
  wpList_plain hgd fun _ hK => wp_copy s x ho hs A n c bs F hx hA hF hl hnil hn fun A' c' w' h1 h2 => hK _ _ (h A' c' w' h1 h2)
/-- append of bytes onto a row that was made behind the world wX -/
theorem wp_app {wX wy : World} {o : Oper} {a : Act} {K : Act → World → Prop} {Q : Exit → Act → World → Prop} (hNy : New wX wy) (s x : Operand)
    (ho : o.op = .call { callee := .builtin .append, args := #[s, x], argTypes := #[56, 56] }) (v : Value) (n : Nat) (xs : List Nat) (hs : a.eval s = v) (hown : wy.ownsRow wX.heap.size 5 1 v n (xs.map bV))
    (A : Option Addr) (m c : Nat) (ys : List Nat) (F : Nat → Prop) (hx : a.eval x = .slice A m c) (hA : Arr wy F A m (fun i => bV (ys.getD i 0))) (hl : ys.length = m) (hnil : A = none → m = 0 ∧ c = 0) (hn : n + m ≤ 140737488355328)
    (h : ∀ A' c' w', w'.ownsRow wX.heap.size 5 1 (.slice A' (n + m) c') (n + m) ((xs ++ ys).map bV) → New wX w' → Chg (fun k => v.ownBlock = some k) wy w' → K (a.put o.dst (.slice A' (n + m) c')) w') : o.wp Try.prog a wy K Q := by
  obtain ⟨i0, hi, hz0, hz1, hz2⟩ := info_parts Try.info5
  refine wp_append_src s x 56 ho wX.heap.size 5 i0 (.int .u8 0) 1 1 Try.underlying56 hi hz0 hz1 hz2 rfl (by decide) v n _ hs hown A m c (ys.map bV) hx hnil (by rw [List.length_map, Nat.mul_one, hl]) (map_news hA hl) (bV_one ys) (by simp only [maxLen]; omega) (by omega) hNy.size ?_
  intro A' c' w' hO hC _
  rw [← List.map_append] at hO
  exact h A' c' w' hO (hNy.trans hC (fun i hi hk => by have := (hown.lt i hk).1; omega)) hC
theorem wpList_app {wX wy : World} {ops : Array Oper} {rest : List Oper} {o : Oper} {a : Act} {Q : Exit → Act → World → Prop} (hgd : o.guard = none) (hNy : New wX wy) (s x : Operand)
    (ho : o.op = .call { callee := .builtin .append, args := #[s, x], argTypes := #[56, 56] }) (v : Value) (n : Nat) (xs : List Nat) (hs : a.eval s = v) (hown : wy.ownsRow wX.heap.size 5 1 v n (xs.map bV))
    (A : Option Addr) (m c : Nat) (ys : List Nat) (F : Nat → Prop) (hx : a.eval x = .slice A m c) (hA : Arr wy F A m (fun i => bV (ys.getD i 0))) (hl : ys.length = m) (hnil : A = none → m = 0 ∧ c = 0) (hn : n + m ≤ 140737488355328)
    (h : ∀ A' c' w', w'.ownsRow wX.heap.size 5 1 (.slice A' (n + m) c') (n + m) ((xs ++ ys).map bV) → New wX w' → wpList Try.prog ops Q rest (a.put o.dst (.slice A' (n + m) c')) w') : wpList Try.prog ops Q (o :: rest) a wy :=
  wpList_plain hgd fun _ hK => wp_app hNy s x ho v n xs hs hown A m c ys F hx hA hl hnil hn fun A' c' w' h1 h2 _ => hK _ _ (h A' c' w' h1 h2)
theorem step_app {wX wy : World} {ops : Array Oper} {o : Oper} {a : Act} {K : Act → World → Prop} {Q : Exit → Act → World → Prop} {E : Prop} (hw : Region.wanted o (yielded ops a.tmps) = true) (hNy : New wX wy) (s x : Operand)
    (ho : o.op = .call { callee := .builtin .append, args := #[s, x], argTypes := #[56, 56] }) (v : Value) (n : Nat) (xs : List Nat) (hs : a.eval s = v) (hown : wy.ownsRow wX.heap.size 5 1 v n (xs.map bV))
    (A : Option Addr) (m c : Nat) (ys : List Nat) (F : Nat → Prop) (hx : a.eval x = .slice A m c) (hA : Arr wy F A m (fun i => bV (ys.getD i 0))) (hl : ys.length = m) (hnil : A = none → m = 0 ∧ c = 0) (hn : n + m ≤ 140737488355328)
    (h : ∀ A' c' w', w'.ownsRow wX.heap.size 5 1 (.slice A' (n + m) c') (n + m) ((xs ++ ys).map bV) → New wX w' → Chg (fun k => v.ownBlock = some k) wy w' → K (a.put o.dst (.slice A' (n + m) c')) w') :
    if Region.wanted o (yielded ops a.tmps) = true then Oper.wp Try.prog o a wy K Q else E := by
  rw [if_pos hw]
  exact wp_app hNy s x ho v n xs hs hown A m c ys F hx hA hl hnil hn h
theorem step_copy {wX wy : World} {ops : Array Oper} {o : Oper} {a : Act} {K : Act → World → Prop} {Q : Exit → Act → World → Prop} {E : Prop} (hw : Region.wanted o (yielded ops a.tmps) = true) (hNy : New wX wy) (s x : Operand)
    (ho : o.op = .call { callee := .builtin .append, args := #[s, x], argTypes := #[56, 56] }) (g : Nat) (hs : a.eval s = .slice (some ⟨g, 0, none⟩) 0 0) (hg : Has wy g 5 #[]) (hb : wX.heap.size ≤ g)
    (A : Option Addr) (m c : Nat) (ys : List Nat) (F : Nat → Prop) (hx : a.eval x = .slice A m c) (hA : Arr wy F A m (fun i => bV (ys.getD i 0))) (hl : ys.length = m) (hnil : A = none → m = 0 ∧ c = 0) (hn : m ≤ 140737488355328)
    (h : ∀ A' c' w', w'.ownsRow wX.heap.size 5 1 (.slice A' m c') m (ys.map bV) → New wX w' → Chg (· = g) wy w' → K (a.put o.dst (.slice A' m c')) w') :
    if Region.wanted o (yielded ops a.tmps) = true then Oper.wp Try.prog o a wy K Q else E := by
  refine step_app hw hNy s x ho _ 0 [] hs (own_empty hg hb) A m c ys F hx hA hl hnil (by omega) ?_
  intro A' c' w' hO hN hC
  rw [Nat.zero_add, List.nil_append] at hO
  rw [Nat.zero_add]
  refine h A' c' w' hO hN (hC.mono fun i _ hi => ?_)
  simp only [Value.ownBlock, Option.some.injEq] at hi
  exact hi.symm
end Go.Proofs.Ytficopkjpdfilaa
