/-
  Append of a slice that came in; fields as cells; two lists of fields joined.
-/
import Derived.Test.YtcnnakidpnhecaaWords
import Derived.Deep.RegionLaw
import Derived.Laws.AppendOwnNone
namespace Go.Proofs.Ytcnnakidpnhecaa
open Go.RowKit

/-- 'append(s, xs...)', s the call's own, xs whatever came in (nil too), as one step -/
theorem wp_append_src {P : Program} {w : World} {o : Oper} {a : Act} {K : Act → World → Prop} {Q : Exit → Act → World → Prop} (s x : Operand) (t : TypeId)
    (ho : o.op = .call { callee := .builtin .append, args := #[s, x], argTypes := #[t, t] })
    (base : Nat) (e : TypeId) (i : TypeInfo) (z : Value) (size bytes : Nat) (ht : P.underlying t = some (.slice e)) (hi : P.info? e = some i) (hz : i.zero = some z)
    (hsize : i.size = size) (hby : i.bytes = bytes) (hzs : z.cells.size = size) (hsz : 0 < size)
    (v : Value) (n : Nat) (xs : List Value) (hs : a.eval s = v) (hown : w.ownsRow base e size v n xs)
    (A : Option Addr) (m c : Nat) (news : List Value) (hx : a.eval x = .slice A m c) (hnil : A = none → m = 0 ∧ c = 0) (hl : news.length = m * size)
    (hnews : ∀ j u, news[j]? = some u → ∃ ad, A = some ad ∧ w.cell? (ad.add j) = some u) (h1 : ∀ u ∈ news, u.oneCell' = true)
    (h63 : n + m ≤ maxLen) (hbytes : (n + m) * bytes ≤ 140737488355328) (hbase : base ≤ w.heap.size)
    (h : ∀ A' c' w', w'.ownsRow base e size (.slice A' (n + m) c') (n + m) (xs ++ news) → Chg (fun k => v.ownBlock = some k) w w' →
      (Value.ownBlock (.slice A' (n + m) c') = v.ownBlock ∨ ∀ k, Value.ownBlock (.slice A' (n + m) c') = some k → w.heap.size ≤ k) → K (a.put o.dst (.slice A' (n + m) c')) w') : o.wp P a w K Q := by
  cases A with
  | none =>
    obtain ⟨rfl, rfl⟩ := hnil rfl
    have hn : news = [] := List.eq_nil_of_length_eq_zero (by simpa using hl)
    subst hn
    obtain ⟨A', c', rfl, _⟩ := own_form hown
    have hr := run_append_owned_none (P := P) (w := w) base t o.type e i size ht hi _ n xs hown
    unfold Oper.wp execOp
    simp only [ho, resolve, invoke, builtin, Sem.run_bind, Sem.run_pure, Result.andThen_ok, List.map_toArray, List.map_cons, List.map_nil, hs, hx, hr]
    exact h A' c' w (by simpa using hown) (Chg.refl _ _) (Or.inl rfl)
  | some ad =>
    obtain ⟨v', w', hr, h2, h3, _, h5⟩ := run_append_own_at (P := P) w base t o.type e i z size bytes ht hi hz hsize hby hzs hsz v n xs hown ad m c news hl (fun j u hu => by
      obtain ⟨ad', ha, hc⟩ := hnews j u hu
      simp only [Option.some.injEq] at ha
      subst ha
      exact hc) h1 h63 hbytes hbase
    obtain ⟨A', c', rfl, _⟩ := own_form h2
    unfold Oper.wp execOp
    simp only [ho, resolve, invoke, builtin, Sem.run_bind, Sem.run_pure, Result.andThen_ok, List.map_toArray, List.map_cons, List.map_nil, hs, hx, hr]
    refine h A' c' w' h2 (Chg.grown (Chg.refl _ _) h3 fun k hk _ => hk) ?_
    rcases h5 with h5 | h5
    · exact Or.inl h5
    · refine Or.inr fun k hk => ?_
      rw [h5] at hk
      simp only [Option.some.injEq] at hk
      omega
theorem step_append_src {P : Program} {w : World} {ops : Array Oper} {o : Oper} {a : Act} {K : Act → World → Prop} {Q : Exit → Act → World → Prop} {E : Prop} (hgd : o.guard = none) (s x : Operand) (t : TypeId)
    (ho : o.op = .call { callee := .builtin .append, args := #[s, x], argTypes := #[t, t] })
    (base : Nat) (e : TypeId) (i : TypeInfo) (z : Value) (size bytes : Nat) (ht : P.underlying t = some (.slice e)) (hi : P.info? e = some i) (hz : i.zero = some z)
    (hsize : i.size = size) (hby : i.bytes = bytes) (hzs : z.cells.size = size) (hsz : 0 < size)
    (v : Value) (n : Nat) (xs : List Value) (hs : a.eval s = v) (hown : w.ownsRow base e size v n xs)
    (A : Option Addr) (m c : Nat) (news : List Value) (hx : a.eval x = .slice A m c) (hnil : A = none → m = 0 ∧ c = 0) (hl : news.length = m * size)
    (hnews : ∀ j u, news[j]? = some u → ∃ ad, A = some ad ∧ w.cell? (ad.add j) = some u) (h1 : ∀ u ∈ news, u.oneCell' = true)
    (h63 : n + m ≤ maxLen) (hbytes : (n + m) * bytes ≤ 140737488355328) (hbase : base ≤ w.heap.size)
    (h : ∀ A' c' w', w'.ownsRow base e size (.slice A' (n + m) c') (n + m) (xs ++ news) → Chg (fun k => v.ownBlock = some k) w w' →
      (Value.ownBlock (.slice A' (n + m) c') = v.ownBlock ∨ ∀ k, Value.ownBlock (.slice A' (n + m) c') = some k → w.heap.size ≤ k) → K (a.put o.dst (.slice A' (n + m) c')) w') :
    if Region.wanted o (yielded ops a.tmps) = true then Oper.wp P o a w K Q else E := by
  have hw : Region.wanted o (yielded ops a.tmps) = true := by simp [Region.wanted, hgd]
  rw [if_pos hw]
  exact wp_append_src s x t ho base e i z size bytes ht hi hz hsize hby hzs hsz v n xs hs hown A m c news hx hnil hl hnews h1 h63 hbytes hbase h
theorem wpList_append_src {P : Program} {w : World} {ops : Array Oper} {rest : List Oper} {o : Oper} {a : Act} {Q : Exit → Act → World → Prop} (hgd : o.guard = none) (s x : Operand) (t : TypeId)
    (ho : o.op = .call { callee := .builtin .append, args := #[s, x], argTypes := #[t, t] })
    (base : Nat) (e : TypeId) (i : TypeInfo) (z : Value) (size bytes : Nat) (ht : P.underlying t = some (.slice e)) (hi : P.info? e = some i) (hz : i.zero = some z)
    (hsize : i.size = size) (hby : i.bytes = bytes) (hzs : z.cells.size = size) (hsz : 0 < size)
    (v : Value) (n : Nat) (xs : List Value) (hs : a.eval s = v) (hown : w.ownsRow base e size v n xs)
    (A : Option Addr) (m c : Nat) (news : List Value) (hx : a.eval x = .slice A m c) (hnil : A = none → m = 0 ∧ c = 0) (hl : news.length = m * size)
    (hnews : ∀ j u, news[j]? = some u → ∃ ad, A = some ad ∧ w.cell? (ad.add j) = some u) (h1 : ∀ u ∈ news, u.oneCell' = true)
    (h63 : n + m ≤ maxLen) (hbytes : (n + m) * bytes ≤ 140737488355328) (hbase : base ≤ w.heap.size)
    (h : ∀ A' c' w', w'.ownsRow base e size (.slice A' (n + m) c') (n + m) (xs ++ news) → Chg (fun k => v.ownBlock = some k) w w' →
      (Value.ownBlock (.slice A' (n + m) c') = v.ownBlock ∨ ∀ k, Value.ownBlock (.slice A' (n + m) c') = some k → w.heap.size ≤ k) → wpList P ops Q rest (a.put o.dst (.slice A' (n + m) c')) w') : wpList P ops Q (o :: rest) a w :=
  wpList_plain hgd fun _ hK => wp_append_src s x t ho base e i z size bytes ht hi hz hsize hby hzs hsz v n xs hs hown A m c news hx hnil hl hnews h1 h63 hbytes hbase fun A' c' w' h2 h3 h4 => hK _ _ (h A' c' w' h2 h3 h4)

/-- the cells of fields, one behind the other -/
def fcells (fw fv : Nat → Int) : Nat → List Value
  | 0 => []
  | n + 1 => fcells fw fv n ++ [.int .i64 (fw n), .int .i64 (fv n)]
theorem fcells_len (fw fv : Nat → Int) (n : Nat) : (fcells fw fv n).length = n * 2 := by
  induction n with
  | zero => rfl
  | succ n ih => simp only [fcells, List.length_append, ih, List.length_cons, List.length_nil]; omega
theorem fcells_get (fw fv : Nat → Int) (n i : Nat) (h : i < n) : (fcells fw fv n)[i * 2]? = some (.int .i64 (fw i)) ∧ (fcells fw fv n)[i * 2 + 1]? = some (.int .i64 (fv i)) := by
  induction n with
  | zero => omega
  | succ n ih =>
    simp only [fcells]
    rcases Nat.lt_or_ge i n with h1 | h1
    · have := ih h1
      rw [List.getElem?_append_left (by rw [fcells_len]; omega), List.getElem?_append_left (by rw [fcells_len]; omega)]
      exact this
    · obtain rfl : i = n := by omega
      rw [List.getElem?_append_right (by rw [fcells_len]; omega), List.getElem?_append_right (by rw [fcells_len]; omega), fcells_len]
      have e1 : i * 2 - i * 2 = 0 := by omega
      have e2 : i * 2 + 1 - i * 2 = 1 := by omega
      rw [e1, e2]
      exact ⟨rfl, rfl⟩
theorem fcells_one (fw fv : Nat → Int) (n : Nat) : ∀ u ∈ fcells fw fv n, u.oneCell' = true := by
  induction n with
  | zero => simp [fcells]
  | succ n ih =>
    intro u hu
    simp only [fcells, List.mem_append, List.mem_cons, List.not_mem_nil, or_false] at hu
    rcases hu with hu | rfl | rfl
    · exact ih u hu
    · rfl
    · rfl
theorem Flds.cells {w : World} {F : Nat → Prop} {A : Option Addr} {n : Nat} {fw fv : Nat → Int} (h : Flds w F A n fw fv) : ∀ j u, (fcells fw fv n)[j]? = some u → ∃ ad, A = some ad ∧ w.cell? (ad.add j) = some u := by
  intro j u hu
  have hj : j < n * 2 := by
    rcases Nat.lt_or_ge j (n * 2) with h1 | h1
    · exact h1
    · rw [List.getElem?_eq_none (by rw [fcells_len]; exact h1)] at hu; cases hu
  obtain ⟨q, hq⟩ : ∃ q, q = j / 2 := ⟨_, rfl⟩
  obtain ⟨a, rfl, _, h1, h2⟩ := h q (by omega)
  have hg := fcells_get fw fv n q (by omega)
  rcases (show j = q * 2 ∨ j = q * 2 + 1 by omega) with e | e
  · rw [e, hg.1] at hu
    simp only [Option.some.injEq] at hu
    subst hu
    exact ⟨a, rfl, by rw [e]; exact h1⟩
  · rw [e, hg.2] at hu
    simp only [Option.some.injEq] at hu
    subst hu
    refine ⟨a, rfl, ?_⟩
    have e2 : (a.add (q * 2)).add 1 = a.add (q * 2 + 1) := by
      unfold Addr.add
      by_cases h0 : q * 2 = 0 <;> simp [h0, Nat.add_assoc]
    rw [e, ← e2]
    exact h2
def fcat (n : Nat) (f g : Nat → Int) (i : Nat) : Int := if i < n then f i else g (i - n)
theorem fcells_congr (fw fv fw' fv' : Nat → Int) (n : Nat) (h : ∀ i, i < n → fw i = fw' i ∧ fv i = fv' i) : fcells fw fv n = fcells fw' fv' n := by
  induction n with
  | zero => rfl
  | succ n ih => simp only [fcells]; rw [ih (fun i hi => h i (by omega)), (h n (by omega)).1, (h n (by omega)).2]
theorem fcells_cat (fw fv gw gv : Nat → Int) (n m : Nat) : fcells (fcat n fw gw) (fcat n fv gv) (n + m) = fcells fw fv n ++ fcells gw gv m := by
  induction m with
  | zero =>
    simp only [Nat.add_zero, fcells, List.append_nil]
    exact fcells_congr _ _ _ _ n (fun i hi => by simp [fcat, hi])
  | succ m ih =>
    rw [← Nat.add_assoc, fcells, ih, fcells, List.append_assoc]
    have h1 : ¬ n + m < n := by omega
    simp [fcat, h1]
theorem fbits_congr (fw fv fw' fv' : Nat → Int) (n : Nat) (h : ∀ i, i < n → fw i = fw' i ∧ fv i = fv' i) : fbits fw fv n = fbits fw' fv' n := by
  induction n with
  | zero => rfl
  | succ n ih => simp only [fbits]; rw [ih (fun i hi => h i (by omega)), (h n (by omega)).1, (h n (by omega)).2]
theorem fbits_cat (fw fv gw gv : Nat → Int) (n m : Nat) : fbits (fcat n fw gw) (fcat n fv gv) (n + m) = fbits fw fv n ++ fbits gw gv m := by
  induction m with
  | zero =>
    simp only [Nat.add_zero, fbits, List.append_nil]
    exact fbits_congr _ _ _ _ n (fun i hi => by simp [fcat, hi])
  | succ m ih =>
    rw [← Nat.add_assoc, fbits, ih, fbits, List.append_assoc]
    have h1 : ¬ n + m < n := by omega
    simp [fcat, h1]
/-- fields in a row of the call's own -/
theorem Flds.of_own {w : World} {base c : Nat} {A : Option Addr} {n : Nat} {fw fv : Nat → Int} (h : w.ownsRow base 62 2 (.slice A n c) n (fcells fw fv n)) : Flds w (fun k => Value.ownBlock (.slice A n c) = some k) A n fw fv := by
  intro i hi
  rcases h.2 with ⟨hv, hn⟩ | ⟨g, cap, cur, hv, _, hg, _⟩
  · omega
  · simp only [Value.slice.injEq] at hv
    obtain ⟨rfl, _, rfl⟩ := hv
    have hh := fcells_get fw fv n i hi
    have hadd : (⟨g, 0, none⟩ : Addr).add (i * 2) = ⟨g, i * 2, none⟩ := by unfold Addr.add; split <;> simp_all
    refine ⟨_, rfl, rfl, ?_, ?_⟩
    · rw [hadd, h.cellAt (i * 2) (by omega)]; exact hh.1
    · rw [hadd, h.cellAt (i * 2 + 1) (by omega)]; exact hh.2
end Go.Proofs.Ytcnnakidpnhecaa
