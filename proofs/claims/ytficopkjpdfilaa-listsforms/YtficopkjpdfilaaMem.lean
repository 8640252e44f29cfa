/-
  Words for memory: a block known whole, which blocks a call may have turned, slices that read as a list, append of one element.
-/
import Derived.Below
import Derived.Laws.OwnMore
import Derived.Deep.Draws
import Derived.Laws.Rows
import Derived.OneCell
import Derived.OwnWalk
import Derived.Maps.AppendAt
namespace Go.Proofs.Ytficopkjpdfilaa
open Go.RowKit

/-- Block g holds just the cells cs, of element type t; none of them is frozen. -/
def Has (w : World) (g : Nat) (t : TypeId) (cs : Array Value) : Prop := w.heap[g]? = some (.cells cs t (0, 0))
/-- Of the blocks that were there only those in S may have turned. -/
structure Chg (S : Nat → Prop) (w w' : World) : Prop where
  os : w'.os = w.os
  tape : w'.tape = w.tape
  output : w'.output = w.output
  size : w.heap.size ≤ w'.heap.size
  block : ∀ k, k < w.heap.size → ¬ S k → w'.heap[k]? = w.heap[k]?
/-- No old block has turned. -/
abbrev New : World → World → Prop := Chg fun _ => False

section
variable {w w' w1 : World} {S T : Nat → Prop} {g : Nat} {t : TypeId} {cs : Array Value}
theorem Chg.refl (S : Nat → Prop) (w : World) : Chg S w w := ⟨rfl, rfl, rfl, Nat.le_refl _, fun _ _ _ => rfl⟩
theorem Chg.trans (h : Chg S w w') (k : Chg T w' w1) (hT : ∀ i, i < w.heap.size → T i → S i) : Chg S w w1 :=
  ⟨k.os.trans h.os, k.tape.trans h.tape, k.output.trans h.output, Nat.le_trans h.size k.size,
    fun i hi hs => (k.block i (Nat.lt_of_lt_of_le hi h.size) (fun ht => hs (hT i hi ht))).trans (h.block i hi hs)⟩
theorem Chg.mono (h : Chg T w w') (hT : ∀ i, i < w.heap.size → T i → S i) : Chg S w w' :=
  ⟨h.os, h.tape, h.output, h.size, fun i hi hs => h.block i hi (fun ht => hs (hT i hi ht))⟩
theorem Chg.of_new (h : New w w') : Chg S w w' := h.mono fun _ _ f => f.elim
theorem Chg.then_new (h : Chg S w w') (k : New w' w1) : Chg S w w1 := h.trans k fun _ _ f => f.elim
theorem Chg.new_then (h : New w w') (k : Chg S w' w1) : Chg S w w1 := (Chg.of_new h).trans k fun _ _ f => f
theorem Chg.drew (h : Chg S w w') : Chg S w w'.drew := ⟨h.os, h.tape, h.output, h.size, h.block⟩
theorem Chg.drewN (h : Chg S w w') (n : Nat) : Chg S w (w'.drewN n) := ⟨h.os, h.tape, h.output, h.size, h.block⟩
theorem Chg.alloc (h : Chg S w w') (o : Obj) : Chg S w (w'.alloc o) :=
  h.then_new ⟨rfl, rfl, rfl, by simp, fun k hk _ => Below.heap_alloc _ _ _ hk⟩
theorem Chg.setCell (h : Chg S w w') {p : Addr} (hp : p.block < w.heap.size → S p.block) (u : Value) : Chg S w (w'.setCell p u) :=
  h.trans (T := fun k => k = p.block) ⟨rfl, rfl, rfl, by simp [World.setCell], fun k _ hk => Below.heap_setCell _ _ _ _ hk⟩ fun i hi e => by subst e; exact hp hi
theorem Chg.grown {row : Option Nat} (h : Chg S w w') (hg : w'.grownBy w1 row) (hr : ∀ k, row = some k → k < w.heap.size → S k) : Chg S w w1 :=
  h.trans (T := fun k => row = some k) ⟨hg.os, hg.tape, hg.output, hg.size, fun k hk hn => hg.block k hk (fun e => hn e.symm)⟩ fun i hi e => hr i e hi
theorem Chg.below {B : Nat} (h : Chg S w w') (hB : B ≤ w.heap.size) (hS : ∀ i, i < B → ¬ S i) : Below B w w' :=
  ⟨h.os, h.tape, h.output, h.size, fun k hk => h.block k (Nat.lt_of_lt_of_le hk hB) (hS k hk)⟩
theorem Chg.of_below {B : Nat} (h : Below B w w') : Chg (fun k => B ≤ k) w w' := ⟨h.os, h.tape, h.output, h.size, fun k _ hn => h.block k (by omega)⟩
theorem New.of_below (h : Below w.heap.size w w') : New w w' := ⟨h.os, h.tape, h.output, h.size, fun k hk _ => h.block k hk⟩
theorem New.below (h : New w w') : Below w.heap.size w w' := Chg.below h (Nat.le_refl _) fun _ _ f => f
theorem Chg.cell {p : Addr} (h : Chg S w w') (hp : p.block < w.heap.size) (hS : ¬ S p.block) : w'.cell? p = w.cell? p := World.cell?_of_block (w := w) (h.block p.block hp hS)

theorem Has.lt (h : Has w g t cs) : g < w.heap.size := lt_of_block h
theorem Has.cell (h : Has w g t cs) (i : Nat) : w.cell? ⟨g, i, none⟩ = cs[i]? := cell_of_row w g i cs t (0, 0) h
theorem Has.free (h : Has w g t cs) (i : Nat) : w.frozen? ⟨g, i, none⟩ = false := by unfold Has at h; simp [World.frozen?, h]
theorem Has.new (w : World) (t : TypeId) (cs : Array Value) : Has (w.alloc (.cells cs t)) w.heap.size t cs := heap_alloc_new w _
theorem Has.drew (h : Has w g t cs) : Has w.drew g t cs := h
theorem Has.drewN (h : Has w g t cs) (n : Nat) : Has (w.drewN n) g t cs := h
theorem Has.chg (h : Has w g t cs) (c : Chg S w w') (hS : ¬ S g) : Has w' g t cs := (c.block g h.lt hS).trans h
theorem Has.keep (h : Has w g t cs) (c : New w w') : Has w' g t cs := h.chg c fun f => f
theorem Has.alloc (h : Has w g t cs) (o : Obj) : Has (w.alloc o) g t cs := (Below.heap_alloc w o g h.lt).trans h
theorem Has.set (h : Has w g t cs) (i : Nat) (u : Value) : Has (w.setCell ⟨g, i, none⟩ u) g t (cs.setIfInBounds i u) := by
  unfold Has at h ⊢; simp [World.setCell, Array.getElem?_modify, h]
theorem Has.far (h : Has w g t cs) {p : Addr} (hp : g ≠ p.block) (u : Value) : Has (w.setCell p u) g t cs := (Below.heap_setCell w p u g hp).trans h
theorem Has.apart {g' : Nat} {t' : TypeId} {cs' : Array Value} (h : Has w g t cs) (h' : Has w g' t' cs') (hne : t ≠ t') : g ≠ g' := by
  rintro rfl
  unfold Has at h h'
  rw [h] at h'
  simp only [Option.some.injEq, Obj.cells.injEq] at h'
  exact hne h'.2.1
end

section
variable {w w' : World} {S : Nat → Prop} {base e size n : Nat} {v : Value} {xs : List Value}
theorem own_chg (h : w.ownsRow base e size v n xs) (c : Chg S w w') (hS : ∀ k, v.ownBlock = some k → ¬ S k) : w'.ownsRow base e size v n xs := by
  refine ⟨h.1, ?_⟩
  rcases h.2 with hn | ⟨g, cap, cur, rfl, hb, hg, r⟩
  · exact Or.inl hn
  · exact Or.inr ⟨g, cap, cur, rfl, hb, (c.block g (lt_of_block hg) (hS g rfl)).trans hg, r⟩
theorem own_new (h : w.ownsRow base e size v n xs) (c : New w w') : w'.ownsRow base e size v n xs := own_chg h c fun _ _ f => f
theorem own_apart {g : Nat} {t : TypeId} {cs : Array Value} (h : w.ownsRow base e size v n xs) (hg : Has w g t cs) (hne : e ≠ t) : v.ownBlock ≠ some g := by
  rcases h.2 with ⟨rfl, _⟩ | ⟨g', cap, cur, rfl, _, hh, _⟩
  · simp [Value.ownBlock]
  · intro he
    have : g' = g := by simpa [Value.ownBlock] using he
    subst this
    exact Has.apart (t := e) hh hg hne rfl
theorem own_base {base' : Nat} (h : w.ownsRow base e size v n xs) (hb : ∀ k, v.ownBlock = some k → base' ≤ k) : w.ownsRow base' e size v n xs := by
  refine ⟨h.1, ?_⟩
  rcases h.2 with hn | ⟨g, cap, cur, rfl, _, r⟩
  · exact Or.inl hn
  · exact Or.inr ⟨g, cap, cur, rfl, hb g rfl, r⟩
end

theorem own_form {w : World} {base e size n : Nat} {v : Value} {xs : List Value} (h : w.ownsRow base e size v n xs) : ∃ A c, v = .slice A n c ∧ (A = none → n = 0 ∧ c = 0) := by
  rcases h.2 with ⟨rfl, rfl⟩ | ⟨g, cap, cur, rfl, _⟩
  · exact ⟨_, _, rfl, fun _ => ⟨rfl, rfl⟩⟩
  · exact ⟨_, _, rfl, fun h => by cases h⟩
theorem map_range_get {α : Type} {n j : Nat} {f : Nat → α} {u : α} (h : ((List.range n).map f)[j]? = some u) : j < n ∧ f j = u := by
  rw [List.getElem?_map, Option.map_eq_some_iff] at h
  obtain ⟨a, h1, h2⟩ := h
  rw [List.getElem?_eq_some_iff] at h1
  obtain ⟨hlt, h3⟩ := h1
  simp only [List.length_range] at hlt
  simp only [List.getElem_range] at h3
  subst h3
  exact ⟨hlt, h2⟩

/-- A slice of n cells that lies in a block of F: cell i holds f i. -/
def Arr (w : World) (F : Nat → Prop) (A : Option Addr) (n : Nat) (f : Nat → Value) : Prop := ∀ i, i < n → ∃ a, A = some a ∧ F a.block ∧ w.cell? (a.add i) = some (f i)
theorem add_block (a : Addr) (n : Nat) : (a.add n).block = a.block := by unfold Addr.add; split <;> rfl
section
variable {w w' : World} {S F : Nat → Prop} {n : Nat} {A : Option Addr} {f : Nat → Value}
theorem Arr.chg (h : Arr w F A n f) (c : Chg S w w') (hF : ∀ k, F k → k < w.heap.size ∧ ¬ S k) : Arr w' F A n f := fun i hi => by
  obtain ⟨a, rfl, hb, hc⟩ := h i hi
  exact ⟨a, rfl, hb, (c.cell (by rw [add_block]; exact (hF _ hb).1) (by rw [add_block]; exact (hF _ hb).2)).trans hc⟩
theorem Arr.new (h : Arr w F A n f) (c : New w w') (hF : ∀ k, F k → k < w.heap.size) : Arr w' F A n f := h.chg c fun k hk => ⟨hF k hk, fun f => f⟩
theorem Arr.mono {F' : Nat → Prop} (h : Arr w F A n f) (hF : ∀ k, F k → F' k) : Arr w F' A n f := fun i hi => by
  obtain ⟨a, rfl, hb, hc⟩ := h i hi
  exact ⟨a, rfl, hF _ hb, hc⟩
theorem Arr.of_own {base e cap : Nat} {xs : List Value} (h : w.ownsRow base e 1 (.slice A n cap) n xs) : Arr w (fun k => Value.ownBlock (.slice A n cap) = some k) A n (fun i => xs.getD i undef) := by
  intro i hi
  rcases h.2 with ⟨hv, hn⟩ | ⟨g, c, cur, hv, _, hg, _⟩
  · omega
  · simp only [Value.slice.injEq] at hv
    obtain ⟨rfl, _, rfl⟩ := hv
    have hl : i < xs.length := by have := h.1; omega
    refine ⟨_, rfl, rfl, ?_⟩
    rw [h.cells (g := g) rfl i xs[i] (List.getElem?_eq_getElem hl)]
    simp [List.getD_eq_getElem?_getD, List.getElem?_eq_getElem hl]
theorem Arr.of_has {g : Nat} {t : TypeId} {cs : Array Value} (h : Has w g t cs) (hn : n ≤ cs.size) : Arr w (· = g) (some ⟨g, 0, none⟩) n (fun i => cs.getD i undef) := by
  intro i hi
  have hadd : (⟨g, 0, none⟩ : Addr).add i = ⟨g, i, none⟩ := by unfold Addr.add; split <;> simp_all
  refine ⟨_, rfl, rfl, ?_⟩
  have hlt : i < cs.size := by omega
  rw [hadd, h.cell i]
  simp [hlt]
end
/-- 'append(s, x)', s the call's own: x was laid in a block of its own just before. -/
theorem wpList_append_one {P : Program} {w0 : World} {ops : Array Oper} {rest : List Oper} {o : Oper} {a : Act} {Q : Exit → Act → World → Prop} (hgd : o.guard = none) (s x : Operand) (t : TypeId)
    (ho : o.op = .call { callee := .builtin .append, args := #[s, x], argTypes := #[t, t] })
    (base : Nat) (e : TypeId) (i : TypeInfo) (z : Value) (size bytes : Nat) (ht : P.underlying t = some (.slice e)) (hi : P.info? e = some i) (hz : i.zero = some z)
    (hsize : i.size = size) (hby : i.bytes = bytes) (hzs : z.cells.size = size) (hsz : 0 < size)
    (v : Value) (n : Nat) (xs : List Value) (hs : a.eval s = v) (hown : w0.ownsRow base e size v n xs) (cs : Array Value)
    (hx : a.eval x = .slice (some ⟨w0.heap.size, 0, none⟩) 1 1) (hcs : cs.size = size) (h1 : ∀ u ∈ cs.toList, u.oneCell' = true)
    (h63 : n + 1 ≤ maxLen) (hbytes : (n + 1) * bytes ≤ 140737488355328) (hbase : base ≤ w0.heap.size)
    (h : ∀ A' c' w', w'.ownsRow base e size (.slice A' (n + 1) c') (n + 1) (xs ++ cs.toList) → Chg (fun k => v.ownBlock = some k) w0 w' →
      (Value.ownBlock (.slice A' (n + 1) c') = v.ownBlock ∨ ∀ k, Value.ownBlock (.slice A' (n + 1) c') = some k → w0.heap.size ≤ k) → wpList P ops Q rest (a.put o.dst (.slice A' (n + 1) c')) w') :
    wpList P ops Q (o :: rest) a (w0.alloc (.cells cs e)) := by
  refine wpList_append_own_at (P := P) _ hgd s x t ho base e i z size bytes ht hi hz hsize hby hzs hsz v n xs hs (hown.alloc _) ⟨w0.heap.size, 0, none⟩ 1 1 cs.toList hx (by simp [hcs]) ?_ h1 h63 hbytes (by simp; omega) ?_
  · intro j u hu
    have hadd : (⟨w0.heap.size, 0, none⟩ : Addr).add j = ⟨w0.heap.size, j, none⟩ := by unfold Addr.add; split <;> simp_all
    rw [hadd, (Has.new w0 e cs).cell j]
    simpa using hu
  · intro v' w' ho' hg _ hf
    obtain ⟨A', c', rfl, _⟩ := own_form ho'
    refine h A' c' w' ho' (Chg.grown ((Chg.refl _ _).alloc _) hg fun k hk _ => hk) ?_
    rcases hf with hf | hf
    · exact Or.inl hf
    · refine Or.inr fun k hk => ?_
      rw [hf] at hk
      simp only [Option.some.injEq, World.size_alloc] at hk
      omega
end Go.Proofs.Ytficopkjpdfilaa
