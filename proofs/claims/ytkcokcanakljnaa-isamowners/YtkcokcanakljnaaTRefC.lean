import Derived.Test.YtkcokcanakljnaaTlvD
namespace Go.Proofs.Ytkcokcanakljnaa
open Go.RowKit
theorem arr_one {w : World} {g x : Nat} (h : Has w g 5 #[.int .u8 (x : Int)]) : Arr w (· = g) (some ⟨g, 0, none⟩) 1 (fun i => bV ([x].getD i 0)) := by
  intro i hi
  refine ⟨_, rfl, rfl, ?_⟩
  have hadd : (⟨g, 0, none⟩ : Addr).add i = ⟨g, i, none⟩ := by unfold Addr.add; split <;> simp_all
  rw [hadd, h.cell i]
  obtain rfl : i = 0 := by omega
  rfl
/-- what a row that is appended to may have been moved to -/
theorem ap_next {w2 w5 : World} {o : Obj} {G : Nat → Prop} {v v' : Value} (hap : ∀ k, G k → k < w2.heap.size ∧ ¬ (v.ownBlock = some k)) (hs : w2.heap.size ≤ w5.heap.size) (hf : v'.ownBlock = v.ownBlock ∨ ∀ k, v'.ownBlock = some k → (w2.alloc o).heap.size ≤ k) : ∀ k, G k → k < w5.heap.size ∧ ¬ (v'.ownBlock = some k) := fun k hk => by
  obtain ⟨h1, h2⟩ := hap k hk
  refine ⟨by omega, fun he => ?_⟩
  rcases hf with hf | hf
  · exact h2 (by rw [← hf]; exact he)
  · have := hf k he; simp at this; omega
theorem wpList_app3 {wX wy : World} {ops : Array Oper} {rest : List Oper} {o : Oper} {a : Act} {Q : Exit → Act → World → Prop} (hgd : o.guard = none) (hNy : New wX wy) (s x : Operand)
    (ho : o.op = .call { callee := .builtin .append, args := #[s, x], argTypes := #[27, 27] }) (v : Value) (n : Nat) (xs : List Nat) (hs : a.eval s = v) (hown : wy.ownsRow wX.heap.size 5 1 v n (xs.map bV))
    (A : Option Addr) (m c : Nat) (ys : List Nat) (F : Nat → Prop) (hx : a.eval x = .slice A m c) (hA : Arr wy F A m (fun i => bV (ys.getD i 0))) (hl : ys.length = m) (hnil : A = none → m = 0 ∧ c = 0) (hn : n + m ≤ 140737488355328)
    (h : ∀ A' c' w', w'.ownsRow wX.heap.size 5 1 (.slice A' (n + m) c') (n + m) ((xs ++ ys).map bV) → New wX w' → Chg (fun k => v.ownBlock = some k) wy w' → (Value.ownBlock (.slice A' (n + m) c') = v.ownBlock ∨ ∀ k, Value.ownBlock (.slice A' (n + m) c') = some k → wy.heap.size ≤ k) → wpList Try.prog ops Q rest (a.put o.dst (.slice A' (n + m) c')) w') : wpList Try.prog ops Q (o :: rest) a wy := by
  obtain ⟨i0, hi, hz0, hz1, hz2⟩ := info_parts Try.info5
  refine wpList_append_src hgd s x 27 ho wX.heap.size 5 i0 (.int .u8 0) 1 1 Try.underlying27 hi hz0 hz1 hz2 rfl (by decide) v n _ hs hown A m c (ys.map bV) hx hnil (by rw [List.length_map, Nat.mul_one, hl]) (map_news hA hl) (bV_one ys) (by simp only [maxLen]; omega) (by omega) hNy.size ?_
  intro A' c' w' hO hC hf
  rw [← List.map_append] at hO
  exact h A' c' w' hO (hNy.trans hC (fun i hi hk => by have := (hown.lt i hk).1; omega)) hC hf
end Go.Proofs.Ytkcokcanakljnaa
