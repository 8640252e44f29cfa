import Derived.Test.YtkcokcanakljnaaTreeMem
namespace Go.Proofs.Ytkcokcanakljnaa
open Go.RowKit
theorem Try.info95 : (Try.prog.info? 95).map (fun i => (i.zero, i.size, i.bytes)) = some (some (.agg #[.int .i64 0, .slice none 0 0, .slice none 0 0]), 3, 56) := by kernel_rfl
/-- 'append(es, e)', es the call's own: e was laid in block g -/
theorem wp_push {wX wy : World} {o : Oper} {a : Act} {K : Act → World → Prop} {Q : Exit → Act → World → Prop} (hb : wX.heap.size ≤ wy.heap.size) (s x : Operand)
    (ho : o.op = .call { callee := .builtin .append, args := #[s, x], argTypes := #[90, 90] }) (v : Value) (n : Nat) (xs : List Value) (hs : a.eval s = v) (hown : wy.ownsRow wX.heap.size 95 3 v n xs)
    (g : Nat) (u0 u1 u2 : Value) (hx : a.eval x = .slice (some ⟨g, 0, none⟩) 1 1) (hg : Has wy g 95 #[u0, u1, u2]) (h0 : u0.oneCell' = true) (h1 : u1.oneCell' = true) (h2 : u2.oneCell' = true) (hn : (n + 1) * 56 ≤ 140737488355328)
    (h : ∀ A' c' w', w'.ownsRow wX.heap.size 95 3 (.slice A' (n + 1) c') (n + 1) (xs ++ [u0, u1, u2]) → Chg (fun k => v.ownBlock = some k) wy w' → (Value.ownBlock (.slice A' (n + 1) c') = v.ownBlock ∨ ∀ k, Value.ownBlock (.slice A' (n + 1) c') = some k → wy.heap.size ≤ k) → K (a.put o.dst (.slice A' (n + 1) c')) w') : o.wp Try.prog a wy K Q := by
  obtain ⟨i0, hi, hz0, hz1, hz2⟩ := info_parts Try.info95
  refine wp_append_src s x 90 ho wX.heap.size 95 i0 _ 3 56 Try.underlying90 hi hz0 hz1 hz2 rfl (by decide) v n xs hs hown _ 1 1 [u0, u1, u2] hx (fun h => by cases h) rfl (has_news (l := [u0, u1, u2]) hg) ?_ (by simp only [maxLen]; omega) hn hb h
  intro u hu
  simp only [List.mem_cons, List.not_mem_nil, or_false] at hu
  rcases hu with rfl | rfl | rfl
  · exact h0
  · exact h1
  · exact h2
theorem wpList_push {wX wy : World} {ops : Array Oper} {rest : List Oper} {o : Oper} {a : Act} {Q : Exit → Act → World → Prop} (hgd : o.guard = none) (hb : wX.heap.size ≤ wy.heap.size) (s x : Operand)
    (ho : o.op = .call { callee := .builtin .append, args := #[s, x], argTypes := #[90, 90] }) (v : Value) (n : Nat) (xs : List Value) (hs : a.eval s = v) (hown : wy.ownsRow wX.heap.size 95 3 v n xs)
    (g : Nat) (u0 u1 u2 : Value) (hx : a.eval x = .slice (some ⟨g, 0, none⟩) 1 1) (hg : Has wy g 95 #[u0, u1, u2]) (h0 : u0.oneCell' = true) (h1 : u1.oneCell' = true) (h2 : u2.oneCell' = true) (hn : (n + 1) * 56 ≤ 140737488355328)
    (h : ∀ A' c' w', w'.ownsRow wX.heap.size 95 3 (.slice A' (n + 1) c') (n + 1) (xs ++ [u0, u1, u2]) → Chg (fun k => v.ownBlock = some k) wy w' → (Value.ownBlock (.slice A' (n + 1) c') = v.ownBlock ∨ ∀ k, Value.ownBlock (.slice A' (n + 1) c') = some k → wy.heap.size ≤ k) → wpList Try.prog ops Q rest (a.put o.dst (.slice A' (n + 1) c')) w') : wpList Try.prog ops Q (o :: rest) a wy :=
  wpList_plain hgd fun _ hK => wp_push hb s x ho v n xs hs hown g u0 u1 u2 hx hg h0 h1 h2 hn fun A' c' w' h3 h4 h5 => hK _ _ (h A' c' w' h3 h4 h5)
theorem step_push {wX wy : World} {ops : Array Oper} {o : Oper} {a : Act} {K : Act → World → Prop} {Q : Exit → Act → World → Prop} {E : Prop} (hw : Region.wanted o (yielded ops a.tmps) = true) (hb : wX.heap.size ≤ wy.heap.size) (s x : Operand)
    (ho : o.op = .call { callee := .builtin .append, args := #[s, x], argTypes := #[90, 90] }) (v : Value) (n : Nat) (xs : List Value) (hs : a.eval s = v) (hown : wy.ownsRow wX.heap.size 95 3 v n xs)
    (g : Nat) (u0 u1 u2 : Value) (hx : a.eval x = .slice (some ⟨g, 0, none⟩) 1 1) (hg : Has wy g 95 #[u0, u1, u2]) (h0 : u0.oneCell' = true) (h1 : u1.oneCell' = true) (h2 : u2.oneCell' = true) (hn : (n + 1) * 56 ≤ 140737488355328)
    (h : ∀ A' c' w', w'.ownsRow wX.heap.size 95 3 (.slice A' (n + 1) c') (n + 1) (xs ++ [u0, u1, u2]) → Chg (fun k => v.ownBlock = some k) wy w' → (Value.ownBlock (.slice A' (n + 1) c') = v.ownBlock ∨ ∀ k, Value.ownBlock (.slice A' (n + 1) c') = some k → wy.heap.size ≤ k) → K (a.put o.dst (.slice A' (n + 1) c')) w') :
    if Region.wanted o (yielded ops a.tmps) = true then Oper.wp Try.prog o a wy K Q else E := by
  rw [if_pos hw]
  exact wp_push hb s x ho v n xs hs hown g u0 u1 u2 hx hg h0 h1 h2 hn h
/-- the blocks made since w, but for v's own row -/
def Gap (w wr : World) (v : Value) : Nat → Prop := fun j => w.heap.size ≤ j ∧ j < wr.heap.size ∧ ¬ (v.ownBlock = some j)
/-- the blocks made between two worlds -/
def Btw (w w' : World) : Nat → Prop := fun j => w.heap.size ≤ j ∧ j < w'.heap.size
/-- the elements done so far, in a row of their own -/
def Done (w wr : World) (v : Value) (k : Nat) (D : Tr) : Prop := D.len = k ∧ ∃ xs, wr.ownsRow w.heap.size 95 3 v k xs ∧ OwnT wr (Gap w wr v) xs D
theorem Done.start (w : World) : Done w w (.slice none 0 0) 0 .nil := ⟨rfl, [], World.ownsRow_nil _ _ _ _, rfl⟩
theorem Done.new {w wr wy : World} {v : Value} {k : Nat} {D : Tr} (h : Done w wr v k D) (hN : New wr wy) : Done w wy v k D := by
  obtain ⟨hl, xs, hO, hT⟩ := h
  exact ⟨hl, xs, own_new hO hN, (OwnT.new hT hN).mono fun j ⟨h1, h2, h3⟩ => ⟨h1, Nat.lt_of_lt_of_le h2 hN.size, h3⟩⟩
theorem Done.push {w wr wy w' : World} {v : Value} {A' : Option Addr} {k c' : Nat} {D : Tr} {xs : List Value} {t : Int} {bs : List Nat} {sub : Tr} {vb vs : Value}
    (hl : D.len = k) (hO : wr.ownsRow w.heap.size 95 3 v k xs) (hT : OwnT wr (Gap w wr v) xs D) (hNw : w.heap.size ≤ wr.heap.size) (hN : New wr wy) (hb : OwnR wy (Btw wr wy) 5 1 vb bs.length (bs.map bV)) (h256 : ∀ x ∈ bs, x < 256) (hbl : bs.length ≤ 140737488355328)
    (hsl : sub.len * 56 ≤ 140737488351232) (ht : -9223372036854775808 ≤ t ∧ t ≤ 9223372036854775807) (hs : OwnE wy (Btw wr wy) vs sub)
    (hO' : w'.ownsRow w.heap.size 95 3 (.slice A' (k + 1) c') (k + 1) (xs ++ [.int .i64 t, vb, vs])) (hC : Chg (fun k => v.ownBlock = some k) wy w')
    (hf : Value.ownBlock (.slice A' (k + 1) c') = v.ownBlock ∨ ∀ j, Value.ownBlock (.slice A' (k + 1) c') = some j → wy.heap.size ≤ j) : Done w w' (.slice A' (k + 1) c') (k + 1) (D.app (.cons t bs sub .nil)) := by
  have hlt : ∀ j, v.ownBlock = some j → j < wr.heap.size := fun j hj => (hO.lt j hj).2
  refine ⟨by rw [Tr.len_app, hl]; rfl, _, hO', ?_⟩
  have h1 : OwnT w' (Gap w w' (.slice A' (k + 1) c')) xs D := by
    refine OwnT.mono (F := Gap w wr v) (fun j ⟨h1, h2, h3⟩ => ⟨h1, Nat.lt_of_lt_of_le h2 (Nat.le_trans hN.size hC.size), ?_⟩) (OwnT.chg hC (fun j hj => hj.2.2) (OwnT.new hT hN))
    rcases hf with hf | hf
    · rw [hf]; exact h3
    · intro he; have := hf j he; have := hN.size; omega
  have hB : ∀ j, Btw wr wy j → Gap w w' (.slice A' (k + 1) c') j := fun j ⟨h1, h2⟩ => ⟨by omega, Nat.lt_of_lt_of_le h2 hC.size, by
    rcases hf with hf | hf
    · rw [hf]; intro he; have := hlt j he; omega
    · intro he; have := hf j he; omega⟩
  have hBS : ∀ j, Btw wr wy j → ¬ (v.ownBlock = some j) := fun j ⟨h1, h2⟩ he => by have := hlt j he; omega
  refine OwnT.app ?_ h1
  obtain ⟨zs, hz, hzt⟩ := hs
  refine ⟨vb, vs, [], rfl, ?_, h256, hbl, hsl, ht, ⟨zs, ?_, OwnT.mono hB (OwnT.chg hC hBS hzt)⟩, rfl⟩
  · exact ⟨own_chg hb.1 hC (fun j hj => hBS j (hb.2 j hj)), fun j hj => hB j (hb.2 j hj)⟩
  · exact ⟨own_chg hz.1 hC (fun j hj => hBS j (hz.2 j hj)), fun j hj => hB j (hz.2 j hj)⟩
theorem own_less0 {w : World} {b e size n : Nat} {v : Value} {xs : List Value} (h : w.ownsRow b e size v n xs) : w.ownsRow 0 e size v n xs := own_base h fun _ _ => Nat.zero_le _
theorem Done.out {w wr : World} {v : Value} {k : Nat} {D : Tr} (h : Done w wr v k D) : OwnE wr (Btw w wr) v D := by
  obtain ⟨rfl, xs, hO, hT⟩ := h
  exact ⟨xs, ⟨own_less0 hO, fun j hj => hO.lt j hj⟩, OwnT.mono (fun j ⟨h1, h2, _⟩ => ⟨h1, h2⟩) hT⟩
end Go.Proofs.Ytkcokcanakljnaa
