import Derived.Test.YtkcokcanakljnaaTlvA
namespace Go.Proofs.Ytkcokcanakljnaa
open Go.RowKit
/-- append of bytes onto a row that was made behind the world wX, with what it may have turned -/
theorem wpList_app2 {wX wy : World} {ops : Array Oper} {rest : List Oper} {o : Oper} {a : Act} {Q : Exit → Act → World → Prop} (hgd : o.guard = none) (hNy : New wX wy) (s x : Operand)
    (ho : o.op = .call { callee := .builtin .append, args := #[s, x], argTypes := #[27, 27] }) (v : Value) (n : Nat) (xs : List Nat) (hs : a.eval s = v) (hown : wy.ownsRow wX.heap.size 5 1 v n (xs.map bV))
    (A : Option Addr) (m c : Nat) (ys : List Nat) (F : Nat → Prop) (hx : a.eval x = .slice A m c) (hA : Arr wy F A m (fun i => bV (ys.getD i 0))) (hl : ys.length = m) (hnil : A = none → m = 0 ∧ c = 0) (hn : n + m ≤ 140737488355328)
    (h : ∀ A' c' w', w'.ownsRow wX.heap.size 5 1 (.slice A' (n + m) c') (n + m) ((xs ++ ys).map bV) → New wX w' → Chg (fun k => v.ownBlock = some k) wy w' → wpList Try.prog ops Q rest (a.put o.dst (.slice A' (n + m) c')) w') : wpList Try.prog ops Q (o :: rest) a wy :=
  wpList_plain hgd fun _ hK => wp_app hNy s x ho v n xs hs hown A m c ys F hx hA hl hnil hn fun A' c' w' h1 h2 h3 => hK _ _ (h A' c' w' h1 h2 h3)
/-- an element's content; none: it is too long -/
def cont (t : Int) (bs : List Nat) (s : Tr) : Option (List Nat) := match (if t ≤ 127 then some bs else s.enc) with
  | none => none
  | some c => if 255 < c.length then none else some c
/-- one element laid ahead of others -/
def laidOn (t : Int) (c : Option (List Nat)) (r : Option (List Nat)) : Option (List Nat) := match c with
  | none => none
  | some c => match r with
    | none => none
    | some x => some (t.toNat :: c.length :: (c ++ x))
theorem enc_cons (t : Int) (bs : List Nat) (s r : Tr) : (Tr.cons t bs s r).enc = laidOn t (cont t bs s) r.enc := by
  simp only [Tr.enc, cont, laidOn]
  cases (if t ≤ 127 then some bs else s.enc) with
  | none => rfl
  | some c =>
    simp only
    by_cases h : 255 < c.length
    · simp [h]
    · rw [if_neg h, if_neg h]
      rfl
/-- what laying tells: bytes in new memory, or nothing and an error -/
def EncR (w : World) (o : Option (List Nat)) (yes no : Value) (e : Ending) (w' : World) : Prop := match o with
  | none => e = .returned (.tuple #[.slice none 0 0, no])
  | some x => ∃ A c, e = .returned (.tuple #[.slice A x.length c, yes]) ∧ w'.ownsRow w.heap.size 5 1 (.slice A x.length c) x.length (x.map bV) ∧ (∀ y ∈ x, y < 256) ∧ x.length ≤ 70000
/-- what an element's content is told as: bytes in whatever memory, or nothing and an error -/
def ContR (F : Nat → Prop) (b : Nat) (o : Option (List Nat)) (e : Ending) (w' : World) : Prop := match o with
  | none => e = .returned (.tuple #[.slice none 0 0, .int .i64 11])
  | some x => ∃ A c, e = .returned (.tuple #[.slice A x.length c, .int .i64 0]) ∧ Byts w' (fun k => (F k ∨ b ≤ k) ∧ k < w'.heap.size) (.slice A x.length c) x ∧ x.length ≤ 255
set_option maxRecDepth 100000 in
set_option maxHeartbeats 2000000 in
theorem contentOf_any (t : Int) (bs : List Nat) (sub : Tr) (vb : Value) (B : Option Addr) (p cb : Nat) (w : World) (F : Nat → Prop) (hb : Byts w F vb bs) (hF : ∀ k, F k → k < w.heap.size)
    (hC : 127 < t → ∀ w1, New w w1 → Calls Try.prog 74 #[.slice B p cb] w1 fun e w' => EncR w1 sub.enc (.int .i64 0) (.int .i64 11) e w' ∧ New w1 w') :
    Calls Try.prog 91 #[.agg #[.int .i64 t, vb, .slice B p cb]] w fun e w' => ContR F w.heap.size (cont t bs sub) e w' ∧ New w w' := by
  obtain ⟨Ab, cc, rfl, hA, hnil, h256, hbb⟩ := hb
  have HA := Lib.hid hA; clear hA
  have HF := Lib.hid hF; clear hF
  have HC := Lib.hid hC; clear hC
  have Hnil := Lib.hid hnil; clear hnil
  have H256 := Lib.hid h256; clear h256
  obtain ⟨bl, hbl⟩ : ∃ bl, bl = bs.length := ⟨_, rfl⟩
  have Hbl := Lib.hid hbl
  rw [← hbl] at hbb ⊢
  clear hbl
  go_enter Try.func91, Try.ntmps91
  go_wp2_with fail
  with_reducible refine (primitive_any t _).mono ?_
  rintro e w1 ⟨rfl, rfl⟩
  have hN0 : New w (w.alloc (.cells #[.int .i64 t, .slice Ab bl cc, .slice B p cb] 95)) := (Chg.refl _ _).alloc _
  have HN0 := Lib.hid hN0; clear hN0
  rcases Int.lt_or_le 127 t with h7 | h7
  · have Hc : Hid (cont t bs sub = match sub.enc with | none => none | some c => if 255 < c.length then none else some c) := by
      unfold cont; rw [Hid, if_neg (by omega)]
    have hd7 : decide (t ≤ 127) = false := by simp only [decide_eq_false_iff_not]; omega
    rw [hd7]
    clear hd7
    go_wp2_with fail
    with_reducible refine (HC.out h7 _ HN0.out).mono ?_
    rintro e w2 ⟨hE, hN⟩
    have HN := Lib.hid (HN0.out.then_new hN); clear hN
    cases hen : sub.enc with
    | none =>
      rw [hen] at hE
      simp only [EncR] at hE
      subst hE
      have Hen := Lib.hid hen; clear hen
      go_wp2_with fail
      go_ret2
      refine ⟨?_, HN.out⟩
      rw [Hc.out, Hen.out]; rfl
    | some x =>
      rw [hen] at hE
      obtain ⟨A2, c2, rfl, hO, hx, hxl⟩ := hE
      have HO := Lib.hid hO; clear hO
      have Hx := Lib.hid hx; clear hx
      obtain ⟨xl, hxe⟩ : ∃ xl, xl = x.length := ⟨_, rfl⟩
      have Hxe := Lib.hid hxe
      rw [← hxe] at hxl ⊢
      have Hen := Lib.hid hen; clear hen
      clear hxe
      rcases Nat.lt_or_ge 255 xl with hl | hl
      · go_wp2_with fail
        go_ret2
        refine ⟨?_, HN.out⟩
        rw [Hc.out, Hen.out]
        simp only [if_pos (show 255 < x.length by rw [← Hxe.out]; exact hl), ContR]
        rfl
      · go_wp2_with fail
        go_ret2
        refine ⟨?_, HN.out⟩
        rw [Hc.out, Hen.out]
        simp only [if_neg (show ¬ 255 < x.length by rw [← Hxe.out]; omega), ContR]
        refine ⟨A2, c2, by rw [← Hxe.out]; rfl, ?_, by rw [← Hxe.out]; exact hl⟩
        have h1 := HO.out
        rw [← Hxe.out] at h1 ⊢
        exact (Byts.of_own h1 Hx.out (by omega)).mono fun k hk => ⟨Or.inr (Nat.le_trans HN0.out.size (h1.lt k hk).1), (h1.lt k hk).2⟩
  · have Hc : Hid (cont t bs sub = if 255 < bs.length then none else some bs) := by
      unfold cont; rw [Hid, if_pos (by omega)]
    have hd7 : decide (t ≤ 127) = true := by simpa using h7
    rw [hd7]
    clear hd7
    rcases Nat.lt_or_ge 255 bl with hl | hl
    · go_wp2_with fail
      go_ret2
      refine ⟨?_, HN0.out⟩
      rw [Hc.out, ← Hbl.out]
      simp only [if_pos hl, ContR]
      rfl
    · go_wp2_with fail
      go_ret2
      refine ⟨?_, HN0.out⟩
      rw [Hc.out, ← Hbl.out]
      simp only [if_neg (show ¬ 255 < bl by omega), ContR]
      refine ⟨Ab, cc, by rw [← Hbl.out]; rfl, ?_, by rw [← Hbl.out]; exact hl⟩
      refine (Byts.new (w := w) (F := F) ?_ HN0.out HF.out).mono fun k hk => ⟨Or.inl hk, Nat.lt_of_lt_of_le (HF.out k hk) HN0.out.size⟩
      exact ⟨Ab, cc, rfl, HA.out, Hnil.out, H256.out, by rw [← Hbl.out]; exact hbb⟩
end Go.Proofs.Ytkcokcanakljnaa
