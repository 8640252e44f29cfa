import Derived.Test.YtkcokcanakljnaaCuts
import Derived.Test.YtkcokcanakljnaaLCop
namespace Go.Proofs.Ytkcokcanakljnaa
open Go.RowKit
theorem lastT_app (l : Int) (T : Tr) (t : Int) (bs : List Nat) (s : Tr) : lastT l (T.app (.cons t bs s .nil)) = t := by
  induction T generalizing l with
  | nil => rfl
  | cons t' b' s' r' _ ih => exact ih t'
theorem join_ok {a b : Tr} {z : List Nat} (h : (a.app b).put = .ok z) : (∃ x, a.put = .ok x) ∧ ∃ y, b.put = .ok y := by
  obtain ⟨hr, hd, he⟩ := put_ok h
  rw [right_app, Bool.and_eq_true] at hr
  rw [deeper_app, Bool.or_eq_false_iff] at hd
  rw [enc_app] at he
  cases h0 : a.enc with
  | none => rw [h0] at he; cases he
  | some x =>
    rw [h0] at he
    cases h1 : b.enc with
    | none => rw [h1] at he; cases he
    | some y => exact ⟨⟨x, put_of hr.1 hd.1 h0⟩, y, put_of (right_less hr.2 (lastT_ge hr.1)) hd.2 h1⟩
theorem join_err {a b : Tr} (h : (∃ z, a.put = .err z) ∨ ∃ z, b.put = .err z) : ∃ z, (a.app b).put = .err z := by
  cases hp : (a.app b).put with
  | err z => exact ⟨z, rfl⟩
  | ok z =>
    obtain ⟨⟨x, hx⟩, y, hy⟩ := join_ok hp
    rcases h with ⟨q, hq⟩ | ⟨q, hq⟩
    · rw [hx] at hq; cases hq
    · rw [hy] at hq; cases hq
theorem join_both {a b : Tr} {x y : List Nat} (ha : a.put = .ok x) (hb : b.put = .ok y) (hl : Tr.right (lastT 0 a) b = true) : (a.app b).put = .ok (x ++ y) := by
  obtain ⟨hr, hd, he⟩ := put_ok ha
  obtain ⟨hr', hd', he'⟩ := put_ok hb
  refine put_of ?_ ?_ ?_
  · rw [right_app, hr, hl]; rfl
  · rw [deeper_app, hd, hd']; rfl
  · rw [enc_app, he, he']
theorem join_fit {a b : Tr} {y : List Nat} (hb : b.put = .ok y) {t : Int} {bs : List Nat} {s r : Tr} (he : b = .cons t bs s r) (hlt : lastT 0 a < t) : Tr.right (lastT 0 a) b = true := by
  obtain ⟨hr, _, _⟩ := put_ok hb
  rw [he, right_cons] at hr ⊢
  simp only [Bool.and_eq_true, decide_eq_true_eq] at hr ⊢
  exact ⟨⟨⟨hlt, hr.1.1.2⟩, hr.1.2⟩, hr.2⟩
theorem join_bad {a b : Tr} {x y : List Nat} (ha : a.put = .ok x) (hb : b.put = .ok y) {t : Int} {bs : List Nat} {s r : Tr} (he : b = .cons t bs s r) (hle : t ≤ lastT 0 a) : (a.app b).put = .err 2 ∧ decd 4 0 (x ++ y) = .err 12 := by
  obtain ⟨hr, hd, hx⟩ := put_ok ha
  obtain ⟨hr', hd', hy⟩ := put_ok hb
  constructor
  · unfold Tr.put
    rw [deeper_app, hd, hd', right_app, hr, he, right_cons, decide_eq_false (show ¬ lastT 0 a < t by omega)]
    rfl
  · have hda := dec_app 4 0 x y (by omega) hr hd hx
    rw [show (0 : Nat) = (0 : Int).toNat from rfl, hda]
    rw [he] at hy hr'
    obtain ⟨c, y', _, _, rfl⟩ := enc_some hy
    rw [right_cons] at hr'
    simp only [Bool.and_eq_true, decide_eq_true_eq] at hr'
    rw [decd_cons, if_neg (by omega), if_pos (by omega)]; rfl
/-- what Put tells, in one form -/
theorem put_tells {w : World} {o : PutA} {e : Ending} {w' : World} (h : PutR w o e w') (hz : ∀ z, o = .err z → (z == 0) = false ∧ (z != 0) = true) : ∃ (A : Option Addr) (k c : Nat) (z : Int), e = .returned (.tuple #[.slice A k c, .int .i64 z]) ∧ k ≤ 70000 ∧
    ((∃ x, o = .ok x ∧ z = 0 ∧ k = x.length ∧ w'.ownsRow w.heap.size 5 1 (.slice A k c) k (x.map bV) ∧ ∀ y ∈ x, y < 256) ∨ (o = .err z ∧ (z == 0) = false ∧ (z != 0) = true ∧ k = 0)) := by
  cases o with
  | err z =>
    simp only [PutR] at h
    exact ⟨none, 0, 0, z, h, by omega, Or.inr ⟨rfl, (hz z rfl).1, (hz z rfl).2, rfl⟩⟩
  | ok x =>
    obtain ⟨A, c, he, hO, h256, hl⟩ := h
    exact ⟨A, x.length, c, 0, he, hl, Or.inl ⟨x, rfl, rfl, rfl, hO, h256⟩⟩
/-- two rows of elements, one appended to the other -/
theorem two_rows {w5 w6 w7 w8 : World} {vA vB : Value} {A8 : Option Addr} {n m c8 : Nat} {a b : Tr} {xa xb : List Value} (hla : a.len = n) (hlb : b.len = m) (hTa : OwnT w6 (Gap w5 w6 vA) xa a) (hOa : w6.ownsRow w5.heap.size 95 3 vA n xa) (hN56 : w5.heap.size ≤ w6.heap.size) (hN67 : New w6 w7)
    (hTb : OwnT w7 (Gap w6 w7 vB) xb b) (hO8 : w8.ownsRow w5.heap.size 95 3 (.slice A8 (n + m) c8) (n + m) (xa ++ xb)) (hC : Chg (fun k => vA.ownBlock = some k) w7 w8) : OwnE w8 (Btw w5 w8) (.slice A8 (n + m) c8) (a.app b) := by
  refine ⟨xa ++ xb, ⟨?_, fun k hk => hO8.lt k hk⟩, OwnT.app ?_ ?_⟩
  · rw [Tr.len_app, hla, hlb]; exact own_less0 hO8
  · refine OwnT.mono (F := Gap w6 w7 vB) (fun k ⟨h1, h2, _⟩ => ⟨by omega, Nat.lt_of_lt_of_le h2 hC.size⟩) (OwnT.chg hC (fun k ⟨h1, _, _⟩ he => ?_) hTb)
    have := (hOa.lt k he).2; omega
  · exact OwnT.mono (F := Gap w5 w6 vA) (fun k ⟨h1, h2, _⟩ => ⟨h1, Nat.lt_of_lt_of_le h2 (Nat.le_trans hN67.size hC.size)⟩) (OwnT.chg hC (fun k ⟨_, _, h3⟩ => h3) (OwnT.new hTa hN67))
theorem wpList_appendE {wX wy : World} {ops : Array Oper} {rest : List Oper} {o : Oper} {a : Act} {Q : Exit → Act → World → Prop} (hgd : o.guard = none) (hb : wX.heap.size ≤ wy.heap.size) (s x : Operand)
    (ho : o.op = .call { callee := .builtin .append, args := #[s, x], argTypes := #[90, 90] }) (v : Value) (n : Nat) (xs : List Value) (hs : a.eval s = v) (hown : wy.ownsRow wX.heap.size 95 3 v n xs)
    (b : Nat) (B : Option Addr) (m c : Nat) (ys : List Value) (hx : a.eval x = .slice B m c) (hB : wy.ownsRow b 95 3 (.slice B m c) m ys) (h1 : ∀ u ∈ ys, u.oneCell' = true) (hn : (n + m) * 56 ≤ 140737488355328)
    (h : ∀ A' c' w', w'.ownsRow wX.heap.size 95 3 (.slice A' (n + m) c') (n + m) (xs ++ ys) → Chg (fun k => v.ownBlock = some k) wy w' → wpList Try.prog ops Q rest (a.put o.dst (.slice A' (n + m) c')) w') : wpList Try.prog ops Q (o :: rest) a wy := by
  obtain ⟨i0, hi, hz0, hz1, hz2⟩ := info_parts Try.info95
  refine wpList_append_src hgd s x 90 ho wX.heap.size 95 i0 _ 3 56 Try.underlying90 hi hz0 hz1 hz2 rfl (by decide) v n xs hs hown B m c ys hx (own_nil hB) hB.1 ?_ h1 (by simp only [maxLen]; omega) hn hb (fun A' c' w' a1 a2 _ => h A' c' w' a1 a2)
  intro j u hu
  rcases hB.2 with ⟨hv, hn⟩ | ⟨g, cap, cur, hv, _⟩
  · have := hB.1; subst hn
    have hy : ys = [] := List.eq_nil_of_length_eq_zero (by omega)
    rw [hy] at hu; cases hu
  · simp only [Value.slice.injEq] at hv
    obtain ⟨rfl, _, rfl⟩ := hv
    exact ⟨_, rfl, hB.cells (g := g) rfl j u hu⟩
theorem OwnT.ones {w : World} {F : Nat → Prop} {T : Tr} : ∀ {xs : List Value}, OwnT w F xs T → ∀ u ∈ xs, u.oneCell' = true := by
  induction T with
  | nil => intro xs h u hu; rw [show xs = [] from h] at hu; cases hu
  | cons t bs sub rest ih1 ih2 =>
    rintro xs ⟨vb, vs, ys, rfl, hb, _, _, _, _, ⟨zs, hz, _⟩, h⟩ u hu
    obtain ⟨A, c, rfl, _⟩ := own_form hb.1
    obtain ⟨A', c', rfl, _⟩ := own_form hz.1
    simp only [List.mem_cons] at hu
    rcases hu with rfl | rfl | rfl | hu
    · rfl
    · rfl
    · rfl
    · exact ih2 h u hu
end Go.Proofs.Ytkcokcanakljnaa
