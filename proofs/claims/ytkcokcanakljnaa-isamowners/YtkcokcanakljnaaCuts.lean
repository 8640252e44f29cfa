import Derived.Test.YtkcokcanakljnaaTreeC
import Derived.Test.YtkcokcanakljnaaSizes
namespace Go.Proofs.Ytkcokcanakljnaa
open Go.ChangeShapes Go.WideShapes Go.ChangeAt Go.RowKit
theorem Tr.last (T : Tr) (h : 0 < T.len) : ∃ T0 t bs s, T = Tr.app T0 (.cons t bs s .nil) := by
  induction T with
  | nil => simp [Tr.len] at h
  | cons t b s r _ ih =>
    cases r with
    | nil => exact ⟨.nil, t, b, s, rfl⟩
    | cons t' b' s' r' =>
      obtain ⟨T0, u, bs, v, he⟩ := ih (by simp [Tr.len])
      exact ⟨.cons t b s T0, u, bs, v, by rw [he]; rfl⟩
theorem right_app {T U : Tr} : ∀ {l : Int}, Tr.right l (T.app U) = (Tr.right l T && Tr.right (lastT l T) U) := by
  induction T with
  | nil => intro l; simp [Tr.app, Tr.right, lastT]
  | cons t b s r _ ih => intro l; simp only [Tr.app, right_cons, ih, lastT, Bool.and_assoc]
theorem deeper_app {T U : Tr} : ∀ {k : Nat}, Tr.deeper k (T.app U) = (Tr.deeper k T || Tr.deeper k U) := by
  induction T with
  | nil => intro k; rw [deeper_nil]; rfl
  | cons t b s r _ ih =>
    intro k
    cases k with
    | zero => rfl
    | succ k => simp only [Tr.app, deeper_cons, ih, Bool.or_assoc]
theorem enc_app {T U : Tr} : (T.app U).enc = match T.enc with
    | none => none
    | some x => match U.enc with
      | none => none
      | some y => some (x ++ y) := by
  induction T with
  | nil => simp only [Tr.app, Tr.enc]; cases U.enc <;> rfl
  | cons t b s r _ ih =>
    simp only [Tr.app]
    rw [enc_cons, enc_cons, ih]
    cases cont t b s with
    | none => rfl
    | some c =>
      cases r.enc with
      | none => rfl
      | some x =>
        cases U.enc with
        | none => rfl
        | some y => simp [laidOn]
theorem right_less {T : Tr} {l l' : Int} (h : Tr.right l T = true) (hl : l' ≤ l) : Tr.right l' T = true := by
  cases T with
  | nil => rfl
  | cons t b s r =>
    rw [right_cons] at h ⊢
    simp only [Bool.and_eq_true, decide_eq_true_eq] at h ⊢
    exact ⟨⟨⟨by omega, h.1.1.2⟩, h.1.2⟩, h.2⟩
theorem cut_parts {T : Tr} {x : List Nat} (h : T.put = .ok x) (hT : 0 < T.len) : ∃ (T0 : Tr) (t : Int) (bs : List Nat) (s : Tr) (x0 y : List Nat), T = T0.app (.cons t bs s .nil) ∧ (Tr.cons t bs s .nil).put = .ok y ∧ x = x0 ++ y ∧ 2 ≤ y.length ∧
    ∀ j, 1 ≤ j → j < y.length → decd 4 0 (x0 ++ y.take j) = .err 10 := by
  obtain ⟨T0, t, bs, s, rfl⟩ := Tr.last T hT
  obtain ⟨hr, hd, he⟩ := put_ok h
  rw [right_app, Bool.and_eq_true] at hr
  rw [deeper_app, Bool.or_eq_false_iff] at hd
  rw [enc_app] at he
  cases h0 : T0.enc with
  | none => rw [h0] at he; cases he
  | some x0 =>
    rw [h0] at he
    cases h1 : (Tr.cons t bs s .nil).enc with
    | none => rw [h1] at he; cases he
    | some y =>
      rw [h1] at he
      simp only [Option.some.injEq] at he
      have hge := lastT_ge hr.1
      obtain ⟨c, y', hc, hy', rfl⟩ := enc_some h1
      simp only [Tr.enc, Option.some.injEq] at hy'
      subst hy'
      rw [List.append_nil] at h1 he
      refine ⟨T0, t, bs, s, x0, _, rfl, put_of (right_less hr.2 hge) hd.2 h1, he.symm, by simp, ?_⟩
      intro j hj1 hj2
      have hda := dec_app 4 0 x0 ((t.toNat :: c.length :: c).take j) (by omega) hr.1 hd.1 h0
      rw [show (0 : Nat) = (0 : Int).toNat from rfl, hda]
      have hrl := hr.2
      rw [right_cons] at hrl
      simp only [Bool.and_eq_true, decide_eq_true_eq] at hrl
      obtain ⟨j', rfl⟩ : ∃ j', j = j' + 1 := ⟨j - 1, by omega⟩
      cases j' with
      | zero =>
        simp only [List.take_succ_cons, List.take_zero]
        rw [decd_one, if_neg (by omega), if_neg (by omega)]; rfl
      | succ j' =>
        simp only [List.length_cons] at hj2
        simp only [List.take_succ_cons]
        rw [decd_cons, if_neg (by omega), if_neg (by omega), if_pos (by simp; omega)]; rfl
theorem Lay.behind {w : World} {F : Nat → Prop} {T U : Tr} : ∀ {A : Option Addr} {i : Nat}, Lay w F A i (T.app U) → Lay w F A (i + T.len) U := by
  induction T with
  | nil => intro A i h; exact h
  | cons t b s r _ ih =>
    intro A i h
    have := ih h.2
    rw [show i + 1 + r.len = i + (Tr.cons t b s r).len by simp only [Tr.len]; omega] at this
    exact this
theorem add_zero (p : Addr) : p.add 0 = p := by unfold Addr.add; simp
theorem Lay.shift {w : World} {F : Nat → Prop} {a : Addr} {i : Nat} {t : Int} {bs : List Nat} {s : Tr} (h : Lay w F (some a) i (.cons t bs s .nil)) : Lay w F (some (a.add (i * 3))) 0 (.cons t bs s .nil) := by
  obtain ⟨⟨vb, B, c, ⟨a', ha, hF, h3⟩, r⟩, _⟩ := h
  simp only [Option.some.injEq] at ha
  subst ha
  refine ⟨⟨vb, B, c, ⟨_, rfl, by rw [add_block]; exact hF, ?_⟩, r⟩, trivial⟩
  rw [Nat.zero_mul, add_zero]
  exact h3
theorem open_treec {H : Type} {enc : TypeId × Value → H} {W : World} {sp : Nat → Bool} {held : Bool} {A : Option Addr} {n c : Nat} {d : DataW H} {p : List MemPlace} (h : DataW.Trod enc Try.prog W 0 sp held 90 (.slice A n c) d p) (hw : ∀ n ∈ d.weights Try.prog 90, n ≤ reachBytes) :
    (∃ T : Tr, T.len = n ∧ Els W (· < W.heap.size) (.slice A n c) T) ∧ n ≤ c ∧ c ≤ maxLen := by
  refine ⟨open_tree h hw, ?_⟩
  obtain ⟨fuel, hf⟩ := h
  rcases Deep.open_slice Try.underlying90 hf with ⟨hcs, _⟩ | ⟨a, len, cap, m, nn, D, Pl, hcs, _, hl, hm, _⟩
  · simp [Value.cells] at hcs
    obtain ⟨rfl, rfl, rfl⟩ := hcs
    exact ⟨Nat.le_refl _, by decide⟩
  · simp [Value.cells] at hcs
    obtain ⟨rfl, rfl, rfl⟩ := hcs
    exact ⟨hl, hm⟩
end Go.Proofs.Ytkcokcanakljnaa
