/-
  Plain mathematics of nested elements: a list of elements as a tree (first child, next sibling), what is too deep, what is right, the encoding, the decoding.
-/
namespace Go.Proofs.Ytkcokcanakljnaa
/-- a list of elements: the first one's tag, bytes and nested elements; the rest of the list -/
inductive Tr where
  | nil
  | cons (t : Int) (bs : List Nat) (sub rest : Tr)
deriving DecidableEq
def Tr.len : Tr → Nat
  | .nil => 0
  | .cons _ _ _ r => r.len + 1
def Tr.size : Tr → Nat
  | .nil => 0
  | .cons _ _ s r => s.size + r.size + 1
def Tr.app : Tr → Tr → Tr
  | .nil, U => U
  | .cons t b s r, U => .cons t b s (r.app U)
theorem Tr.len_app (T U : Tr) : (T.app U).len = T.len + U.len := by
  induction T with
  | nil => simp [app, len]
  | cons t b s r _ ih => simp only [app, len, ih]; omega
theorem Tr.app_nil (T : Tr) : T.app .nil = T := by
  induction T with
  | nil => rfl
  | cons t b s r _ ih => simp only [app, ih]
theorem Tr.app_app (T U V : Tr) : (T.app U).app V = T.app (U.app V) := by
  induction T with
  | nil => rfl
  | cons t b s r _ ih => simp only [app, ih]
theorem Tr.size_app (T U : Tr) : (T.app U).size = T.size + U.size := by
  induction T with
  | nil => simp [app, size]
  | cons t b s r _ ih => simp only [app, size, ih]; omega
theorem Tr.len_zero {T : Tr} (h : T.len = 0) : T = .nil := by
  cases T with
  | nil => rfl
  | cons => simp [len] at h
theorem Tr.len_le_size (T : Tr) : T.len ≤ T.size := by
  induction T with
  | nil => simp [len]
  | cons t b s r _ ih => simp only [len, size]; omega
/-- do elements lie below so many levels? -/
def Tr.deeper : Nat → Tr → Bool
  | _, .nil => false
  | 0, .cons _ _ _ _ => true
  | k + 1, .cons _ _ s r => Tr.deeper k s || Tr.deeper (k + 1) r
/-- tags, contents, order, behind a last tag -/
def Tr.right : Int → Tr → Bool
  | _, .nil => true
  | l, .cons t b s r => decide (l < t) && decide (t ≤ 255) && (if t ≤ 127 then s.len == 0 else b.length == 0 && Tr.right 0 s) && Tr.right t r
/-- the encoding; none: a content is too long -/
def Tr.enc : Tr → Option (List Nat)
  | .nil => some []
  | .cons t b s r => match (if t ≤ 127 then some b else s.enc) with
    | none => none
    | some c => if 255 < c.length then none else match r.enc with
      | none => none
      | some x => some (t.toNat :: c.length :: (c ++ x))
theorem Tr.right_len {T : Tr} : ∀ {l : Int}, Tr.right l T = true → l ≤ 255 → (T.len : Int) ≤ 255 - l := by
  induction T with
  | nil => intro l _ h; simp [len]; omega
  | cons t b s r _ ih =>
    intro l h _
    simp only [right, Bool.and_eq_true, decide_eq_true_eq] at h
    have := ih h.2 h.1.1.2
    simp only [len]; omega
/-- what an answer is: an error's number, or elements -/
inductive Ans where
  | err (e : Nat)
  | ok (T : Tr)
deriving DecidableEq
def Ans.map (f : Tr → Tr) : Ans → Ans
  | .err e => .err e
  | .ok T => .ok (f T)
theorem Ans.map_id (a : Ans) : a.map (fun T => T) = a := by cases a <;> rfl
theorem Ans.map_map (f g : Tr → Tr) (a : Ans) : (a.map f).map g = a.map (fun T => g (f T)) := by cases a <;> rfl
/-- the decoding: fuel, levels that are left, the last tag, the bytes -/
def dec : Nat → Nat → Nat → List Nat → Ans
  | _, _, _, [] => .ok .nil
  | 0, _, _, _ => .err 0
  | f + 1, lv, last, t :: r =>
    if lv = 0 then .err 15 else if t ≤ last then .err 12 else match r with
    | [] => .err 10
    | m :: x => if x.length < m then .err 10 else
      if t ≤ 127 then (dec f lv t (x.drop m)).map (Tr.cons t (x.take m) .nil) else match dec f (lv - 1) 0 (x.take m) with
      | .err e => .err e
      | .ok s => (dec f lv t (x.drop m)).map (Tr.cons t [] s)
theorem dec_fuel : ∀ (f : Nat) (lv last : Nat) (b : List Nat), b.length ≤ f → dec f lv last b = dec b.length lv last b := by
  intro f
  induction f using Nat.strongRecOn with
  | _ f ih =>
    intro lv last b hb
    cases b with
    | nil => cases f <;> rfl
    | cons t r =>
      cases f with
      | zero => simp at hb
      | succ f =>
        simp only [List.length_cons]
        simp only [List.length_cons] at hb
        simp only [dec]
        split
        · rfl
        split
        · rfl
        cases r with
        | nil => rfl
        | cons m x =>
          simp only [List.length_cons] at hb ⊢
          split
          · rfl
          have h1 : ∀ lv last, dec f lv last (x.drop m) = dec (x.drop m).length lv last (x.drop m) := fun lv last => ih f (by omega) lv last _ (by simp; omega)
          have h2 : ∀ lv last, dec (x.length + 1) lv last (x.drop m) = dec (x.drop m).length lv last (x.drop m) := fun lv last => by
            rcases Nat.lt_or_ge (x.length + 1) (f + 1) with h | h
            · exact ih _ h lv last _ (by simp; omega)
            · have : f = x.length + 1 := by omega
              rw [← this]; exact h1 lv last
          have h3 : ∀ lv last, dec f lv last (x.take m) = dec (x.take m).length lv last (x.take m) := fun lv last => ih f (by omega) lv last _ (by simp; omega)
          have h4 : ∀ lv last, dec (x.length + 1) lv last (x.take m) = dec (x.take m).length lv last (x.take m) := fun lv last => by
            rcases Nat.lt_or_ge (x.length + 1) (f + 1) with h | h
            · exact ih _ h lv last _ (by simp; omega)
            · have : f = x.length + 1 := by omega
              rw [← this]; exact h3 lv last
          simp only [h1, h2, h3, h4]
/-- the decoding with as much fuel as is wanted -/
def decd (lv last : Nat) (b : List Nat) : Ans := dec b.length lv last b
theorem decd_nil (lv last : Nat) : decd lv last [] = .ok .nil := rfl
theorem decd_one (lv last t : Nat) : decd lv last [t] = if lv = 0 then .err 15 else if t ≤ last then .err 12 else .err 10 := by
  simp only [decd, List.length_cons, List.length_nil, dec]
theorem decd_cons (lv last t m : Nat) (x : List Nat) : decd lv last (t :: m :: x) = if lv = 0 then .err 15 else if t ≤ last then .err 12 else if x.length < m then .err 10 else
      if t ≤ 127 then (decd lv t (x.drop m)).map (Tr.cons t (x.take m) .nil) else match decd (lv - 1) 0 (x.take m) with
      | .err e => .err e
      | .ok s => (decd lv t (x.drop m)).map (Tr.cons t [] s) := by
  simp only [decd, List.length_cons, dec]
  rw [dec_fuel (x.length + 1) lv t (x.drop m) (by simp; omega), dec_fuel (x.length + 1) (lv - 1) 0 (x.take m) (by simp; omega)]
end Go.Proofs.Ytkcokcanakljnaa
