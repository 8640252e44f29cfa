import Derived.Test.YtkcokcanakljnaaGetB
namespace Go.Proofs.Ytkcokcanakljnaa
open Go.RowKit
/-- what reading tells: elements in new memory, or nothing and an error -/
def AnsR (w : World) (o : Ans) (e : Ending) (w' : World) : Prop := match o with
  | .err z => e = .returned (.tuple #[.slice none 0 0, .int .i64 z])
  | .ok T => ∃ A c, e = .returned (.tuple #[.slice A T.len c, .int .i64 0]) ∧ OwnE w' (Btw w w') (.slice A T.len c) T ∧ T.len ≤ 255
theorem head_err {lv l t z : Nat} {r : List Nat} (h : headV lv l (t :: r) = .inl z) : decd lv l (t :: r) = .err z ∧ z ≠ 0 := by
  cases r with
  | nil =>
    rw [decd_one]
    simp only [headV] at h
    split at h
    · simp only [Sum.inl.injEq] at h; subst h; simp [*]
    split at h
    · simp only [Sum.inl.injEq] at h; subst h; simp [*]
    · simp only [Sum.inl.injEq] at h; subst h; simp [*]
  | cons m x =>
    rw [decd_cons]
    simp only [headV] at h
    split at h
    · simp only [Sum.inl.injEq] at h; subst h; simp [*]
    split at h
    · simp only [Sum.inl.injEq] at h; subst h; simp [*]
    split at h
    · simp only [Sum.inl.injEq] at h; subst h; simp [*]
    · cases h
theorem head_ok {lv l t : Nat} {r c : List Nat} (h : headV lv l (t :: r) = .inr c) : ∃ m x, r = m :: x ∧ c = x.take m ∧ c.length = m ∧ m ≤ x.length ∧ 0 < lv ∧ l < t ∧ decd lv l (t :: r) =
    (if t ≤ 127 then (decd lv t (x.drop m)).map (Tr.cons t c .nil) else match decd (lv - 1) 0 c with
      | .err e => .err e
      | .ok s => (decd lv t (x.drop m)).map (Tr.cons t [] s)) := by
  cases r with
  | nil =>
    simp only [headV] at h
    split at h
    · cases h
    split at h <;> cases h
  | cons m x =>
    simp only [headV] at h
    split at h
    · cases h
    split at h
    · cases h
    split at h
    · cases h
    rename_i h1 h2 h3
    simp only [Sum.inr.injEq] at h
    subst h
    refine ⟨m, x, rfl, rfl, by simp; omega, by omega, by omega, by omega, ?_⟩
    rw [decd_cons, if_neg h1, if_neg h2, if_neg h3]
    cases decd (lv - 1) 0 (x.take m) <;> rfl
theorem err_zero (lv : Nat) : ∀ (n l : Nat) (b : List Nat), b.length ≤ n → ∀ z, decd lv l b = .err z → z ≠ 0 := by
  intro n
  induction n generalizing lv with
  | zero =>
    intro l b hb z h
    obtain rfl : b = [] := List.eq_nil_of_length_eq_zero (by omega)
    rw [decd_nil] at h; cases h
  | succ n ih =>
    intro l b hb z h
    cases b with
    | nil => rw [decd_nil] at h; cases h
    | cons t r =>
      cases hh : headV lv l (t :: r) with
      | inl z' =>
        obtain ⟨h1, h2⟩ := head_err hh
        rw [h1] at h
        simp only [Ans.err.injEq] at h
        omega
      | inr c =>
        obtain ⟨m, x, rfl, rfl, hcl, hm, _, _, he⟩ := head_ok hh
        rw [he] at h
        simp only [List.length_cons] at hb
        split at h
        · cases hd : decd lv t (x.drop m) with
          | err z' => rw [hd] at h; simp only [Ans.map, Ans.err.injEq] at h; subst h; exact ih lv t _ (by simp; omega) _ hd
          | ok T => rw [hd] at h; cases h
        · cases hs : decd (lv - 1) 0 (x.take m) with
          | err z' => rw [hs] at h; simp only [Ans.err.injEq] at h; subst h; exact ih (lv - 1) 0 _ (by simp; omega) _ hs
          | ok s =>
            rw [hs] at h
            cases hd : decd lv t (x.drop m) with
            | err z' => rw [hd] at h; simp only [Ans.map, Ans.err.injEq] at h; subst h; exact ih lv t _ (by simp; omega) _ hd
            | ok T => rw [hd] at h; cases h
end Go.Proofs.Ytkcokcanakljnaa
