import Derived.Test.YtkcokcanakljnaaTreeC
namespace Go.Proofs.Ytkcokcanakljnaa
open Go.RowKit
/-- a number's bytes, the last first -/
def le : Nat → List Nat
  | 0 => []
  | n + 1 => (n + 1) % 256 :: le ((n + 1) / 256)
termination_by n => n
decreasing_by omega
theorem le_zero : le 0 = [] := by rw [le]
theorem le_pos (n : Nat) (h : 0 < n) : le n = n % 256 :: le (n / 256) := by
  cases n with
  | zero => omega
  | succ n => rw [le]
def be (n : Nat) : List Nat := (le n).reverse
theorem be_zero : be 0 = [] := by rw [be, le_zero]; rfl
theorem be_pos (n : Nat) (h : 0 < n) : be n = be (n / 256) ++ [n % 256] := by rw [be, le_pos n h, List.reverse_cons]; rfl
def val (b : List Nat) : Nat := b.foldl (fun n x => 256 * n + x) 0
theorem val_snoc (b : List Nat) (x : Nat) : val (b ++ [x]) = 256 * val b + x := by simp [val, List.foldl_append]
theorem be_lt (n : Nat) : ∀ x ∈ be n, x < 256 := by
  induction n using Nat.strongRecOn with
  | _ n ih =>
    rcases Nat.eq_zero_or_pos n with rfl | h
    · rw [be_zero]; simp
    · rw [be_pos n h]
      intro x hx
      rcases List.mem_append.1 hx with hx | hx
      · exact ih (n / 256) (by omega) x hx
      · simp at hx; omega
theorem val_be (n : Nat) : val (be n) = n := by
  induction n using Nat.strongRecOn with
  | _ n ih =>
    rcases Nat.eq_zero_or_pos n with rfl | h
    · rw [be_zero]; rfl
    · rw [be_pos n h, val_snoc, ih (n / 256) (by omega)]; omega
theorem le_len : ∀ (k n : Nat), n < 256 ^ k → (le n).length ≤ k := by
  intro k
  induction k with
  | zero => intro n h; obtain rfl : n = 0 := by omega
            rw [le_zero]; simp
  | succ k ih =>
    intro n h
    rcases Nat.eq_zero_or_pos n with rfl | hn
    · rw [le_zero]; simp
    · rw [le_pos n hn, List.length_cons]
      have := ih (n / 256) (by rw [Nat.pow_succ] at h; omega)
      omega
theorem be_len_le (k n : Nat) (h : n < 256 ^ k) : (be n).length ≤ k := by rw [be, List.length_reverse]; exact le_len k n h
theorem be_len_gt : ∀ (k n : Nat), 256 ^ k ≤ n → k < (be n).length := by
  intro k
  induction k with
  | zero => intro n h; rw [be_pos n (by omega)]; simp
  | succ k ih =>
    intro n h
    have hp : 0 < 256 ^ k := Nat.pow_pos (by omega)
    rw [Nat.pow_succ] at h
    rw [be_pos n (by omega), List.length_append, List.length_singleton]
    have := ih (n / 256) (by omega)
    omega
/-- no leading zero -/
def okN (b : List Nat) : Prop := ∀ x, b[0]? = some x → x ≠ 0
theorem be_okN (n : Nat) : okN (be n) := by
  induction n using Nat.strongRecOn with
  | _ n ih =>
    intro x hx
    rcases Nat.eq_zero_or_pos n with rfl | h
    · rw [be_zero] at hx; cases hx
    · rw [be_pos n h] at hx
      rcases Nat.eq_zero_or_pos (n / 256) with h0 | h0
      · rw [h0, be_zero] at hx
        simp at hx; omega
      · have hl : 0 < (be (n / 256)).length := by rw [be_pos _ h0]; simp
        rw [List.getElem?_append_left hl] at hx
        exact ih (n / 256) (by omega) x hx
theorem be_val (b : List Nat) : (∀ x ∈ b, x < 256) → okN b → be (val b) = b := by
  have key : ∀ n, ∀ b : List Nat, b.length = n → (∀ x ∈ b, x < 256) → okN b → be (val b) = b ∧ (b ≠ [] → 0 < val b) := by
    intro n
    induction n with
    | zero =>
      intro b hb _ _
      obtain rfl := List.eq_nil_of_length_eq_zero hb
      exact ⟨be_zero, fun h => absurd rfl h⟩
    | succ n ih =>
      intro b hb h256 hok
      obtain ⟨c, x, rfl⟩ : ∃ c x, b = c ++ [x] := ⟨b.dropLast, b.getLast (by intro h; rw [h] at hb; simp at hb), (List.dropLast_concat_getLast _).symm⟩
      have hx := h256 x (by simp)
      have hc256 : ∀ y ∈ c, y < 256 := fun y hy => h256 y (by simp [hy])
      have hcl : c.length = n := by simp at hb; omega
      rw [val_snoc]
      by_cases hc : c = []
      · subst hc
        have hx0 : x ≠ 0 := hok x rfl
        have hv : val [] = 0 := rfl
        rw [hv]
        refine ⟨?_, fun _ => by omega⟩
        rw [be_pos _ (by omega), show (256 * 0 + x) / 256 = 0 by omega, be_zero, show (256 * 0 + x) % 256 = x by omega]
      · have hokc : okN c := fun y hy => hok y (by rw [List.getElem?_append_left (by rcases c with _ | ⟨a, c⟩; exact absurd rfl hc; simp)]; exact hy)
        obtain ⟨h1, h2⟩ := ih c hcl hc256 hokc
        have hp := h2 hc
        refine ⟨?_, fun _ => by omega⟩
        rw [be_pos _ (by omega), show (256 * val c + x) / 256 = val c by omega, h1, show (256 * val c + x) % 256 = x by omega]
  intro h1 h2
  exact (key b.length b rfl h1 h2).1
theorem val_lt (b : List Nat) (h : ∀ x ∈ b, x < 256) : val b < 256 ^ b.length := by
  have key : ∀ n, ∀ b : List Nat, b.length = n → (∀ x ∈ b, x < 256) → val b < 256 ^ n := by
    intro n
    induction n with
    | zero => intro b hb _; obtain rfl := List.eq_nil_of_length_eq_zero hb; decide
    | succ n ih =>
      intro b hb h256
      obtain ⟨c, x, rfl⟩ : ∃ c x, b = c ++ [x] := ⟨b.dropLast, b.getLast (by intro h; rw [h] at hb; simp at hb), (List.dropLast_concat_getLast _).symm⟩
      have hx := h256 x (by simp)
      have := ih c (by simp at hb; omega) (fun y hy => h256 y (by simp [hy]))
      rw [val_snoc, Nat.pow_succ]
      omega
  exact key b.length b rfl h
/-- the number of bytes, or an error -/
def intV (b : List Nat) : Nat × Nat := if 7 < b.length then (0, 11) else if b[0]? = some 0 then (0, 12) else (val b, 0)
theorem val_take (b : List Nat) (k x : Nat) (h : b[k]? = some x) : val (b.take (k + 1)) = 256 * val (b.take k) + x := by
  rw [List.take_add_one, h, Option.toList_some, val_snoc]
end Go.Proofs.Ytkcokcanakljnaa
