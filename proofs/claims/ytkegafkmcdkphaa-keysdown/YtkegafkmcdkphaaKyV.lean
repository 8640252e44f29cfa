/-
  The way down from a key, step by step, and back: plain mathematics.
-/
import Derived.Test.YtkegafkmcdkphaaKyX
import Derived.Test.YtkegafkmcdkphaaKyT
namespace Go.Proofs.Ytkegafkmcdkphaa
theorem rowK_keyR (f : Nat → Int) (v : Int) (i : Nat) (hi : i < 3) : rowK (keyR f v) i = f i := by
  rcases (show i = 0 ∨ i = 1 ∨ i = 2 by omega) with rfl | rfl | rfl <;> rfl
theorem keyR_ext {f g : Nat → Int} {v : Int} (h : ∀ i, i < 3 → f i = g i) : keyR f v = keyR g v := by
  unfold keyR
  rw [h 0 (by omega), h 1 (by omega), h 2 (by omega)]
theorem row_rest {k : Ky} (h : KRight k) {i : Nat} (hl : lev k ≤ i) (hi : i < 3) : rowK k i = 0 := by
  rcases lev_ways h with ⟨e, a, b, c⟩ | ⟨e, a, b, c⟩ | ⟨e, a, b, c⟩ | ⟨e, a, b, c⟩ <;> rcases (show i = 0 ∨ i = 1 ∨ i = 2 by omega) with rfl | rfl | rfl <;> first | omega | (simp only [rowK]; simp; assumption) | (simp only [rowK]; simp [a]) | (simp only [rowK]; simp [b]) | (simp only [rowK]; simp [c])
/-- the key i steps down -/
def dw (k : Ky) (p : Nat → Int) (i : Nat) : Ky := derR k i p
theorem dw_eq (k : Ky) (p : Nat → Int) (i : Nat) : dw k p i = keyR (fun j => if lev k ≤ j ∧ j < lev k + i then p (j - lev k) else rowK k j) k.v := rfl
theorem derR_eq (k : Ky) (p : Nat → Int) (i : Nat) : derR k i p = keyR (fun j => if lev k ≤ j ∧ j < lev k + i then p (j - lev k) else rowK k j) k.v := rfl
theorem dw_v (k : Ky) (p : Nat → Int) (i : Nat) : (dw k p i).v = k.v := rfl
theorem dw_row (k : Ky) (p : Nat → Int) (i j : Nat) (hj : j < 3) : rowK (dw k p i) j = if lev k ≤ j ∧ j < lev k + i then p (j - lev k) else rowK k j := rowK_keyR _ _ _ hj
theorem dw_up {k : Ky} {p : Nat → Int} {i : Nat} (hk : KRight k) (hl : lev (dw k p (i + 1)) = lev k + (i + 1)) : parR (dw k p (i + 1)) = dw k p i := by
  unfold parR
  rw [hl, dw_v, dw_eq k p i]
  refine keyR_ext fun j hj => ?_
  rw [dw_row k p (i + 1) j hj]
  by_cases h1 : j + 1 = lev k + (i + 1)
  · rw [if_pos h1, if_neg (by omega), row_rest hk (by omega) hj]
  · rw [if_neg h1]
    by_cases h2 : lev k ≤ j ∧ j < lev k + i
    · rw [if_pos h2, if_pos (by omega)]
    · rw [if_neg h2, if_neg (by omega)]
theorem dw_right {k : Ky} {p : Nat → Int} {n : Nat} (hk : KRight k) (hn : KRight (dw k p n)) (hl : lev (dw k p n) = lev k + n) : ∀ m, m ≤ n → KRight (dw k p (n - m)) ∧ lev (dw k p (n - m)) = lev k + (n - m) := by
  intro m
  induction m with
  | zero => exact fun _ => ⟨hn, hl⟩
  | succ m ih =>
    intro hm
    obtain ⟨h1, h2⟩ := ih (by omega)
    have e : n - m = (n - (m + 1)) + 1 := by omega
    rw [e] at h1 h2
    have hu := dw_up hk h2
    have hp := par_right h1 (by omega)
    rw [hu] at hp
    exact ⟨hp.1, by omega⟩
/-- all that KeysDown asks of the way -/
structure Down (k : Ky) (n : Nat) (p : Nat → Int) : Prop where
  n3 : n ≤ 3
  right : ∀ i, i ≤ n → KRight (dw k p i) ∧ lev (dw k p i) = lev k + i
  top : derK k n p = dw k p n
  step : ∀ i, i < n → derK (dw k p i) 1 (fun _ => p i) = dw k p (i + 1) ∧ derE (dw k p i) 1 (fun _ => p i) = 0
  back : ∀ i, i < n → parK (dw k p (i + 1)) = dw k p i ∧ parE (dw k p (i + 1)) = 0
  all : frB (dw k p n) (n + 1) (dw k p) = true
  no : ∀ i, i < n → fromB (dw k p i) (dw k p (i + 1)) = false
  lev : levI (dw k p n) = levI k + n
theorem dw_zero (k : Ky) (p : Nat → Int) : dw k p 0 = k := derR_0 k p
theorem down_of {k : Ky} {n : Nat} {p : Nat → Int} (h : derE k n p = 0) : Down k n p := by
  have hb : rightB k = true := by
    cases hb : rightB k with
    | true => rfl
    | false => rw [derE_no n p hb] at h; cases h
  have hk := rightB_yes hb
  have h3 : lev k + n ≤ 3 := by
    by_cases hh : 3 < lev k + n
    · rw [derE_nest p hb hh] at h; cases h
    · omega
  have htop : derK k n p = dw k p n := by unfold derK; rw [if_pos h]; rfl
  have hn : rightB (dw k p n) = true ∧ lev (dw k p n) = lev k + n := by
    unfold derE at h
    rw [if_pos hb, if_neg (by omega)] at h
    by_cases hc : rightB (derR k n p) = true ∧ lev (derR k n p) = lev k + n
    · exact hc
    · rw [if_neg hc] at h; cases h
  have hr : ∀ i, i ≤ n → KRight (dw k p i) ∧ lev (dw k p i) = lev k + i := fun i hi => by
    have hh := dw_right hk (rightB_yes hn.1) hn.2 (n - i) (by omega)
    have e : n - (n - i) = i := by omega
    rw [e] at hh
    exact hh
  have hup : ∀ i, i < n → parR (dw k p (i + 1)) = dw k p i := fun i hi => dw_up hk (hr (i + 1) (by omega)).2
  have hfr : ∀ m i, i + m ≤ n → fromB (dw k p (i + m)) (dw k p i) = true := by
    intro m
    induction m with
    | zero => exact fun i hi => from_self (hr i (by omega)).1
    | succ m ih =>
      intro i hi
      have h1 := hr (i + (m + 1)) hi
      by_cases he : eqK (dw k p (i + (m + 1))) (dw k p i)
      · rw [he.eq]; exact from_self (hr i (by omega)).1
      · rw [from_up h1.1 he (by omega)]
        have := hup (i + m) (by omega)
        rw [show i + (m + 1) = i + m + 1 by omega, this]
        exact ih i (by omega)
  refine ⟨by omega, hr, htop, fun i hi => ?_, fun i hi => ?_, frB_yes ⟨rightB_yes hn.1, fun j hj => ?_⟩, fun i hi => fromB_not fun hf => ?_, ?_⟩
  · have h1 := hr i (by omega)
    have h2 := hr (i + 1) (by omega)
    have e : derR (dw k p i) 1 (fun _ => p i) = dw k p (i + 1) := by
      rw [derR_eq, dw_v, dw_eq k p (i + 1)]
      refine keyR_ext fun j hj => ?_
      rw [h1.2]
      show (if lev k + i ≤ j ∧ j < lev k + i + 1 then p i else rowK (dw k p i) j) = _
      rw [dw_row k p i j hj]
      by_cases h3 : lev k + i ≤ j ∧ j < lev k + i + 1
      · have e2 : j - lev k = i := by omega
        rw [if_pos h3, if_pos (by omega), e2]
      · rw [if_neg h3]
        by_cases h4 : lev k ≤ j ∧ j < lev k + i
        · rw [if_pos h4, if_pos (by omega)]
        · rw [if_neg h4, if_neg (by omega)]
    have he : derE (dw k p i) 1 (fun _ => p i) = 0 := by
      unfold derE
      rw [if_pos (rightB_of h1.1), if_neg (by omega), e, if_pos ⟨rightB_of h2.1, by omega⟩]
    exact ⟨by unfold derK; rw [if_pos he, e], he⟩
  · have h2 := hr (i + 1) (by omega)
    obtain ⟨e1, e2⟩ := par_more (rightB_of h2.1) (by omega)
    exact ⟨e1.trans (hup i hi), e2⟩
  · have := hfr (n - j) j (by omega)
    rwa [show j + (n - j) = n by omega] at this
  · have h1 := (hr i (by omega)).2
    have h2 := (hr (i + 1) (by omega)).2
    have := hf.2.2.1
    omega
  · rw [levI_yes hn.1, levI_yes hb, hn.2]
    omega
end Go.Proofs.Ytkegafkmcdkphaa
