/-
  What is done with a thing, step by step: mathematics.
-/
import Derived.Test.YtdaaejoglikhaaaOpenI
import Derived.Test.YtdaaejoglikhaaaIqL
import Derived.Test.YtdaaejoglikhaaaIpG
namespace Go.Proofs.Ytdaaejoglikhaaa
open Go.RowKit
theorem right_pd (p : Pd) : RightN p.ns ↔ ((1 ≤ p.x0 ∧ p.x0 ≤ 4) ∧ (1 ≤ p.x1 ∧ p.x1 ≤ 4) ∧ (1 ≤ p.x2 ∧ p.x2 ≤ 65535) ∧ (1 ≤ p.x3 ∧ p.x3 ≤ 65535) ∧ (1 ≤ p.x4 ∧ p.x4 ≤ 255) ∧ (0 ≤ p.x5 ∧ p.x5 ≤ 2147483648) ∧ (0 ≤ p.x6 ∧ p.x6 ≤ 65535) ∧ (0 ≤ p.x7 ∧ p.x7 ≤ 255) ∧ (0 ≤ p.x9 ∧ p.x9 ≤ 255) ∧ (0 ≤ p.x10 ∧ p.x10 ≤ 65535) ∧ (0 ≤ p.x11 ∧ p.x11 ≤ 65535) ∧ (0 ≤ p.x12 ∧ p.x12 ≤ 65535)) := by
  obtain ⟨x0, x1, x2, x3, x4, x5, x6, x7, x8, x9, x10, x11, x12, x13⟩ := p
  have h8 : 0 ≤ bi x8 ∧ bi x8 ≤ 1 := by cases x8 <;> exact ⟨by decide, by decide⟩
  have h13 : 0 ≤ bi x13 ∧ bi x13 ≤ 1 := by cases x13 <;> exact ⟨by decide, by decide⟩
  constructor
  · intro h
    have k0 := h.2 0 (by omega)
    have k1 := h.2 1 (by omega)
    have k2 := h.2 2 (by omega)
    have k3 := h.2 3 (by omega)
    have k4 := h.2 4 (by omega)
    have k5 := h.2 5 (by omega)
    have k6 := h.2 6 (by omega)
    have k7 := h.2 7 (by omega)
    have k9 := h.2 9 (by omega)
    have k10 := h.2 10 (by omega)
    have k11 := h.2 11 (by omega)
    have k12 := h.2 12 (by omega)
    simp [Pd.ns, mosts] at k0 k1 k2 k3 k4 k5 k6 k7 k9 k10 k11 k12
    clear h h8 h13
    dsimp only
    omega
  · intro h
    dsimp only at h
    refine ⟨rfl, fun j hj => ?_⟩
    rcases (show j = 0 ∨ j = 1 ∨ j = 2 ∨ j = 3 ∨ j = 4 ∨ j = 5 ∨ j = 6 ∨ j = 7 ∨ j = 8 ∨ j = 9 ∨ j = 10 ∨ j = 11 ∨ j = 12 ∨ j = 13 by omega) with rfl | rfl | rfl | rfl | rfl | rfl | rfl | rfl | rfl | rfl | rfl | rfl | rfl | rfl <;> (simp [Pd.ns, mosts]; omega)
theorem aft_bad {p q : Pd} {ce : Int} (h : aftE p ce ≠ 0) : aftP p q ce = pz := by unfold aftP; rw [if_neg h]
theorem aft_ok {p : Pd} {ce : Int} (h : aftE p ce = 0) : p.x13 = false ∧ ce = 0 ∧ p.x11 ≠ 65535 := by
  unfold aftE at h
  by_cases h0 : p.x13 = true
  · rw [if_pos h0] at h; omega
  rw [if_neg h0] at h
  by_cases h1 : ce = 0
  · rw [if_neg (by simpa using h1)] at h
    by_cases h2 : p.x11 = 65535
    · rw [if_pos h2] at h; omega
    · exact ⟨by simpa using h0, h1, h2⟩
  · rw [if_pos h1] at h; exact absurd h h1
theorem aft_q {p q : Pd} {ce : Int} (h : aftE p ce = 0) : aftP p q ce = ⟨q.x0, q.x1, q.x2, q.x3, q.x4, q.x5, q.x6, q.x7, q.x8, q.x9, q.x10, p.x11 + 1, q.x12, q.x13⟩ := by unfold aftP; rw [if_pos h]
theorem ride_ok {p : Pd} {d : Int} (hp : RightN p.ns) (h : rideE p.x0 p.x6 p.x7 d = 0) : rideC p = true → 1 ≤ p.x7 := by
  intro hc
  have hk := (kinds hp).2.2.1
  unfold rideE at h
  unfold rideC at hc
  by_cases h1 : d < 0
  · rw [if_pos h1] at h; omega
  rw [if_neg h1] at h
  by_cases h2 : 65535 < d
  · rw [if_pos h2] at h; omega
  rw [if_neg h2] at h
  by_cases h3 : p.x0 = 1
  · rw [if_pos h3] at h; omega
  rw [if_neg h3] at h
  by_cases h4 : p.x0 = 2
  · rw [h4] at hc; exact absurd hc (by decide)
  rw [if_neg h4] at h
  by_cases h5 : p.x7 = 0
  · rw [if_pos h5] at h; omega
  · omega
theorem in_ok {p : Pd} {a b : Int} (h : inE p a b = 0) : (0 ≤ a ∧ a ≤ 255) ∧ (0 ≤ b ∧ b ≤ 65535) := by
  unfold inE at h
  by_cases h0 : a < 0
  · rw [if_pos h0] at h; omega
  rw [if_neg h0] at h
  by_cases h1 : 255 < a
  · rw [if_pos h1] at h; omega
  rw [if_neg h1] at h
  by_cases h2 : b < 0
  · rw [if_pos h2] at h; omega
  rw [if_neg h2] at h
  by_cases h3 : 65535 < b
  · rw [if_pos h3] at h; omega
  rw [if_neg h3] at h
  omega
theorem out_ok {p : Pd} {a : Int} (h : outE p a = 0) : 0 ≤ a ∧ a ≤ p.x5 := by
  unfold outE at h
  by_cases h0 : a < 0
  · rw [if_pos h0] at h; omega
  rw [if_neg h0] at h
  by_cases h1 : ¬ p.x0 = 1
  · rw [if_pos h1] at h; omega
  rw [if_neg h1] at h
  by_cases h2 : p.x8 = false
  · rw [if_pos h2] at h; omega
  rw [if_neg h2] at h
  by_cases h3 : p.x5 < a
  · rw [if_pos h3] at h; omega
  rw [if_neg h3] at h
  omega
theorem add_ok {p : Pd} {a : Int} (h : addE p a = 0) : 0 ≤ a ∧ p.x5 + a ≤ 2147483648 := by
  unfold addE at h
  by_cases h0 : a < 0
  · rw [if_pos h0] at h; omega
  rw [if_neg h0] at h
  by_cases h1 : ¬ p.x0 = 1
  · rw [if_pos h1] at h; omega
  rw [if_neg h1] at h
  by_cases h2 : 2147483648 - p.x5 < a
  · rw [if_pos h2] at h; omega
  rw [if_neg h2] at h
  omega
theorem doc1 (p : Pd) (a b : Int) : doE1 p a b = aftE p (inE p a b) ∧ doP1 p a b = aftP p (inQ p a b) (inE p a b) := by
  have h : doE1 p a b = aftE p (inE p a b) := by
    unfold doE1 aftE inE
    by_cases h13 : p.x13 = true
    · rw [if_pos h13, if_pos h13]
    rw [if_neg h13, if_neg h13]
    by_cases h0 : a < 0
    · rw [if_pos h0, if_pos h0, if_pos (by decide)]
    rw [if_neg h0, if_neg h0]
    by_cases h1 : 255 < a
    · rw [if_pos h1, if_pos h1, if_pos (by decide)]
    rw [if_neg h1, if_neg h1]
    by_cases h2 : b < 0
    · rw [if_pos h2, if_pos h2, if_pos (by decide)]
    rw [if_neg h2, if_neg h2]
    by_cases h3 : 65535 < b
    · rw [if_pos h3, if_pos h3, if_pos (by decide)]
    rw [if_neg h3, if_neg h3]
    by_cases h4 : ¬ p.x0 = 1
    · rw [if_pos h4, if_pos h4, if_pos (by decide)]
    rw [if_neg h4, if_neg h4]
    by_cases h5 : p.x8 = true
    · rw [if_pos h5, if_pos h5, if_pos (by decide)]
    rw [if_neg h5, if_neg h5]
    rw [if_neg (show ¬ ¬ (0 : Int) = 0 by decide)]
  refine ⟨h, ?_⟩
  unfold doP1 aftP
  rw [h]
  rfl
theorem doc2 (p : Pd) (a b : Int) : doE2 p a b = aftE p (outE p a) ∧ doP2 p a b = aftP p (outQ p a) (outE p a) := by
  have h : doE2 p a b = aftE p (outE p a) := by
    unfold doE2 aftE outE
    by_cases h13 : p.x13 = true
    · rw [if_pos h13, if_pos h13]
    rw [if_neg h13, if_neg h13]
    by_cases h0 : a < 0
    · rw [if_pos h0, if_pos h0, if_pos (by decide)]
    rw [if_neg h0, if_neg h0]
    by_cases h1 : ¬ p.x0 = 1
    · rw [if_pos h1, if_pos h1, if_pos (by decide)]
    rw [if_neg h1, if_neg h1]
    by_cases h2 : p.x8 = false
    · rw [if_pos h2, if_pos h2, if_pos (by decide)]
    rw [if_neg h2, if_neg h2]
    by_cases h3 : p.x5 < a
    · rw [if_pos h3, if_pos h3, if_pos (by decide)]
    rw [if_neg h3, if_neg h3]
    rw [if_neg (show ¬ ¬ (0 : Int) = 0 by decide)]
  refine ⟨h, ?_⟩
  unfold doP2 aftP
  rw [h]
  rfl
theorem doc3 (p : Pd) (a b : Int) : doE3 p a b = aftE p (addE p a) ∧ doP3 p a b = aftP p (addQ p a) (addE p a) := by
  have h : doE3 p a b = aftE p (addE p a) := by
    unfold doE3 aftE addE
    by_cases h13 : p.x13 = true
    · rw [if_pos h13, if_pos h13]
    rw [if_neg h13, if_neg h13]
    by_cases h0 : a < 0
    · rw [if_pos h0, if_pos h0, if_pos (by decide)]
    rw [if_neg h0, if_neg h0]
    by_cases h1 : ¬ p.x0 = 1
    · rw [if_pos h1, if_pos h1, if_pos (by decide)]
    rw [if_neg h1, if_neg h1]
    by_cases h2 : 2147483648 - p.x5 < a
    · rw [if_pos h2, if_pos h2, if_pos (by decide)]
    rw [if_neg h2, if_neg h2]
    rw [if_neg (show ¬ ¬ (0 : Int) = 0 by decide)]
  refine ⟨h, ?_⟩
  unfold doP3 aftP
  rw [h]
  rfl
/-- one step -/
def stE (p : Pd) (d : Dd) : Int := if d.k = 0 then aftE p (rideE p.x0 p.x6 p.x7 d.a) else if d.k = 1 then aftE p (inE p d.a d.b) else if d.k = 2 then aftE p (outE p d.a) else aftE p (addE p d.a)
def stP (p : Pd) (d : Dd) : Pd := if d.k = 0 then aftP p (rideQ p) (rideE p.x0 p.x6 p.x7 d.a) else if d.k = 1 then aftP p (inQ p d.a d.b) (inE p d.a d.b) else if d.k = 2 then aftP p (outQ p d.a) (outE p d.a) else aftP p (addQ p d.a) (addE p d.a)
theorem st_bad {p : Pd} {d : Dd} (h : stE p d ≠ 0) : stP p d = pz := by
  unfold stE at h
  unfold stP
  split
  · next hk => rw [if_pos hk] at h; exact aft_bad h
  · next hk =>
    rw [if_neg hk] at h
    split
    · next hk => rw [if_pos hk] at h; exact aft_bad h
    · next hk =>
      rw [if_neg hk] at h
      split
      · next hk => rw [if_pos hk] at h; exact aft_bad h
      · next hk => rw [if_neg hk] at h; exact aft_bad h
theorem st_ok {p : Pd} {d : Dd} (hp : RightN p.ns) (h : stE p d = 0) : p.x13 = false ∧ RightN (stP p d).ns ∧ (stP p d).x11 = p.x11 + 1 ∧ (stP p d).x0 = p.x0 ∧ (stP p d).x1 = p.x1 ∧ (stP p d).x2 = p.x2 ∧ (stP p d).x3 = p.x3 ∧ (stP p d).x4 = p.x4 ∧ (stP p d).x12 = p.x12 ∧ (stP p d).x6 = p.x6 ∧ (stP p d).x13 = false ∧ ((d.k = 2 ∧ (stP p d).x5 = p.x5 - d.a ∧ 0 ≤ d.a ∧ d.a ≤ p.x5) ∨ (d.k ≠ 0 ∧ d.k ≠ 1 ∧ d.k ≠ 2 ∧ (stP p d).x5 = p.x5 + d.a ∧ 0 ≤ d.a) ∨ ((d.k = 0 ∨ d.k = 1) ∧ (stP p d).x5 = p.x5)) := by
  have hr := (right_pd p).1 hp
  unfold stE at h
  unfold stP
  split
  · next hk =>
    rw [if_pos hk] at h
    obtain ⟨h1, h2, h3⟩ := aft_ok h
    have hq := ride_ok hp h2
    rw [aft_q h]
    unfold rideQ
    split
    · next hc => exact ⟨h1, (right_pd _).2 (by have := hq hc; dsimp only; omega), rfl, rfl, rfl, rfl, rfl, rfl, rfl, rfl, h1, Or.inr (Or.inr ⟨Or.inl hk, rfl⟩)⟩
    · exact ⟨h1, (right_pd _).2 (by dsimp only; omega), rfl, rfl, rfl, rfl, rfl, rfl, rfl, rfl, h1, Or.inr (Or.inr ⟨Or.inl hk, rfl⟩)⟩
  · next hk0 =>
    rw [if_neg hk0] at h
    split
    · next hk =>
      rw [if_pos hk] at h
      obtain ⟨h1, h2, h3⟩ := aft_ok h
      have hq := in_ok h2
      rw [aft_q h]
      exact ⟨h1, (right_pd _).2 (by dsimp only [inQ]; omega), rfl, rfl, rfl, rfl, rfl, rfl, rfl, rfl, h1, Or.inr (Or.inr ⟨Or.inr hk, rfl⟩)⟩
    · next hk1 =>
      rw [if_neg hk1] at h
      split
      · next hk =>
        rw [if_pos hk] at h
        obtain ⟨h1, h2, h3⟩ := aft_ok h
        have hq := out_ok h2
        rw [aft_q h]
        exact ⟨h1, (right_pd _).2 (by dsimp only [outQ]; omega), rfl, rfl, rfl, rfl, rfl, rfl, rfl, rfl, h1, Or.inl ⟨hk, rfl, hq.1, hq.2⟩⟩
      · next hk2 =>
        rw [if_neg hk2] at h
        obtain ⟨h1, h2, h3⟩ := aft_ok h
        have hq := add_ok h2
        rw [aft_q h]
        exact ⟨h1, (right_pd _).2 (by dsimp only [addQ]; omega), rfl, rfl, rfl, rfl, rfl, rfl, rfl, rfl, h1, Or.inr (Or.inl ⟨hk0, hk1, hk2, rfl, hq.1⟩)⟩
end Go.Proofs.Ytdaaejoglikhaaa
