/-
  What Take comes to, whatever is asked.
-/
import Derived.Test.YtemhcfbdpplcgaaLawD
import Derived.Deep.RegionHeld3
import Derived.Deep.CutBlock
namespace Go.Proofs.Ytemhcfbdpplcgaa
open Go.RowKit

/-- what Take comes to -/
def Took (b : Nat) (bs : List Nat) (p : Nat) (er : Int) (n : Nat) (f : Nat → Int) (A : Option Addr) (vn c p' : Nat) (er' : Int) (w' : World) : Prop :=
  er' = (if er = 0 then chk f n (8 * bs.length - p) else er) ∧ p' ≤ 8 * bs.length ∧ Rd w' b bs p' er' ∧
  ((er' ≠ 0 ∧ vn = 0 ∧ p' = p) ∨ (er' = 0 ∧ vn = n ∧ p' = p + sumN (fun i => (f i).toNat) n ∧ (∀ i, i < n → 1 ≤ f i ∧ f i ≤ 32) ∧ ∃ base, w'.ownsRow base 3 1 (.slice A n c) n ((List.range n).map (nums bs p (fun i => (f i).toNat)))))
theorem sumTo_nat (f : Nat → Int) (n : Nat) (h : ∀ i, i < n → 0 ≤ f i) : sumTo f n = (sumN (fun i => (f i).toNat) n : Int) := by
  induction n with
  | zero => rfl
  | succ n ih =>
    have h1 := ih (fun i hi => h i (by omega))
    have h2 := h n (by omega)
    simp only [sumTo, sumN, h1]; omega
theorem chk_cases (f : Nat → Int) (n : Nat) (left : Int) : (chk f n left = 2 ∧ ∃ i, i < n ∧ ¬ (1 ≤ f i ∧ f i ≤ 32)) ∨ ((∀ i, i < n → 1 ≤ f i ∧ f i ≤ 32) ∧ ((chk f n left = 10 ∧ left < sumTo f n) ∨ (chk f n left = 0 ∧ sumTo f n ≤ left))) := by
  by_cases h : ∃ i, i < n ∧ ¬ (1 ≤ f i ∧ f i ≤ 32)
  · exact Or.inl ⟨by unfold chk; rw [if_pos h], h⟩
  · refine Or.inr ⟨fun i hi => Classical.byContradiction fun hn => h ⟨i, hi, hn⟩, ?_⟩
    by_cases h2 : left < sumTo f n
    · exact Or.inl ⟨by unfold chk; rw [if_neg h, if_pos h2], h2⟩
    · exact Or.inr ⟨by unfold chk; rw [if_neg h, if_neg h2], by omega⟩
theorem Take_any (b : Nat) (bs : List Nat) (p : Nat) (er : Int) (w : World) (hR : Rd w b bs p er) (hl : bs.length ≤ 140737488351232) (h256 : ∀ x ∈ bs, x < 256) (hp : p ≤ 8 * bs.length)
    (A : Option Addr) (n c : Nat) (F : Nat → Prop) (f : Nat → Int) (hn : n ≤ 17592186043904) (hA : Arr w F A n (fun i => .int .i64 (f i))) (hF : ∀ k, F k → k < w.heap.size ∧ k ≠ b) :
    Calls Try.prog 16 #[.pointer (some ⟨b, 0, none⟩), .slice A n c] w fun e w' => ∃ A' vn c' p' er', e = .returned (.slice A' vn c') ∧ Chg (· = b) w w' ∧ Took b bs p er n f A' vn c' p' er' w' := by
  by_cases he : er = 0
  · subst he
    rcases chk_cases f n (8 * bs.length - p) with ⟨hc, _⟩ | ⟨hall, ⟨hc, _⟩ | ⟨hc, hle⟩⟩
    · refine (take_no b bs p w hR (by omega) hp A n c F f (by omega) hA (by rw [hc]; rfl)).mono ?_
      rintro e w' ⟨rfl, h1, h2⟩
      exact ⟨none, 0, 0, p, _, rfl, h2, by rw [if_pos rfl], hp, h1, Or.inl ⟨by rw [hc]; decide, rfl, rfl⟩⟩
    · refine (take_no b bs p w hR (by omega) hp A n c F f (by omega) hA (by rw [hc]; rfl)).mono ?_
      rintro e w' ⟨rfl, h1, h2⟩
      exact ⟨none, 0, 0, p, _, rfl, h2, by rw [if_pos rfl], hp, h1, Or.inl ⟨by rw [hc]; decide, rfl, rfl⟩⟩
    · have hs := sumTo_nat f n (fun i hi => by have := hall i hi; omega)
      refine (take_ok b bs p w hR hl h256 A n c F (fun i => (f i).toNat) (by omega) (fun i hi => by
          obtain ⟨a, ha, hb, hcc⟩ := hA i hi
          refine ⟨a, ha, hb, ?_⟩
          rw [hcc]
          have := hall i hi
          simp only [iV, Int.toNat_of_nonneg (show 0 ≤ f i by omega)]) hF (fun i hi => by have := hall i hi; omega) (by omega)).mono ?_
      rintro e w' ⟨A', c', rfl, hO, h1, h2⟩
      exact ⟨A', n, c', _, 0, rfl, h2, by rw [if_pos rfl, hc], by omega, h1, Or.inr ⟨rfl, rfl, rfl, hall, _, hO⟩⟩
  · refine (take_dead b bs p er _ w hR (by simpa using he)).mono ?_
    rintro e w' ⟨rfl, rfl⟩
    exact ⟨none, 0, 0, p, er, rfl, Chg.refl _ _, by rw [if_neg he], hp, hR, Or.inl ⟨he, rfl, rfl⟩⟩
end Go.Proofs.Ytemhcfbdpplcgaa
