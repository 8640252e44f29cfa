import Derived.Test.YtkcokcanakljnaaTreeMem
namespace Go.Proofs.Ytkcokcanakljnaa
open Go.RowKit
theorem bstr_inj {a b : List Nat} (ha : ∀ x ∈ a, x < 256) (hb : ∀ x ∈ b, x < 256) (h : bstr a = bstr b) : a = b := by
  have h1 : a.map UInt8.ofNat = b.map UInt8.ofNat := by rw [← bstr_list, ← bstr_list, h]
  clear h
  induction a generalizing b with
  | nil => cases b with
    | nil => rfl
    | cons => simp at h1
  | cons x a ih => cases b with
    | nil => simp at h1
    | cons y b =>
      simp only [List.map_cons, List.cons.injEq] at h1
      have hx := ha x (by simp)
      have hy := hb y (by simp)
      have hxy : x = y := by
        have := congrArg UInt8.toNat h1.1
        rw [UInt8.toNat_ofNat', UInt8.toNat_ofNat'] at this
        omega
      rw [hxy, ih (fun z hz => ha z (by simp [hz])) (fun z hz => hb z (by simp [hz])) h1.2]
theorem drew_twice {w wr : World} {q : Nat} (h : wr = w.drewN q) (n : Nat) : ∃ q', wr.drewN n = w.drewN q' := ⟨q + n, by rw [h]; simp [World.drewN, Nat.add_assoc]⟩
theorem drew_once {w wr : World} {q : Nat} (h : wr = w.drewN q) : ∃ q', wr = w.drewN q' := ⟨q, h⟩
theorem bstr_ne {a b : List Nat} (ha : ∀ x ∈ a, x < 256) (hb : ∀ x ∈ b, x < 256) (h : a ≠ b) : ((bstr a).toList == (bstr b).toList) = false := by
  rw [beq_eq_false_iff_ne]
  intro he
  rw [bstr_list, bstr_list] at he
  exact h (bstr_inj ha hb (by simp only [bstr, he]))
end Go.Proofs.Ytkcokcanakljnaa
