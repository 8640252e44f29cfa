/-
  Plain mathematics of layer 7: a card that was formatted; letters for a view; power that never fails.
-/
import Derived.Test.YtjkpijinpfimiaaPrT
namespace Go.Proofs.Ytjkpijinpfimiaa
theorem wr_free (n : Nat) : wrE (-1) n = 0 ∧ wrN (-1) n = n ∧ wrP (-1) n = -1 := by
  refine ⟨?_, ?_, ?_⟩
  · unfold wrE; rw [if_neg (by omega)]
  · unfold wrN; rw [if_neg (by omega)]
  · unfold wrP; rw [if_pos (by omega)]
theorem dir_zs : dirB (zs 32) = false := by
  unfold dirB
  rw [show seqN (zs 32) = 0 from rfl]
  simp
/-- a card that was formatted -/
theorem fm_done {B : List Nat} {id u : Nat} (hl : B.length = 512) (h1 : 1 ≤ id ∧ id ≤ 65535) (h2 : 1 ≤ u ∧ u ≤ 4) :
    rdE (doneI B (fmR id u) 3) = 0 ∧ rdV (doneI B (fmR id u) 3) = ⟨(id : Int), (u : Int), 1, 1, []⟩ := by
  have hS : (sectorB (listB 1 [])).length = 32 := sector_len _
  have hZ : (zs 32).length = 32 := zs_len 32
  have hT : (sectorB (shellB id u)).length = 32 := sector_len _
  have e : doneI B (fmR id u) 3 = splice (splice (splice B (32 * 1) (sectorB (listB 1 []))) (32 * 2) (zs 32)) (32 * 0) (sectorB (shellB id u)) := rfl
  obtain ⟨B1, hB1⟩ : ∃ B1, B1 = splice B (32 * 1) (sectorB (listB 1 [])) := ⟨_, rfl⟩
  obtain ⟨B2, hB2⟩ : ∃ B2, B2 = splice B1 (32 * 2) (zs 32) := ⟨_, rfl⟩
  have l1 : B1.length = 512 := by rw [hB1, length_splice _ _ _ (by rw [hS, hl]; omega), hl]
  have l2 : B2.length = 512 := by rw [hB2, length_splice _ _ _ (by rw [hZ, l1]; omega), l1]
  rw [e, ← hB1, ← hB2]
  have s0 : sec (splice B2 (32 * 0) (sectorB (shellB id u))) 0 = sectorB (shellB id u) := sec_same l2 (by omega) hT
  have s1 : sec (splice B2 (32 * 0) (sectorB (shellB id u))) 1 = sectorB (listB 1 []) := by
    rw [sec_other l2 (by omega) hT (by omega), hB2, sec_other l1 (by omega) hZ (by omega), hB1, sec_same hl (by omega) hS]
  have s2 : sec (splice B2 (32 * 0) (sectorB (shellB id u))) 2 = zs 32 := by
    rw [sec_other l2 (by omega) hT (by omega), hB2, sec_same l1 (by omega) hZ]
  generalize splice B2 (32 * 0) (sectorB (shellB id u)) = X at s0 s1 s2 ⊢
  have hbl : (shellB id u).length ≤ 30 := by simp [shellB]
  have hsm : ∀ x ∈ shellB id u, x < 256 := by
    intro x hx
    simp only [shellB, List.mem_cons, List.not_mem_nil, or_false] at hx
    rcases hx with rfl | rfl | rfl | rfl | rfl <;> omega
  have g := fun i hi => sector_get (shellB id u) hbl i hi
  have gid : idN (sectorB (shellB id u)) = id := by
    unfold idN
    rw [g 2 (by omega), g 3 (by omega)]
    show id / 256 * 256 + id % 256 = id
    omega
  have gu : (sectorB (shellB id u)).getD 4 0 = u := by rw [g 4 (by omega)]; rfl
  have hf : formB (sectorB (shellB id u)) = true := by
    rw [shell_test hT (sector_small _ hsm) (sector_sum _), gid, gu, decide_eq_true h1.1, decide_eq_true h2.1, decide_eq_true h2.2]
    simp
  obtain ⟨d1, d2, d3, d4⟩ := sector_back 1 [] (by omega) (by omega) (by simp) ⟨by simp, by simp⟩
  have hE : rdE X = 0 := by unfold rdE; rw [s0, s1, s2, sector_sum, hf, d1]; rfl
  have hc : cpN X = 1 := by unfold cpN pick2; rw [s1, s2, d1, dir_zs]; rfl
  refine ⟨hE, ?_⟩
  unfold rdV
  rw [if_pos hE, hc, s0, s1, gid, gu, d2, d3, d4]
  rfl
/-- letters for a view -/
theorem rd_letters {B : List Nat} (hB : ∀ x ∈ B, x < 256) (h : rdE B = 0) : ∃ (c u : Int) (q p : Nat) (l : List En), rdV B = ⟨c, u, (q : Int), (p : Int), l⟩ ∧ Vw.fine ⟨c, u, (q : Int), (p : Int), l⟩ := by
  have hf := rd_fine hB h
  have : ∃ (c u : Int) (q p : Nat) (l : List En), rdV B = ⟨c, u, (q : Int), (p : Int), l⟩ := by
    unfold rdV
    rw [if_pos h]
    exact ⟨_, _, _, _, _, rfl⟩
  obtain ⟨c, u, q, p, l, e⟩ := this
  rw [e] at hf
  exact ⟨c, u, q, p, l, e, hf⟩
end Go.Proofs.Ytjkpijinpfimiaa
