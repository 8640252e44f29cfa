/-
  Products as rows of numbers, their elements and back: plain mathematics.
-/
import Derived.Test.YtkcokcanakljnaaNumC
import Derived.Test.YtkcokcanakljnaaCuts
namespace Go.Proofs.Ytkcokcanakljnaa
/-- all contents are bytes -/
def Tr.small : Tr → Prop
  | .nil => True
  | .cons _ bs s r => (∀ x ∈ bs, x < 256) ∧ s.small ∧ r.small
theorem enc_small {T : Tr} : ∀ {l : Int} {b : List Nat}, Tr.right l T = true → T.enc = some b → (∀ x ∈ b, x < 256) → T.small := by
  induction T with
  | nil => exact fun _ _ _ => trivial
  | cons t bs s r ihs ihr =>
    intro l b hr he hb
    rw [right_cons] at hr
    simp only [Bool.and_eq_true] at hr
    obtain ⟨c, y, h1, h2, rfl⟩ := enc_some he
    have hy : ∀ x ∈ y, x < 256 := fun x hx => hb x (by simp [hx])
    have hc : ∀ x ∈ c, x < 256 := fun x hx => hb x (by simp [hx])
    refine ⟨?_, ?_, ihr hr.2 h2 hy⟩
    · rcases (cont_some h1).2 with ⟨_, e⟩ | ⟨h, _⟩
      · rw [← e]; exact hc
      · have hok := hr.1.2
        unfold okC at hok
        rw [if_neg (by omega)] at hok
        simp only [Bool.and_eq_true, beq_iff_eq] at hok
        intro x hx
        rw [List.eq_nil_of_length_eq_zero hok.1] at hx
        cases hx
    · have hok := hr.1.2
      unfold okC at hok
      rcases (cont_some h1).2 with ⟨h, _⟩ | ⟨h, e⟩
      · rw [if_pos h] at hok
        obtain rfl : s = .nil := Tr.len_zero (by simpa using hok)
        trivial
      · rw [if_neg (by omega)] at hok
        simp only [Bool.and_eq_true] at hok
        exact ihs hok.2 e hc
/-- the elements of numbers, from the tag i on; a number that is 0 has none -/
def numT : Nat → List Int → Tr
  | _, [] => .nil
  | i, n :: r => if n = 0 then numT (i + 1) r else .cons (i : Int) (be n.toNat) .nil (numT (i + 1) r)
/-- what elements say, laid over a row -/
def readT : Tr → List Int → Option (List Int)
  | .nil, n => some n
  | .cons t bs _ r, n => if 14 < t ∨ (intV bs).2 ≠ 0 ∨ (intV bs).1 = 0 ∨ (t = 9 ∧ (intV bs).1 ≠ 1) ∨ (t = 14 ∧ (intV bs).1 ≠ 1) then none else readT r (n.set (t - 1).toNat ((intV bs).1 : Int))
theorem readT_len {T : Tr} : ∀ {n m : List Int}, readT T n = some m → m.length = n.length := by
  induction T with
  | nil => intro n m h; simp only [readT, Option.some.injEq] at h; rw [← h]
  | cons t bs s r _ ih =>
    intro n m h
    simp only [readT] at h
    split at h
    · cases h
    · have := ih h
      rw [List.length_set] at this
      exact this
theorem numT_skip (m : List Int) : ∀ (d l : Nat), (∀ j, l ≤ j → j < l + d → m.getD j 0 = 0) → l + d ≤ m.length → numT (l + 1) (m.drop l) = numT (l + d + 1) (m.drop (l + d)) := by
  intro d
  induction d with
  | zero => intro l _ _; rfl
  | succ d ih =>
    intro l h hl
    have h0 := h l (Nat.le_refl _) (by omega)
    have hlt : l < m.length := by omega
    rw [List.drop_eq_getElem_cons hlt, numT, if_pos (by simpa [List.getD_eq_getElem?_getD, List.getElem?_eq_getElem hlt] using h0), ih (l + 1) (fun j a b => h j (by omega) (by omega)) (by omega)]
    rw [show l + 1 + d = l + (d + 1) by omega]
theorem numT_at (m : List Int) (l : Nat) (hl : l < m.length) (h : m.getD l 0 ≠ 0) : numT (l + 1) (m.drop l) = .cons ((l + 1 : Nat) : Int) (be (m.getD l 0).toNat) .nil (numT (l + 2) (m.drop (l + 1))) := by
  have e : m[l] = m.getD l 0 := by simp [List.getD_eq_getElem?_getD, List.getElem?_eq_getElem hl]
  rw [List.drop_eq_getElem_cons hl, numT, if_neg (by rw [e]; exact h), e]
theorem numT_end (m : List Int) (l : Nat) (h : ∀ j, l ≤ j → m.getD j 0 = 0) (hl : l ≤ m.length) : numT (l + 1) (m.drop l) = .nil := by
  rw [numT_skip m (m.length - l) l (fun j a _ => h j a) (by omega), show l + (m.length - l) = m.length by omega, List.drop_length]
  rfl
theorem set_getD (n : List Int) (i j : Nat) (v : Int) (hi : i < n.length) : (n.set i v).getD j 0 = if j = i then v else n.getD j 0 := by
  simp only [List.getD_eq_getElem?_getD]
  rw [List.getElem?_set]
  by_cases h : i = j
  · subst h; simp [hi]
  · rw [if_neg h, if_neg (fun e => h e.symm)]
/-- elements with numbers' forms are the elements of what they say -/
theorem readT_form {T : Tr} : ∀ {l : Nat} {n m : List Int}, Tr.right (l : Int) T = true → Tr.small T → readT T n = some m → n.length = 14 → l ≤ 14 → (∀ j, l ≤ j → n.getD j 0 = 0) →
    (∀ j, j < l → m.getD j 0 = n.getD j 0) ∧ T = numT (l + 1) (m.drop l) := by
  induction T with
  | nil =>
    intro l n m _ _ h hn hl h0
    simp only [readT, Option.some.injEq] at h
    subst h
    exact ⟨fun _ _ => rfl, (numT_end n l h0 (by omega)).symm⟩
  | cons t bs s r _ ih =>
    intro l n m hr hs h hn hl h0
    rw [right_cons] at hr
    simp only [Bool.and_eq_true, decide_eq_true_eq] at hr
    obtain ⟨⟨⟨ht, _⟩, hok⟩, hrr⟩ := hr
    obtain ⟨hs1, _, hs3⟩ : (∀ x ∈ bs, x < 256) ∧ s.small ∧ r.small := hs
    simp only [readT] at h
    split at h
    · cases h
    · next hc =>
      simp only [not_or] at hc
      obtain ⟨hc1, hc2, hc3, _, _⟩ := hc
      obtain ⟨q, rfl⟩ : ∃ q : Nat, t = (q : Int) + 1 := ⟨(t - 1).toNat, by omega⟩
      have eq1 : ((q : Int) + 1 - 1).toNat = q := by omega
      rw [eq1] at h
      have hq : q < 14 := by omega
      have hi := ih (l := q + 1) (n := n.set q ((intV bs).1 : Int)) (m := m) (by exact_mod_cast hrr) hs3 h (by rw [List.length_set]; exact hn) (by omega) (fun j hj => by rw [set_getD _ _ _ _ (by omega), if_neg (by omega)]; exact h0 j (by omega))
      obtain ⟨i1, i2⟩ := hi
      have hml : m.length = 14 := by rw [readT_len h, List.length_set, hn]
      have hv : m.getD q 0 = ((intV bs).1 : Int) := by rw [i1 q (by omega), set_getD _ _ _ _ (by omega), if_pos rfl]
      have hlow : ∀ j, j < q → m.getD j 0 = n.getD j 0 := fun j hj => by rw [i1 j (by omega), set_getD _ _ _ _ (by omega), if_neg (by omega)]
      refine ⟨fun j hj => hlow j (by omega), ?_⟩
      have hz : s = .nil := by
        unfold okC at hok
        rw [if_pos (by omega)] at hok
        exact Tr.len_zero (by simpa using hok)
      have hbe : be (intV bs).1 = bs := by
        unfold intV at hc2 hc3 ⊢
        split at hc2
        · exact absurd (show (11 : Nat) ≠ 0 by omega) hc2
        · next h7 =>
          rw [if_neg h7] at hc3 ⊢
          split at hc2
          · exact absurd (show (12 : Nat) ≠ 0 by omega) hc2
          · next h8 =>
            rw [if_neg h8] at hc3 ⊢
            exact be_val bs hs1 fun x hx e => h8 (by rw [hx, e])
      rw [numT_skip m (q - l) l (fun j a b => by rw [hlow j (by omega)]; exact h0 j a) (by omega), show l + (q - l) = q by omega, numT_at m q (by omega) (by rw [hv]; omega), hv]
      have e3 : ((intV bs).1 : Int).toNat = (intV bs).1 := by omega
      rw [e3, hbe, hz, ← i2]
      push_cast
      rfl
/-- and numbers' elements say the numbers -/
theorem read_numT {m : List Int} (hm : m.length = 14) (h0 : ∀ j, 0 ≤ m.getD j 0 ∧ m.getD j 0 < 72057594037927936) (h8 : m.getD 8 0 ≤ 1) (h13 : m.getD 13 0 ≤ 1) :
    ∀ (d l : Nat) (n : List Int), l + d = 14 → n.length = 14 → (∀ j, j < l → n.getD j 0 = m.getD j 0) → (∀ j, l ≤ j → n.getD j 0 = 0) → readT (numT (l + 1) (m.drop l)) n = some m := by
  intro d
  induction d with
  | zero =>
    intro l n hl hn h1 _
    rw [show l = m.length by omega, List.drop_length]
    simp only [numT, readT, Option.some.injEq]
    refine List.ext_getElem? fun j => ?_
    by_cases hj : j < 14
    · have := h1 j (by omega)
      simp only [List.getD_eq_getElem?_getD, List.getElem?_eq_getElem (show j < n.length by omega), List.getElem?_eq_getElem (show j < m.length by omega), Option.getD_some] at this ⊢
      rw [this]
    · rw [List.getElem?_eq_none (by omega), List.getElem?_eq_none (by omega)]
  | succ d ih =>
    intro l n hl hn h1 h2
    by_cases hz : m.getD l 0 = 0
    · rw [numT_skip m 1 l (fun j a b => by rw [show j = l by omega]; exact hz) (by omega)]
      exact ih (l + 1) n (by omega) hn (fun j hj => by
        rcases Nat.lt_or_ge j l with h | h
        · exact h1 j h
        · rw [show j = l by omega, hz]; exact h2 l (Nat.le_refl _)) (fun j hj => h2 j (by omega))
    · obtain ⟨q, hq⟩ : ∃ q : Nat, m.getD l 0 = (q : Int) := ⟨(m.getD l 0).toNat, by have := (h0 l).1; omega⟩
      have hql : q < 72057594037927936 := by have := (h0 l).2; omega
      have hq0 : q ≠ 0 := fun e => hz (by rw [hq, e]; rfl)
      have hlen : (be q).length ≤ 7 := be_len_le 7 q (by rw [show (256 : Nat) ^ 7 = 72057594037927936 by decide]; exact hql)
      have hiv : intV (be q) = (q, 0) := by
        unfold intV
        rw [if_neg (by omega), if_neg (fun e => be_okN q 0 e rfl), val_be]
      rw [numT_at m l (by omega) hz, hq, show ((q : Int)).toNat = q by omega]
      simp only [readT]
      rw [hiv]
      have ht : ((l + 1 : Nat) : Int) - 1 = (l : Int) := by omega
      have b9 : ((l + 1 : Nat) : Int) = 9 → q = 1 := fun e => by
        have : l = 8 := by omega
        subst this; omega
      have b14 : ((l + 1 : Nat) : Int) = 14 → q = 1 := fun e => by
        have : l = 13 := by omega
        subst this; omega
      rw [if_neg (by
        rintro (h | h | h | h | h)
        · omega
        · exact h rfl
        · exact hq0 h
        · exact h.2 (b9 h.1)
        · exact h.2 (b14 h.1))]
      rw [ht, show ((l : Int)).toNat = l by omega]
      refine ih (l + 1) _ (by omega) (by rw [List.length_set]; exact hn) (fun j hj => ?_) (fun j hj => ?_)
      · rw [set_getD _ _ _ _ (by omega)]
        by_cases e : j = l
        · rw [if_pos e, e, hq]
        · rw [if_neg e]; exact h1 j (by omega)
      · rw [set_getD _ _ _ _ (by omega), if_neg (by omega)]; exact h2 j (by omega)
end Go.Proofs.Ytkcokcanakljnaa
