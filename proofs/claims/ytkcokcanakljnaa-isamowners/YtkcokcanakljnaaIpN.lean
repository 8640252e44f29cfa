/-
  A product's form, as a row of numbers, and back: plain mathematics.
-/
import Derived.Test.YtkcokcanakljnaaIpM
namespace Go.Proofs.Ytkcokcanakljnaa
def mosts : List Int := [4, 4, 65535, 65535, 255, 2147483648, 65535, 255, 1, 255, 65535, 65535, 65535, 1]
def RightN (m : List Int) : Prop := m.length = 14 ∧ ∀ j, j < 14 → 0 ≤ m.getD j 0 ∧ m.getD j 0 ≤ mosts.getD j 0 ∧ (j < 5 → m.getD j 0 ≠ 0)
noncomputable instance RightN_dec (m : List Int) : Decidable (RightN m) := Classical.propDecidable _
noncomputable def rightN (m : List Int) : Bool := @decide _ (RightN_dec m)
theorem rightN_yes {m : List Int} (h : RightN m) : rightN m = true := @decide_eq_true _ (RightN_dec m) h
theorem rightN_no {m : List Int} (h : ¬ RightN m) : rightN m = false := @decide_eq_false _ (RightN_dec m) h
theorem rightN_of {m : List Int} (h : rightN m = true) : RightN m := @of_decide_eq_true _ (RightN_dec m) h
def innerB : Nat → List Int → List Nat
  | _, [] => []
  | i, n :: r => if n = 0 then innerB (i + 1) r else i :: (be n.toNat).length :: (be n.toNat ++ innerB (i + 1) r)
def formN (m : List Int) : List Nat := 224 :: (innerB 1 m).length :: innerB 1 m
def formT (m : List Int) : Tr := .cons 224 [] (numT 1 m) .nil
theorem numT_right : ∀ (m : List Int) (i : Nat) (l : Int), l < i → i + m.length ≤ 128 → Tr.right l (numT i m) = true
  | [], i, l, _, _ => rfl
  | n :: r, i, l, hl, hi => by
    simp only [List.length_cons] at hi
    simp only [numT]
    by_cases h : n = 0
    · rw [if_pos h]; exact numT_right r (i + 1) l (by omega) (by omega)
    · rw [if_neg h, right_cons]
      simp only [Bool.and_eq_true, decide_eq_true_eq]
      refine ⟨⟨⟨hl, by omega⟩, ?_⟩, numT_right r (i + 1) i (by omega) (by omega)⟩
      unfold okC
      rw [if_pos (by omega)]
      rfl
theorem numT_deeper : ∀ (m : List Int) (i k : Nat), Tr.deeper (k + 1) (numT i m) = false
  | [], i, k => deeper_nil _
  | n :: r, i, k => by
    simp only [numT]
    by_cases h : n = 0
    · rw [if_pos h]; exact numT_deeper r (i + 1) k
    · rw [if_neg h, deeper_cons, deeper_nil, numT_deeper r (i + 1) k]; rfl
theorem numT_enc : ∀ (m : List Int) (i : Nat), i + m.length ≤ 128 → (∀ n ∈ m, (be n.toNat).length ≤ 255) → (numT i m).enc = some (innerB i m)
  | [], i, _, _ => rfl
  | n :: r, i, hi, hb => by
    simp only [List.length_cons] at hi
    simp only [numT, innerB]
    have ih := numT_enc r (i + 1) (by omega) (fun x hx => hb x (List.mem_cons_of_mem _ hx))
    by_cases h : n = 0
    · rw [if_pos h, if_pos h]; exact ih
    · rw [if_neg h, if_neg h]
      have hc : cont (i : Int) (be n.toNat) .nil = some (be n.toNat) := by
        unfold cont
        rw [if_pos (by omega)]
        simp only
        rw [if_neg (by have := hb n (List.mem_cons_self ..); omega)]
      rw [enc_of hc ih]
      rfl
/-- how long a form can be -/
def sizes : List Nat := [1, 1, 2, 2, 1, 4, 2, 1, 1, 1, 2, 2, 2, 1]
theorem innerB_len : ∀ (m : List Int) (ks : List Nat) (i : Nat), m.length = ks.length → (∀ j, j < m.length → (be (m.getD j 0).toNat).length ≤ ks.getD j 0) → (innerB i m).length ≤ ks.sum + 2 * ks.length
  | [], [], i, _, _ => by simp [innerB]
  | [], _ :: _, i, h, _ => by simp at h
  | _ :: _, [], i, h, _ => by simp at h
  | n :: r, k :: ks, i, h, hk => by
    simp only [List.length_cons, Nat.add_right_cancel_iff] at h
    have ih := innerB_len r ks (i + 1) h (fun j hj => by have := hk (j + 1) (by simp; omega); simpa using this)
    have h0 := hk 0 (by simp)
    simp only [List.getD_cons_zero] at h0
    simp only [innerB, List.sum_cons, List.length_cons]
    by_cases hn : n = 0
    · rw [if_pos hn]; omega
    · rw [if_neg hn]
      simp only [List.length_cons, List.length_append]
      omega
theorem right_sizes {m : List Int} (h : RightN m) : ∀ j, j < m.length → (be (m.getD j 0).toNat).length ≤ sizes.getD j 0 := by
  intro j hj
  rw [h.1] at hj
  have hh := h.2 j hj
  refine be_len_le _ _ ?_
  rcases (show j = 0 ∨ j = 1 ∨ j = 2 ∨ j = 3 ∨ j = 4 ∨ j = 5 ∨ j = 6 ∨ j = 7 ∨ j = 8 ∨ j = 9 ∨ j = 10 ∨ j = 11 ∨ j = 12 ∨ j = 13 by omega) with rfl | rfl | rfl | rfl | rfl | rfl | rfl | rfl | rfl | rfl | rfl | rfl | rfl | rfl <;>
    (simp only [sizes, mosts, List.getD_eq_getElem?_getD] at hh ⊢; simp at hh ⊢; omega)
theorem right_inner {m : List Int} (h : RightN m) : (innerB 1 m).length ≤ 51 := by
  have := innerB_len m sizes 1 (by rw [h.1]; rfl) (right_sizes h)
  have e : sizes.sum + 2 * sizes.length = 51 := by decide
  omega
theorem form_len {m : List Int} (h : RightN m) : (formN m).length ≤ 53 := by
  have := right_inner h
  simp only [formN, List.length_cons]
  omega
theorem right_be {m : List Int} (h : RightN m) : ∀ n ∈ m, (be n.toNat).length ≤ 255 := by
  intro n hn
  obtain ⟨j, hj, rfl⟩ := List.getElem_of_mem hn
  have h1 := right_sizes h j hj
  have e : m.getD j 0 = m[j] := by simp [List.getD_eq_getElem?_getD, List.getElem?_eq_getElem hj]
  rw [e] at h1
  have h2 : sizes.getD j 0 ≤ 4 := by
    rw [h.1] at hj
    rcases (show j = 0 ∨ j = 1 ∨ j = 2 ∨ j = 3 ∨ j = 4 ∨ j = 5 ∨ j = 6 ∨ j = 7 ∨ j = 8 ∨ j = 9 ∨ j = 10 ∨ j = 11 ∨ j = 12 ∨ j = 13 by omega) with rfl | rfl | rfl | rfl | rfl | rfl | rfl | rfl | rfl | rfl | rfl | rfl | rfl | rfl <;> decide
  omega
theorem form_enc {m : List Int} (h : RightN m) : (formT m).enc = some (formN m) := by
  have hi := numT_enc m 1 (by rw [h.1]; omega) (right_be h)
  have hc : cont 224 [] (numT 1 m) = some (innerB 1 m) := by
    unfold cont
    rw [if_neg (by omega), hi]
    simp only
    rw [if_neg (by have := right_inner h; omega)]
  have := enc_of (t := 224) (b := []) (s := numT 1 m) (r := .nil) (y := []) hc rfl
  unfold formT
  rw [this, List.append_nil]
  rfl
theorem form_right {m : List Int} (h : RightN m) : Tr.right 0 (formT m) = true ∧ Tr.deeper 4 (formT m) = false := by
  unfold formT
  refine ⟨?_, ?_⟩
  · rw [right_cons]
    simp only [Bool.and_eq_true, decide_eq_true_eq]
    refine ⟨⟨⟨by omega, by omega⟩, ?_⟩, rfl⟩
    unfold okC
    rw [if_neg (by omega)]
    simp only [Bool.and_eq_true]
    exact ⟨rfl, numT_right m 1 0 (by omega) (by rw [h.1]; omega)⟩
  · rw [deeper_cons, numT_deeper m 1 2, deeper_nil]; rfl
theorem form_put {m : List Int} (h : RightN m) : (formT m).put = .ok (formN m) := put_of (form_right h).1 (form_right h).2 (form_enc h)
theorem form_dec {m : List Int} (h : RightN m) : decd 4 0 (formN m) = .ok (formT m) := dec_enc (form_right h).1 (form_right h).2 (form_enc h)
def zer : List Int := List.replicate 14 0
/-- what the one element of a form says -/
noncomputable def sayN : Tr → Nat ⊕ List Int
  | .cons t _ s .nil => if t = 224 then (match readT s zer with
    | some m => if rightN m then .inr m else .inl 12
    | none => .inl 12) else .inl 12
  | _ => .inl 12
noncomputable def parseN (bs : List Nat) : Nat ⊕ List Int := match decd 4 0 bs with
  | .err z => .inl z
  | .ok T => sayN T
theorem zer_get (j : Nat) : zer.getD j 0 = 0 := by
  unfold zer
  rw [List.getD_eq_getElem?_getD, List.getElem?_replicate]
  split <;> rfl
theorem right_bounds {m : List Int} (h : RightN m) : (∀ j, 0 ≤ m.getD j 0 ∧ m.getD j 0 < 72057594037927936) ∧ m.getD 8 0 ≤ 1 ∧ m.getD 13 0 ≤ 1 := by
  refine ⟨fun j => ?_, (h.2 8 (by omega)).2.1, (h.2 13 (by omega)).2.1⟩
  by_cases hj : j < 14
  · have hh := h.2 j hj
    have h2 : mosts.getD j 0 ≤ 2147483648 := by
      rcases (show j = 0 ∨ j = 1 ∨ j = 2 ∨ j = 3 ∨ j = 4 ∨ j = 5 ∨ j = 6 ∨ j = 7 ∨ j = 8 ∨ j = 9 ∨ j = 10 ∨ j = 11 ∨ j = 12 ∨ j = 13 by omega) with rfl | rfl | rfl | rfl | rfl | rfl | rfl | rfl | rfl | rfl | rfl | rfl | rfl | rfl <;> decide
    omega
  · rw [List.getD_eq_getElem?_getD, List.getElem?_eq_none (by rw [h.1]; omega)]
    simp
theorem parse_form {m : List Int} (h : RightN m) : parseN (formN m) = .inr m := by
  obtain ⟨h0, h8, h13⟩ := right_bounds h
  have hr : readT (numT 1 m) zer = some m := read_numT h.1 h0 h8 h13 14 0 zer rfl rfl (fun j hj => by omega) (fun j _ => zer_get j)
  unfold parseN
  rw [form_dec h]
  simp only [sayN, formT]
  rw [if_pos trivial, hr]
  simp only
  rw [if_pos (rightN_yes h)]
theorem form_parse {bs : List Nat} {m : List Int} (hb : ∀ x ∈ bs, x < 256) (h : parseN bs = .inr m) : RightN m ∧ bs = formN m := by
  unfold parseN at h
  cases hd : decd 4 0 bs with
  | err z => rw [hd] at h; cases h
  | ok T =>
    rw [hd] at h
    simp only at h
    obtain ⟨hr, hdp, he⟩ := enc_dec bs.length 4 0 bs T (Nat.le_refl _) hb hd
    have hs := enc_small hr he hb
    unfold sayN at h
    split at h
    · next t cb s =>
      split at h
      · next ht =>
        split at h
        · next m' hm =>
          split at h
          · next hR =>
            cases h
            have hR := rightN_of hR
            subst ht
            rw [show ((0 : Nat) : Int) = 0 by rfl, right_cons] at hr
            simp only [Bool.and_eq_true] at hr
            have hok := hr.1.2
            unfold okC at hok
            rw [if_neg (by omega)] at hok
            simp only [Bool.and_eq_true, beq_iff_eq] at hok
            obtain ⟨_, hs2, _⟩ : (∀ x ∈ cb, x < 256) ∧ s.small ∧ Tr.nil.small := hs
            have hf := readT_form (l := 0) (by exact_mod_cast hok.2) hs2 hm rfl (by omega) (fun j _ => zer_get j)
            have e : s = numT 1 m := by have := hf.2; simpa using this
            refine ⟨hR, ?_⟩
            have hcb : cb = [] := List.eq_nil_of_length_eq_zero hok.1
            rw [hcb, e] at he
            have := form_enc hR
            unfold formT at this
            rw [this] at he
            exact (Option.some.inj he).symm
          · cases h
        · cases h
      · cases h
    · cases h
end Go.Proofs.Ytkcokcanakljnaa
