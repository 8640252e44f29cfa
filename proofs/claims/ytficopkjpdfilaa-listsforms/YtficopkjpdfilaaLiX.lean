/-
  Plain mathematics: Get undoes Put, Put undoes Get.
-/
import Derived.Test.YtficopkjpdfilaaLiV
import Derived.Test.YtficopkjpdfilaaLiQ
namespace Go.Proofs.Ytficopkjpdfilaa
theorem num4_at (H r : List Nat) (n : Nat) (hn : n < 4294967296) : num4 (H ++ (fourB n ++ r)) H.length = n := by
  have e : ∀ k, k < 4 → (H ++ (fourB n ++ r)).getD (H.length + k) 0 = (fourB n).getD k 0 := fun k hk => by
    rw [List.getD_eq_getElem?_getD, List.getElem?_append_right (by omega), List.getElem?_append_left (by rw [four_len]; omega), List.getD_eq_getElem?_getD]
    congr 2
    omega
  unfold num4
  have e0 := e 0 (by omega)
  rw [Nat.add_zero] at e0
  rw [e0, e 1 (by omega), e 2 (by omega), e 3 (by omega)]
  simp only [fourB, List.getD_cons_zero, List.getD_cons_succ]
  omega
theorem getIt_at (H r : List Nat) (x : It) (hx : layB x = true) : getIt (H ++ (itB x ++ r)) H.length = x := by
  obtain ⟨h0, h1, h2, h3, h4⟩ := layB_at hx
  obtain ⟨c, o, i, n, a⟩ := x
  simp only at h0 h1 h2 h3 h4
  have k0 : num4 (H ++ (itB ⟨c, o, i, n, a⟩ ++ r)) H.length = c.toNat := by
    have := num4_at H (fourB o.toNat ++ (fourB i.toNat ++ (fourB n.toNat ++ fourB a.toNat)) ++ r) c.toNat (by omega)
    simpa [itB, List.append_assoc] using this
  have k1 : num4 (H ++ (itB ⟨c, o, i, n, a⟩ ++ r)) (H.length + 4) = o.toNat := by
    have := num4_at (H ++ fourB c.toNat) (fourB i.toNat ++ (fourB n.toNat ++ fourB a.toNat) ++ r) o.toNat (by omega)
    simpa [itB, List.append_assoc, four_len] using this
  have k2 : num4 (H ++ (itB ⟨c, o, i, n, a⟩ ++ r)) (H.length + 8) = i.toNat := by
    have := num4_at (H ++ fourB c.toNat ++ fourB o.toNat) (fourB n.toNat ++ fourB a.toNat ++ r) i.toNat (by omega)
    simpa [itB, List.append_assoc, four_len, Nat.add_assoc] using this
  have k3 : num4 (H ++ (itB ⟨c, o, i, n, a⟩ ++ r)) (H.length + 12) = n.toNat := by
    have := num4_at (H ++ fourB c.toNat ++ fourB o.toNat ++ fourB i.toNat) (fourB a.toNat ++ r) n.toNat (by omega)
    simpa [itB, List.append_assoc, four_len, Nat.add_assoc] using this
  have k4 : num4 (H ++ (itB ⟨c, o, i, n, a⟩ ++ r)) (H.length + 16) = a.toNat := by
    have := num4_at (H ++ fourB c.toNat ++ fourB o.toNat ++ fourB i.toNat ++ fourB n.toNat) r a.toNat (by omega)
    simpa [itB, List.append_assoc, four_len, Nat.add_assoc] using this
  unfold getIt
  rw [k0, k1, k2, k3, k4]
  simp only [It.mk.injEq]
  omega
theorem getIts_cons (bs : List Nat) (j n : Nat) : getIts bs j (n + 1) = getIt bs j :: getIts bs (j + 20) n := by
  rw [Nat.add_comm n 1, getIts_add]
  rfl
theorem getIts_at (xs : List It) : ∀ (H r : List Nat), xs.all layB = true → getIts (H ++ (itsB xs ++ r)) H.length xs.length = xs := by
  induction xs with
  | nil => intro H r _; rfl
  | cons x xs ih =>
    intro H r h
    rw [List.all_cons, Bool.and_eq_true] at h
    have e : H ++ (itsB (x :: xs) ++ r) = H ++ (itB x ++ (itsB xs ++ r)) := by simp [itsB, List.append_assoc]
    rw [e, List.length_cons, getIts_cons, getIt_at H _ x h.1]
    have := ih (H ++ itB x) r h.2
    rw [List.length_append, itB_len, List.append_assoc] at this
    rw [this]
theorem putE_zero {tv : Int} {add off : List It} (h : putE tv add off = 0) : (1 ≤ tv ∧ tv ≤ 2147483647) ∧ add.all layB = true ∧ off.all layB = true ∧ add.length ≤ 64 ∧ off.length ≤ 64 := by
  unfold putE at h
  cases h1 : inB 1 2147483647 [tv] <;> cases h2 : add.all layB <;> cases h3 : off.all layB <;> rw [h1, h2, h3] at h <;> simp at h
  refine ⟨by simp [inB] at h1; exact h1, rfl, rfl, ?_⟩
  cases h4 : inB 0 64 [(add.length : Int), (off.length : Int)] <;> rw [h4] at h
  · simp at h
  · simp [inB] at h4; omega
theorem getD_at (H r : List Nat) (x k : Nat) (hk : H.length = k) : (H ++ (x :: r)).getD k 0 = x := by
  subst hk
  rw [List.getD_eq_getElem?_getD, List.getElem?_append_right (Nat.le_refl _), Nat.sub_self]
  rfl
theorem get_put {tv : Int} {add off : List It} (h : putE tv add off = 0) : getE (delB tv add off) = 0 ∧ getT (delB tv add off) = tv ∧ getA (delB tv add off) = add ∧ getO (delB tv add off) = off := by
  obtain ⟨⟨h1, h2⟩, h3, h4, h5, h6⟩ := putE_zero h
  have hT : num4 (delB tv add off) 0 = tv.toNat := num4_at [] _ tv.toNat (by omega)
  have h4b : (delB tv add off).getD 4 0 = add.length := by
    have := getD_at (fourB tv.toNat) ([off.length % 256] ++ (itsB add ++ itsB off)) (add.length % 256) 4 rfl
    rw [Nat.mod_eq_of_lt (by omega)] at this
    simpa [delB, Nat.mod_eq_of_lt (show add.length < 256 by omega)] using this
  have h5b : (delB tv add off).getD 5 0 = off.length := by
    have := getD_at (fourB tv.toNat ++ [add.length % 256]) (itsB add ++ itsB off) (off.length % 256) 5 rfl
    rw [Nat.mod_eq_of_lt (show off.length < 256 by omega)] at this
    simpa [delB, List.append_assoc, Nat.mod_eq_of_lt (show off.length < 256 by omega)] using this
  have hall : getIts (delB tv add off) 6 (add.length + off.length) = add ++ off := by
    have := getIts_at (add ++ off) (fourB tv.toNat ++ [add.length % 256, off.length % 256]) [] (by rw [List.all_append, h3, h4]; rfl)
    rw [List.length_append, itsB_app, List.append_nil] at this
    simpa [delB, List.append_assoc, four_len] using this
  have hlen := delB_len tv add off
  have hE : getE (delB tv add off) = 0 := by
    rw [getE_rest (by omega) (by rw [hT]; simp [inB]; omega) (by rw [h4b, h5b]; simp [inB]; omega), h4b, h5b, hall, if_neg (by omega), if_neg (by omega), List.all_append, h3, h4]
    rfl
  have hs : getIts (delB tv add off) 6 add.length = add ∧ getIts (delB tv add off) (6 + 20 * add.length) off.length = off := by
    rw [getIts_add] at hall
    exact List.append_inj hall (by rw [getIts_len])
  refine ⟨hE, ?_, ?_, ?_⟩
  · unfold getT; rw [if_pos hE, hT]; omega
  · unfold getA; rw [if_pos hE, h4b]; exact hs.1
  · unfold getO; rw [if_pos hE, h4b, h5b]; exact hs.2
theorem take_its (bs : List Nat) (j : Nat) (h256 : ∀ x ∈ bs, x < 256) : ∀ n, j + 20 * n ≤ bs.length → bs.take (j + 20 * n) = bs.take j ++ itsB (getIts bs j n) := by
  intro n
  induction n with
  | zero => intro _; simp [getIts, itsB]
  | succ n ih =>
    intro h
    have h0 := ih (by omega)
    have e : j + 20 * (n + 1) = j + 20 * n + 4 + 4 + 4 + 4 + 4 := by omega
    rw [e, take_four _ _ (by omega) h256, take_four _ _ (by omega) h256, take_four _ _ (by omega) h256, take_four _ _ (by omega) h256, take_four _ _ (by omega) h256, h0]
    simp only [getIts, itsB_app, itsB_one, itB, getIt, List.append_assoc, Int.toNat_natCast]
theorem getE_zero {bs : List Nat} (h : getE bs = 0) : 6 ≤ bs.length ∧ (1 ≤ (num4 bs 0 : Int) ∧ (num4 bs 0 : Int) ≤ 2147483647) ∧ bs.getD 4 0 ≤ 64 ∧ bs.getD 5 0 ≤ 64 ∧ bs.length = 6 + 20 * (bs.getD 4 0 + bs.getD 5 0) ∧ (getIts bs 6 (bs.getD 4 0 + bs.getD 5 0)).all layB = true := by
  have h6 : 6 ≤ bs.length := by
    rcases Nat.lt_or_ge bs.length 6 with h1 | h1
    · rw [getE_short h1] at h; omega
    · exact h1
  cases h1 : inB 1 2147483647 [(num4 bs 0 : Int)]
  · rw [getE_form h6 (Or.inl h1)] at h; omega
  cases h2 : inB 0 64 [(bs.getD 4 0 : Int), (bs.getD 5 0 : Int)]
  · rw [getE_form h6 (Or.inr h2)] at h; omega
  rw [getE_rest h6 h1 h2] at h
  by_cases h3 : bs.length < 6 + 20 * (bs.getD 4 0 + bs.getD 5 0)
  · rw [if_pos h3] at h; omega
  rw [if_neg h3] at h
  by_cases h4 : 6 + 20 * (bs.getD 4 0 + bs.getD 5 0) < bs.length
  · rw [if_pos h4] at h; omega
  rw [if_neg h4] at h
  cases h5 : (getIts bs 6 (bs.getD 4 0 + bs.getD 5 0)).all layB
  · rw [h5] at h; simp at h
  simp only [inB, List.all_cons, List.all_nil, Bool.and_true, Bool.and_eq_true, decide_eq_true_eq] at h1 h2
  exact ⟨h6, h1, by omega, by omega, by omega, rfl⟩
theorem put_get {bs : List Nat} (h : getE bs = 0) (h256 : ∀ x ∈ bs, x < 256) : putE (getT bs) (getA bs) (getO bs) = 0 ∧ delB (getT bs) (getA bs) (getO bs) = bs := by
  obtain ⟨h6, h1, h2, h3, h4, h5⟩ := getE_zero h
  have hT : getT bs = (num4 bs 0 : Int) := by unfold getT; rw [if_pos h]
  have hA : getA bs = getIts bs 6 (bs.getD 4 0) := by unfold getA; rw [if_pos h]
  have hO : getO bs = getIts bs (6 + 20 * bs.getD 4 0) (bs.getD 5 0) := by unfold getO; rw [if_pos h]
  have hAO : getA bs ++ getO bs = getIts bs 6 (bs.getD 4 0 + bs.getD 5 0) := by rw [hA, hO, ← getIts_add]
  have hAl : (getA bs).length = bs.getD 4 0 := by rw [hA, getIts_len]
  have hOl : (getO bs).length = bs.getD 5 0 := by rw [hO, getIts_len]
  constructor
  · rw [hT, putE_all h1 (by rw [hAO]; exact h5), hAl, hOl, if_neg (by omega)]
  · unfold delB
    rw [← itsB_app, hAO, hAl, hOl, hT, Int.toNat_natCast]
    have e1 := take_four bs 0 (by omega) h256
    have e2 := take_its bs 6 h256 (bs.getD 4 0 + bs.getD 5 0) (by omega)
    rw [List.take_of_length_le (by omega)] at e2
    have e3 : bs.take 6 = bs.take 4 ++ [bs.getD 4 0, bs.getD 5 0] := by
      have d : ∀ k, k < bs.length → bs.take (k + 1) = bs.take k ++ [bs.getD k 0] := fun k hk => by
        rw [List.take_add_one, List.getElem?_eq_getElem hk, List.getD_eq_getElem?_getD, List.getElem?_eq_getElem hk]; rfl
      rw [d 5 (by omega), d 4 (by omega), List.append_assoc]
      rfl
    rw [Nat.zero_add, List.take_zero, List.nil_append] at e1
    rw [Nat.mod_eq_of_lt (by omega), Nat.mod_eq_of_lt (by omega), ← e1, ← List.append_assoc, ← e3]
    exact e2.symm
end Go.Proofs.Ytficopkjpdfilaa
