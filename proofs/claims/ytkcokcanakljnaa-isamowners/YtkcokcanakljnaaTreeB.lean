import Derived.Test.YtkcokcanakljnaaGetC
import Derived.Test.YtkcokcanakljnaaTlvC
import Derived.Test.YtkcokcanakljnaaTRefA
namespace Go.Proofs.Ytkcokcanakljnaa
/-- the last tag, behind a tag l -/
def lastT (l : Int) : Tr → Int
  | .nil => l
  | .cons t _ _ r => lastT t r
theorem lastT_ge {T : Tr} : ∀ {l : Int}, Tr.right l T = true → l ≤ lastT l T := by
  induction T with
  | nil => intro l _; exact Int.le_refl _
  | cons t b s r _ ih =>
    intro l h
    rw [right_cons] at h
    simp only [Bool.and_eq_true, decide_eq_true_eq] at h
    have := ih h.2
    simp only [lastT]; omega
theorem cont_some {t : Int} {b c : List Nat} {s : Tr} (h : cont t b s = some c) : c.length ≤ 255 ∧ ((t ≤ 127 ∧ c = b) ∨ (127 < t ∧ s.enc = some c)) := by
  unfold cont at h
  by_cases ht : t ≤ 127
  · rw [if_pos ht] at h
    by_cases hl : 255 < b.length
    · simp [hl] at h
    · simp [hl] at h; subst h; exact ⟨by omega, Or.inl ⟨ht, rfl⟩⟩
  · rw [if_neg ht] at h
    cases hs : s.enc with
    | none => rw [hs] at h; simp at h
    | some x =>
      rw [hs] at h
      by_cases hl : 255 < x.length
      · simp [hl] at h
      · simp [hl] at h; subst h; exact ⟨by omega, Or.inr ⟨by omega, rfl⟩⟩
theorem enc_some {t : Int} {b x : List Nat} {s r : Tr} (h : (Tr.cons t b s r).enc = some x) : ∃ c y, cont t b s = some c ∧ r.enc = some y ∧ x = t.toNat :: c.length :: (c ++ y) := by
  rw [enc_cons] at h
  unfold laidOn at h
  cases hc : cont t b s with
  | none => rw [hc] at h; cases h
  | some c =>
    rw [hc] at h
    cases hr : r.enc with
    | none => rw [hr] at h; cases h
    | some y => rw [hr] at h; simp only [Option.some.injEq] at h; exact ⟨c, y, rfl, rfl, h.symm⟩
theorem enc_of {t : Int} {b c y : List Nat} {s r : Tr} (hc : cont t b s = some c) (hr : r.enc = some y) : (Tr.cons t b s r).enc = some (t.toNat :: c.length :: (c ++ y)) := by
  rw [enc_cons, hc, hr]; rfl
theorem map_ok {a : Ans} {f : Tr → Tr} {T : Tr} (h : a.map f = .ok T) : ∃ U, a = .ok U ∧ f U = T := by
  cases a with
  | err e => cases h
  | ok U => simp only [Ans.map, Ans.ok.injEq] at h; exact ⟨U, rfl, h⟩
theorem dec_app {T : Tr} : ∀ (lv : Nat) (l : Int) (x ys : List Nat), 0 ≤ l → Tr.right l T = true → Tr.deeper lv T = false → T.enc = some x → decd lv l.toNat (x ++ ys) = (decd lv (lastT l T).toNat ys).map (fun U => T.app U) := by
  induction T with
  | nil =>
    intro lv l x ys _ _ _ h
    simp only [Tr.enc, Option.some.injEq] at h
    subst h
    simp only [List.nil_append, lastT]
    exact (Ans.map_id _).symm
  | cons t b s r ih1 ih2 =>
    intro lv l x ys h0 hr hd he
    rw [right_cons] at hr
    simp only [Bool.and_eq_true, decide_eq_true_eq] at hr
    obtain ⟨⟨⟨hlt, h255⟩, hok⟩, hrr⟩ := hr
    cases lv with
    | zero => simp [Tr.deeper] at hd
    | succ k =>
      rw [deeper_cons, Bool.or_eq_false_iff] at hd
      obtain ⟨c, y, hc, hy, rfl⟩ := enc_some he
      have hi2 := ih2 (k + 1) t y ys (by omega) hrr hd.2 hy
      obtain ⟨hcl, hcc⟩ := cont_some hc
      have hta : ((t.toNat : Nat) : Int) = t := by omega
      simp only [List.cons_append, List.append_assoc]
      rw [decd_cons, if_neg (by omega), if_neg (by omega), if_neg (by simp)]
      have htk : (c ++ (y ++ ys)).take c.length = c := by simp
      have hdr : (c ++ (y ++ ys)).drop c.length = y ++ ys := by simp
      rw [htk, hdr, hi2]
      unfold okC at hok
      rcases hcc with ⟨ht, rfl⟩ | ⟨ht, hs⟩
      · rw [if_pos ht] at hok
        obtain rfl : s = .nil := Tr.len_zero (by simpa using hok)
        rw [if_pos (by omega), Ans.map_map, hta]
        rfl
      · rw [if_neg (by omega)] at hok
        simp only [Bool.and_eq_true, beq_iff_eq] at hok
        obtain rfl : b = [] := List.eq_nil_of_length_eq_zero hok.1
        have hi1 := ih1 k 0 c [] (by omega) hok.2 hd.1 hs
        rw [List.append_nil, decd_nil] at hi1
        rw [if_neg (by omega), show k + 1 - 1 = k from rfl, show (0 : Nat) = (0 : Int).toNat from rfl, hi1]
        simp only [Ans.map, Tr.app_nil]
        rw [hta]
        simp only [lastT]
        cases decd (k + 1) (lastT t r).toNat ys <;> rfl
/-- what is laid is read -/
theorem dec_enc {T : Tr} {x : List Nat} (hr : Tr.right 0 T = true) (hd : Tr.deeper 4 T = false) (he : T.enc = some x) : decd 4 0 x = .ok T := by
  have h := dec_app 4 0 x [] (by omega) hr hd he
  rw [List.append_nil, decd_nil] at h
  rw [show (0 : Nat) = (0 : Int).toNat from rfl, h]
  simp only [Ans.map, Tr.app_nil]
/-- what is read is laid so -/
theorem enc_dec : ∀ (n lv l : Nat) (b : List Nat) (T : Tr), b.length ≤ n → (∀ x ∈ b, x < 256) → decd lv l b = .ok T → Tr.right l T = true ∧ Tr.deeper lv T = false ∧ T.enc = some b := by
  intro n
  induction n with
  | zero =>
    intro lv l b T hb _ h
    obtain rfl : b = [] := List.eq_nil_of_length_eq_zero (by omega)
    rw [decd_nil] at h
    simp only [Ans.ok.injEq] at h
    subst h
    exact ⟨rfl, deeper_nil lv, rfl⟩
  | succ n ih =>
    intro lv l b T hb h256 h
    cases b with
    | nil =>
      rw [decd_nil] at h
      simp only [Ans.ok.injEq] at h
      subst h
      exact ⟨rfl, deeper_nil lv, rfl⟩
    | cons t r =>
      cases hh : headV lv l (t :: r) with
      | inl z => rw [(head_err hh).1] at h; cases h
      | inr c =>
        obtain ⟨m, x, rfl, hc, hcl, hm, hlv, hlt, he⟩ := head_ok hh
        rw [he] at h
        simp only [List.length_cons] at hb
        have ht := h256 t (by simp)
        have hm2 := h256 m (by simp)
        obtain ⟨k, rfl⟩ : ∃ k, lv = k + 1 := ⟨lv - 1, by omega⟩
        have hxd : ∀ y ∈ x.drop m, y < 256 := fun y hy => h256 y (by simp [List.mem_of_mem_drop hy])
        have hxt : ∀ y ∈ c, y < 256 := fun y hy => h256 y (by rw [hc] at hy; simp [List.mem_of_mem_take hy])
        have hcat : c ++ x.drop m = x := by rw [hc]; exact List.take_append_drop m x
        by_cases h7 : t ≤ 127
        · rw [if_pos h7] at h
          obtain ⟨U, hU, rfl⟩ := map_ok h
          obtain ⟨h1, h2, h3⟩ := ih (k + 1) t (x.drop m) U (by simp; omega) hxd hU
          have hcn : cont t c .nil = some c := by unfold cont; rw [if_pos (by omega)]; simp; omega
          refine ⟨?_, ?_, ?_⟩
          · rw [right_cons, h1]
            simp only [okC, if_pos (show (t : Int) ≤ 127 by omega)]
            simp [Tr.len]; omega
          · rw [deeper_cons, h2, deeper_nil]; rfl
          · rw [enc_of hcn h3, hcat, hcl]; simp
        · rw [if_neg h7] at h
          cases hs : decd (k + 1 - 1) 0 c with
          | err z => rw [hs] at h; cases h
          | ok s =>
            rw [hs] at h
            obtain ⟨U, hU, rfl⟩ := map_ok h
            obtain ⟨h1, h2, h3⟩ := ih (k + 1) t (x.drop m) U (by simp; omega) hxd hU
            obtain ⟨g1, g2, g3⟩ := ih k 0 c s (by omega) hxt hs
            have hcn : cont t [] s = some c := by unfold cont; rw [if_neg (by omega), g3]; simp; omega
            refine ⟨?_, ?_, ?_⟩
            · rw [right_cons, h1]
              simp only [okC, if_neg (show ¬ (t : Int) ≤ 127 by omega)]
              rw [show Tr.right 0 s = true from g1]
              simp; omega
            · rw [deeper_cons, h2, g2]; rfl
            · rw [enc_of hcn h3, hcat, hcl]; simp
end Go.Proofs.Ytkcokcanakljnaa
