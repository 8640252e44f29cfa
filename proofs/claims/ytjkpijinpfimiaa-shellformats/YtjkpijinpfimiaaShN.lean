/-
  Plain mathematics of layer 7: what an image says, the place of a product, the least free slot, what a Store and a Drop write, and what is said behind them.
-/
import Derived.Test.YtjkpijinpfimiaaShM
namespace Go.Proofs.Ytjkpijinpfimiaa
/-- a view: card, issuer, sequence number, copy, entries -/
structure Vw where
  c : Int
  u : Int
  q : Int
  p : Int
  es : List En
def noV : Vw := ⟨0, 0, 0, 0, []⟩
def idN (b : List Nat) : Nat := b.getD 2 0 * 256 + b.getD 3 0
/-- are a sector's bytes (its sum aside) those of a shell? -/
def formB (b : List Nat) : Bool := b.getD 0 0 == 70 && b.getD 1 0 == 66 && decide (1 ≤ idN b) && decide (1 ≤ b.getD 4 0) && decide (b.getD 4 0 ≤ 4) && nil0 b 5
/-- is it the second copy that counts? -/
def pick2 (B : List Nat) : Bool := !dirB (sec B 1) || (dirB (sec B 2) && decide (seqN (sec B 1) < seqN (sec B 2)))
def rdE (B : List Nat) : Int := if sumOk (sec B 0) then (if formB (sec B 0) then (if dirB (sec B 1) || dirB (sec B 2) then 0 else 21) else 12) else 13
def cpN (B : List Nat) : Nat := if pick2 B then 2 else 1
def rdV (B : List Nat) : Vw := if rdE B = 0 then ⟨(idN (sec B 0) : Nat), ((sec B 0).getD 4 0 : Nat), (seqN (sec B (cpN B)) : Nat), (cpN B : Nat), ens (sec B (cpN B)) ((sec B (cpN B)).getD 2 0)⟩ else noV
theorem seqN_le {b : List Nat} (h : ∀ x ∈ b, x < 256) : seqN b ≤ 65535 := by
  unfold seqN
  have := getD_lt b h 0
  have := getD_lt b h 1
  omega
theorem cp_two (B : List Nat) : cpN B = 1 ∨ cpN B = 2 := by unfold cpN; split <;> simp
/-- of an image that can be read: the copy that counts is valid -/
theorem rd_parts {B : List Nat} (h : rdE B = 0) : sumOk (sec B 0) = true ∧ formB (sec B 0) = true ∧ dirB (sec B (cpN B)) = true := by
  unfold rdE at h
  by_cases h1 : sumOk (sec B 0) = true
  · rw [if_pos h1] at h
    by_cases h2 : formB (sec B 0) = true
    · rw [if_pos h2] at h
      by_cases h3 : (dirB (sec B 1) || dirB (sec B 2)) = true
      · refine ⟨h1, h2, ?_⟩
        unfold cpN pick2
        cases hx : dirB (sec B 1) <;> cases hy : dirB (sec B 2) <;> simp [hx, hy] at h3 ⊢
        split <;> assumption
      · rw [if_neg h3] at h; cases h
    · rw [if_neg h2] at h; cases h
  · rw [if_neg h1] at h; cases h
theorem dir_parts {b : List Nat} (h : dirB b = true) : b.getD 2 0 ≤ 5 ∧ Sound (ens b (b.getD 2 0)) ∧ 0 < seqN b := by
  unfold dirB at h
  simp only [Bool.and_eq_true, decide_eq_true_eq] at h
  exact ⟨h.1.1.1.2, h.1.1.2, h.1.2⟩
theorem ens_len (b : List Nat) (n : Nat) : (ens b n).length = n := by simp [ens]
structure Vw.fine (v : Vw) : Prop where
  sound : Sound v.es
  len : v.es.length ≤ 5
  q1 : 1 ≤ v.q
  q2 : v.q ≤ 65535
  p : v.p = 1 ∨ v.p = 2
theorem rd_fine {B : List Nat} (hB : ∀ x ∈ B, x < 256) (h : rdE B = 0) : (rdV B).fine := by
  obtain ⟨_, _, h3⟩ := rd_parts h
  obtain ⟨h4, h5, h6⟩ := dir_parts h3
  have h7 := seqN_le (sec_small (i := cpN B) hB)
  unfold rdV
  rw [if_pos h]
  refine ⟨h5, by simp only [ens_len]; exact h4, by simp only; omega, by simp only; omega, ?_⟩
  rcases cp_two B with h | h <;> simp [h]
/-- only the first three sectors count -/
theorem rd_same {B B' : List Nat} (h0 : sec B' 0 = sec B 0) (h1 : sec B' 1 = sec B 1) (h2 : sec B' 2 = sec B 2) : rdE B' = rdE B ∧ rdV B' = rdV B := by
  have e1 : rdE B' = rdE B := by unfold rdE; rw [h0, h1, h2]
  have e2 : cpN B' = cpN B := by unfold cpN pick2; rw [h1, h2]
  refine ⟨e1, ?_⟩
  unfold rdV
  rw [e1, e2, h0]
  rcases cp_two B with h | h
  · rw [h, h1]
  · rw [h, h2]
/-- the other copy is written -/
theorem rd_next {B : List Nat} {l : List En} (hl : B.length = 512) (h : rdE B = 0) (hq : (rdV B).q < 65535) (hn : l.length ≤ 5) (hS : Sound l) :
    rdE (splice B (32 * (3 - cpN B)) (sectorB (listB ((rdV B).q + 1).toNat l))) = 0 ∧ rdV (splice B (32 * (3 - cpN B)) (sectorB (listB ((rdV B).q + 1).toNat l))) = ⟨(rdV B).c, (rdV B).u, (rdV B).q + 1, 3 - (rdV B).p, l⟩ := by
  obtain ⟨h1, h2, h3⟩ := rd_parts h
  obtain ⟨_, _, h6⟩ := dir_parts h3
  have hv : rdV B = ⟨(idN (sec B 0) : Nat), ((sec B 0).getD 4 0 : Nat), (seqN (sec B (cpN B)) : Nat), (cpN B : Nat), ens (sec B (cpN B)) ((sec B (cpN B)).getD 2 0)⟩ := by unfold rdV; rw [if_pos h]
  rw [hv] at hq ⊢
  simp only at hq ⊢
  rw [show ((seqN (sec B (cpN B)) : Nat) : Int) + 1 = ((seqN (sec B (cpN B)) + 1 : Nat) : Int) by omega, Int.toNat_natCast]
  have hq' : seqN (sec B (cpN B)) + 1 ≤ 65535 := by omega
  obtain ⟨d1, d2, d3, d4⟩ := sector_back (seqN (sec B (cpN B)) + 1) l (by omega) hq' hn hS
  generalize hS' : sectorB (listB (seqN (sec B (cpN B)) + 1) l) = S at d1 d2 d3 d4 ⊢
  have hSl : S.length = 32 := by rw [← hS', sector_len]
  have s0 : ∀ t, t = 1 ∨ t = 2 → sec (splice B (32 * t) S) 0 = sec B 0 := fun t ht => sec_other hl (by omega) hSl (by omega)
  rcases cp_two B with hc | hc
  · rw [hc] at h3 d2 h6 ⊢
    have e1 : sec (splice B (32 * (3 - 1)) S) 1 = sec B 1 := sec_other hl (by omega) hSl (by omega)
    have e2 : sec (splice B (32 * (3 - 1)) S) 2 = S := sec_same hl (by omega) hSl
    have e0 := s0 (3 - 1) (by omega)
    generalize splice B (32 * (3 - 1)) S = B' at e0 e1 e2 ⊢
    have k1 : rdE B' = 0 := by unfold rdE; rw [e0, e1, e2, if_pos h1, if_pos h2, d1, Bool.or_true, if_pos rfl]
    have k2 : cpN B' = 2 := by
      unfold cpN pick2
      rw [e1, e2, h3, d1, d2]
      simp
    refine ⟨k1, ?_⟩
    unfold rdV
    rw [if_pos k1, k2, e0, e2, d2, d3, d4]
    rfl
  · rw [hc] at h3 d2 h6 ⊢
    have e1 : sec (splice B (32 * (3 - 2)) S) 1 = S := sec_same hl (by omega) hSl
    have e2 : sec (splice B (32 * (3 - 2)) S) 2 = sec B 2 := sec_other hl (by omega) hSl (by omega)
    have e0 := s0 (3 - 2) (by omega)
    generalize splice B (32 * (3 - 2)) S = B' at e0 e1 e2 ⊢
    have k1 : rdE B' = 0 := by unfold rdE; rw [e0, e1, e2, if_pos h1, if_pos h2, d1, Bool.true_or, if_pos rfl]
    have k2 : cpN B' = 1 := by
      unfold cpN pick2
      rw [e1, e2, h3, d1, d2]
      simp
    refine ⟨k1, ?_⟩
    unfold rdV
    rw [if_pos k1, k2, e0, e1, d2, d3, d4]
    rfl
/-- the place of a product -/
def atI (o i : Int) : List En → Int
  | [] => -1
  | e :: l => if e.o = o ∧ e.i = i then 0 else if atI o i l < 0 then -1 else atI o i l + 1
theorem atI_none {o i : Int} : ∀ {l : List En}, (∀ e ∈ l, ¬ (e.o = o ∧ e.i = i)) → atI o i l = -1
  | [], _ => rfl
  | e :: l, h => by
    unfold atI
    rw [if_neg (h e (by simp)), atI_none (l := l) (fun f hf => h f (by simp [hf])), if_pos (by omega)]
theorem atI_some {o i : Int} {e : En} : ∀ {l : List En} {j : Nat}, l[j]? = some e → (e.o = o ∧ e.i = i) → (∀ t f, t < j → l[t]? = some f → ¬ (f.o = o ∧ f.i = i)) → atI o i l = j
  | [], j, h, _, _ => by simp at h
  | f :: l, 0, h, he, _ => by
    simp only [List.getElem?_cons_zero, Option.some.injEq] at h
    subst h
    unfold atI
    rw [if_pos he]
    rfl
  | f :: l, j + 1, h, he, hn => by
    unfold atI
    rw [if_neg (hn 0 f (by omega) rfl), atI_some (l := l) (j := j) (by simpa using h) he (fun t g ht hg => hn (t + 1) g (by omega) (by simpa using hg)), if_neg (by omega)]
    omega
theorem atI_cases (o i : Int) (l : List En) : (atI o i l = -1 ∧ ∀ e ∈ l, ¬ (e.o = o ∧ e.i = i)) ∨ ∃ (j : Nat) (e : En), atI o i l = j ∧ l[j]? = some e ∧ (e.o = o ∧ e.i = i) ∧ ∀ t f, t < j → l[t]? = some f → ¬ (f.o = o ∧ f.i = i) := by
  induction l with
  | nil => exact Or.inl ⟨rfl, by simp⟩
  | cons e l ih =>
    by_cases he : e.o = o ∧ e.i = i
    · exact Or.inr ⟨0, e, by unfold atI; rw [if_pos he]; rfl, rfl, he, fun t f ht => by omega⟩
    · rcases ih with ⟨h1, h2⟩ | ⟨j, f, h1, h2, h3, h4⟩
      · left
        refine ⟨by unfold atI; rw [if_neg he, h1, if_pos (by omega)], ?_⟩
        intro f hf
        rcases List.mem_cons.1 hf with rfl | hf
        · exact he
        · exact h2 f hf
      · right
        refine ⟨j + 1, f, by unfold atI; rw [if_neg he, h1, if_neg (by omega)]; omega, by simpa using h2, h3, ?_⟩
        intro t g ht hg
        cases t with
        | zero => simp only [List.getElem?_cons_zero, Option.some.injEq] at hg; subst hg; exact he
        | succ t => exact h4 t g (by omega) (by simpa using hg)
/-- no entry has slot s -/
def freeB (l : List En) (s : Nat) : Bool := l.all fun e => decide (e.s ≠ (s : Int))
/-- the least free slot from s on, of those that are left -/
def freeFrom (l : List En) : Nat → Nat → Int
  | _, 0 => -1
  | s, k + 1 => if freeB l s then s else freeFrom l (s + 1) k
def freeI (l : List En) : Int := freeFrom l 0 6
theorem freeFrom_cases (l : List En) : ∀ k s, freeFrom l s k = -1 ∨ ∃ t : Nat, freeFrom l s k = t ∧ s ≤ t ∧ t < s + k ∧ freeB l t = true := by
  intro k
  induction k with
  | zero => intro s; exact Or.inl rfl
  | succ k ih =>
    intro s
    unfold freeFrom
    by_cases h : freeB l s = true
    · rw [if_pos h]; exact Or.inr ⟨s, rfl, by omega, by omega, h⟩
    · rw [if_neg h]
      rcases ih (s + 1) with h1 | ⟨t, h1, h2, h3, h4⟩
      · exact Or.inl h1
      · exact Or.inr ⟨t, h1, by omega, by omega, h4⟩
theorem freeI_cases (l : List En) : freeI l = -1 ∨ ∃ t : Nat, freeI l = t ∧ t < 6 ∧ ∀ e ∈ l, e.s ≠ (t : Int) := by
  rcases freeFrom_cases l 6 0 with h | ⟨t, h1, _, h3, h4⟩
  · exact Or.inl h
  · right
    refine ⟨t, h1, by omega, fun e he => ?_⟩
    unfold freeB at h4
    rw [List.all_eq_true] at h4
    simpa using h4 e he
end Go.Proofs.Ytjkpijinpfimiaa
