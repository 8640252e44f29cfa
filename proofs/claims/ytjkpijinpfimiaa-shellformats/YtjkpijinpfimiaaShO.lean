/-
  Plain mathematics of layer 7: what a Store and a Drop write, and what the card says behind them, wherever power fails.
-/
import Derived.Test.YtjkpijinpfimiaaShN
namespace Go.Proofs.Ytjkpijinpfimiaa
def En.at_ (e : En) (s : Int) : En := ⟨e.k, e.o, e.i, s⟩
/-- the entries behind a Store, behind a Drop -/
def stL (l : List En) (e : En) : List En := if atI e.o e.i l < 0 then l ++ [e.at_ (freeI l)] else l.set (atI e.o e.i l).toNat (e.at_ (freeI l))
def drL (l : List En) (o i : Int) : List En := l.eraseIdx (atI o i l).toNat
def stE (v : Vw) (e : En) (n : Nat) : Int := if e.valid then (if 64 < n then 11 else if atI e.o e.i v.es < 0 ∧ 5 ≤ v.es.length then 20 else if 65535 ≤ v.q then 29 else if freeI v.es < 0 then 21 else 0) else 2
def drE (v : Vw) (o i : Int) : Int := if atI o i v.es < 0 then 21 else if 65535 ≤ v.q then 29 else 0
/-- a write: which sector, what -/
abbrev Wr := Nat × List Nat
def dirR (v : Vw) (l : List En) : Wr := ((3 - v.p).toNat, sectorB (listB (v.q + 1).toNat l))
def stR (v : Vw) (e : En) (body : List Nat) : List Wr := [((3 + 2 * freeI v.es).toNat, (pad 64 body).take 32), ((4 + 2 * freeI v.es).toNat, (pad 64 body).drop 32), dirR v (stL v.es e)]
def drR (v : Vw) (o i : Int) : List Wr := [dirR v (drL v.es o i)]
def nextV (v : Vw) (l : List En) : Vw := ⟨v.c, v.u, v.q + 1, 3 - v.p, l⟩
/-- an image behind the first n writes -/
def doneI (B : List Nat) : List Wr → Nat → List Nat
  | _, 0 => B
  | [], _ + 1 => B
  | r :: rs, n + 1 => doneI (splice B (32 * r.1) r.2) rs n
structure Wr.fine (r : Wr) : Prop where
  lt : r.1 < 16
  len : r.2.length = 32
  small : ∀ x ∈ r.2, x < 256
theorem done_fine {B : List Nat} {rs : List Wr} (hl : B.length = 512) (hs : ∀ x ∈ B, x < 256) (hr : ∀ r ∈ rs, Wr.fine r) (n : Nat) : (doneI B rs n).length = 512 ∧ ∀ x ∈ doneI B rs n, x < 256 := by
  induction rs generalizing B n with
  | nil => cases n <;> exact ⟨hl, hs⟩
  | cons r rs ih =>
    cases n with
    | zero => exact ⟨hl, hs⟩
    | succ n =>
      have h := hr r (by simp)
      refine ih ?_ ?_ (fun q hq => hr q (by simp [hq])) n
      · rw [length_splice _ _ _ (by rw [h.len, hl]; have := h.lt; omega), hl]
      · exact splice_small hs h.small
theorem En.good_at {e : En} (h : e.valid) {t : Nat} (ht : t < 6) : (e.at_ (t : Int)).good := ⟨h, by show (0 : Int) ≤ t; omega, by show (t : Int) ≤ 5; omega⟩
theorem pair_get {l : List En} (h : l.Pairwise fun e f => ¬ clash e f) {a b : Nat} {e f : En} (ha : l[a]? = some e) (hb : l[b]? = some f) (hab : a ≠ b) : ¬ clash e f := by
  rw [List.pairwise_iff_getElem] at h
  obtain ⟨ha1, rfl⟩ := List.getElem?_eq_some_iff.1 ha
  obtain ⟨hb1, rfl⟩ := List.getElem?_eq_some_iff.1 hb
  rcases Nat.lt_or_ge a b with hlt | hge
  · exact h a b ha1 hb1 hlt
  · have := h b a hb1 ha1 (by omega)
    unfold clash at this ⊢
    rintro (h1 | ⟨h1, h2⟩)
    · exact this (Or.inl h1.symm)
    · exact this (Or.inr ⟨h1.symm, h2.symm⟩)
theorem stL_fine {l : List En} {e : En} (hS : Sound l) (hl : l.length ≤ 5) (hv : e.valid) (hf : ¬ (atI e.o e.i l < 0 ∧ 5 ≤ l.length)) (hfr : ¬ freeI l < 0) : Sound (stL l e) ∧ (stL l e).length ≤ 5 := by
  rcases freeI_cases l with h | ⟨t, h1, h2, h3⟩
  · omega
  unfold stL
  rw [h1]
  rcases atI_cases e.o e.i l with ⟨k1, k2⟩ | ⟨j, f, k1, k2, k3, k4⟩
  · rw [k1, if_pos (by omega)]
    rw [k1] at hf
    refine ⟨⟨?_, ?_⟩, by rw [List.length_append, List.length_singleton]; omega⟩
    · intro g hg
      rcases List.mem_append.1 hg with hg | hg
      · exact hS.1 g hg
      · rw [List.mem_singleton.1 hg]; exact En.good_at hv h2
    · rw [List.pairwise_append]
      refine ⟨hS.2, by simp, ?_⟩
      intro g hg f hf'
      rw [List.mem_singleton.1 hf']
      unfold clash En.at_
      rintro (h | ⟨h, h'⟩)
      · exact h3 g hg h.symm
      · exact k2 g hg ⟨h.symm, h'.symm⟩
  · rw [k1, if_neg (by omega), Int.toNat_natCast]
    refine ⟨⟨?_, ?_⟩, by rw [List.length_set]; exact hl⟩
    · intro g hg
      rcases List.mem_or_eq_of_mem_set hg with hg | hg
      · exact hS.1 g hg
      · rw [hg]; exact En.good_at hv h2
    · rw [List.pairwise_iff_getElem]
      intro a b ha hb hab
      rw [List.length_set] at ha hb
      have hget : ∀ x (hx : x < l.length), x ≠ j → ¬ clash (l[x]) (e.at_ t) ∧ ¬ clash (e.at_ t) (l[x]) := by
        intro x hx hxj
        have hm := h3 (l[x]) (List.getElem_mem hx)
        have hc := pair_get hS.2 (List.getElem?_eq_getElem hx) k2 hxj
        unfold clash En.at_ at *
        constructor
        · rintro (h | ⟨h, h'⟩)
          · exact hm h.symm
          · exact hc (Or.inr ⟨by rw [k3.1]; exact h, by rw [k3.2]; exact h'⟩)
        · rintro (h | ⟨h, h'⟩)
          · exact hm h
          · exact hc (Or.inr ⟨by rw [k3.1]; exact h.symm, by rw [k3.2]; exact h'.symm⟩)
      rw [List.getElem_set, List.getElem_set]
      by_cases haj : j = a
      · rw [if_pos haj, if_neg (by omega)]; exact (hget b hb (by omega)).2
      · rw [if_neg haj]
        by_cases hbj : j = b
        · rw [if_pos hbj]; exact (hget a ha (by omega)).1
        · rw [if_neg hbj]
          exact pair_get hS.2 (List.getElem?_eq_getElem ha) (List.getElem?_eq_getElem hb) (by omega)
theorem drL_fine {l : List En} {o i : Int} (hS : Sound l) (hl : l.length ≤ 5) : Sound (drL l o i) ∧ (drL l o i).length ≤ 5 := by
  unfold drL
  refine ⟨⟨fun e he => hS.1 e (List.mem_of_mem_eraseIdx he), hS.2.sublist (List.eraseIdx_sublist _ _)⟩, ?_⟩
  have := (List.eraseIdx_sublist l (atI o i l).toNat).length_le
  omega
theorem dirR_fine {v : Vw} {l : List En} (hv : v.fine) (hq : v.q < 65535) (hS : Sound l) (hl : l.length ≤ 5) : Wr.fine (dirR v l) := by
  have := hv.q1
  refine ⟨?_, sector_len _, sector_small _ (listB_small _ _ (by omega) hl hS.1)⟩
  rcases hv.p with h | h <;> simp [dirR, h]
theorem rdV_cp {B : List Nat} (h : rdE B = 0) : (rdV B).p = (cpN B : Nat) := by unfold rdV; rw [if_pos h]
/-- the directory is written: the new view -/
theorem rd_dir {B : List Nat} {l : List En} (hl : B.length = 512) (h : rdE B = 0) (hq : (rdV B).q < 65535) (hn : l.length ≤ 5) (hS : Sound l) :
    rdE (splice B (32 * (dirR (rdV B) l).1) (dirR (rdV B) l).2) = 0 ∧ rdV (splice B (32 * (dirR (rdV B) l).1) (dirR (rdV B) l).2) = nextV (rdV B) l := by
  have e : (dirR (rdV B) l).1 = 3 - cpN B := by
    unfold dirR
    rw [rdV_cp h]
    rcases cp_two B with hc | hc <;> rw [hc] <;> rfl
  rw [e]
  exact rd_next hl h hq hn hS
/-- a slot's sector is written: the view stays -/
theorem rd_slot {B x : List Nat} {t : Nat} (hl : B.length = 512) (ht : 3 ≤ t) (ht2 : t < 16) (hx : x.length = 32) : rdE (splice B (32 * t) x) = rdE B ∧ rdV (splice B (32 * t) x) = rdV B :=
  rd_same (sec_other hl ht2 hx (by omega)) (sec_other hl ht2 hx (by omega)) (sec_other hl ht2 hx (by omega))
def bodyI (B : List Nat) (s : Nat) : List Nat := sec B (3 + 2 * s) ++ sec B (4 + 2 * s)
theorem body_other {B x : List Nat} {t s : Nat} (hl : B.length = 512) (ht : t < 16) (hx : x.length = 32) (h1 : t ≠ 3 + 2 * s) (h2 : t ≠ 4 + 2 * s) : bodyI (splice B (32 * t) x) s = bodyI B s := by
  unfold bodyI
  rw [sec_other hl ht hx h1, sec_other hl ht hx h2]
theorem stE_zero {v : Vw} {e : En} {n : Nat} (h : stE v e n = 0) : e.valid ∧ n ≤ 64 ∧ ¬ (atI e.o e.i v.es < 0 ∧ 5 ≤ v.es.length) ∧ v.q < 65535 ∧ ¬ freeI v.es < 0 := by
  unfold stE at h
  by_cases h1 : e.valid
  · rw [if_pos h1] at h
    by_cases h2 : 64 < n
    · rw [if_pos h2] at h; cases h
    · rw [if_neg h2] at h
      by_cases h3 : atI e.o e.i v.es < 0 ∧ 5 ≤ v.es.length
      · rw [if_pos h3] at h; cases h
      · rw [if_neg h3] at h
        by_cases h4 : 65535 ≤ v.q
        · rw [if_pos h4] at h; cases h
        · rw [if_neg h4] at h
          by_cases h5 : freeI v.es < 0
          · rw [if_pos h5] at h; cases h
          · exact ⟨h1, by omega, h3, by omega, h5⟩
  · rw [if_neg h1] at h; cases h
theorem drE_zero {v : Vw} {o i : Int} (h : drE v o i = 0) : ¬ atI o i v.es < 0 ∧ v.q < 65535 := by
  unfold drE at h
  by_cases h1 : atI o i v.es < 0
  · rw [if_pos h1] at h; cases h
  · rw [if_neg h1] at h
    by_cases h2 : 65535 ≤ v.q
    · rw [if_pos h2] at h; cases h
    · exact ⟨h1, by omega⟩
theorem stR_fine {v : Vw} {e : En} {body : List Nat} (hv : v.fine) (h : stE v e body.length = 0) (hb : ∀ x ∈ body, x < 256) : ∀ r ∈ stR v e body, Wr.fine r := by
  obtain ⟨h1, h2, h3, h4, h5⟩ := stE_zero h
  obtain ⟨s1, s2⟩ := stL_fine hv.sound hv.len h1 h3 h5
  rcases freeI_cases v.es with k | ⟨t, k1, k2, k3⟩
  · omega
  intro r hr
  unfold stR at hr
  simp only [List.mem_cons, List.not_mem_nil, or_false] at hr
  have hp := pad_small 64 body hb
  rcases hr with rfl | rfl | rfl
  · exact ⟨by rw [k1]; simp only; omega, by simp [pad_len], fun x hx => hp x (List.mem_of_mem_take hx)⟩
  · exact ⟨by rw [k1]; simp only; omega, by simp [pad_len], fun x hx => hp x (List.mem_of_mem_drop hx)⟩
  · exact dirR_fine hv h4 s1 s2
/-- a Store whose power fails: the card says what it said -/
theorem st_torn {B : List Nat} {e : En} {body : List Nat} (hl : B.length = 512) (hr : rdE B = 0) (h : stE (rdV B) e body.length = 0) {n : Nat} (hn : n < 3) :
    rdE (doneI B (stR (rdV B) e body) n) = 0 ∧ rdV (doneI B (stR (rdV B) e body) n) = rdV B ∧ ∀ f ∈ (rdV B).es, bodyI (doneI B (stR (rdV B) e body) n) f.s.toNat = bodyI B f.s.toNat := by
  obtain ⟨h1, h2, h3, h4, h5⟩ := stE_zero h
  rcases freeI_cases (rdV B).es with k | ⟨t, k1, k2, k3⟩
  · omega
  have ea : (3 + 2 * (t : Int)).toNat = 3 + 2 * t := by omega
  have eb : (4 + 2 * (t : Int)).toNat = 4 + 2 * t := by omega
  have la : ((pad 64 body).take 32).length = 32 := by simp [pad_len]
  have lb : ((pad 64 body).drop 32).length = 32 := by simp [pad_len]
  have hf : rdE B = 0 → ∀ f ∈ (rdV B).es, f.s.toNat ≠ t := by
    intro _ f hf' he
    have := k3 f hf'
    by_cases h0 : 0 ≤ f.s
    · omega
    · have hs : f.good := by
        have h9 : (rdV B).es = ens (sec B (cpN B)) ((sec B (cpN B)).getD 2 0) := by unfold rdV; rw [if_pos hr]
        rw [h9] at hf'
        exact (dir_parts (rd_parts hr).2.2).2.1.1 f hf'
      exact h0 hs.2.1
  unfold stR
  rw [k1, ea, eb]
  rcases (show n = 0 ∨ n = 1 ∨ n = 2 by omega) with rfl | rfl | rfl
  · exact ⟨hr, rfl, fun _ _ => rfl⟩
  · obtain ⟨r1, r2⟩ := rd_slot (t := 3 + 2 * t) hl (by omega) (by omega) la
    simp only [doneI]
    refine ⟨r1.trans hr, r2, fun f hf' => ?_⟩
    have := hf hr f hf'
    exact body_other hl (by omega) la (by omega) (by omega)
  · obtain ⟨r1, r2⟩ := rd_slot (t := 3 + 2 * t) hl (by omega) (by omega) la
    have hl1 : (splice B (32 * (3 + 2 * t)) ((pad 64 body).take 32)).length = 512 := by rw [length_splice _ _ _ (by rw [la, hl]; omega), hl]
    obtain ⟨q1, q2⟩ := rd_slot (t := 4 + 2 * t) hl1 (by omega) (by omega) lb
    simp only [doneI]
    refine ⟨(q1.trans r1).trans hr, q2.trans r2, fun f hf' => ?_⟩
    have := hf hr f hf'
    rw [body_other hl1 (by omega) lb (by omega) (by omega)]
    exact body_other hl (by omega) la (by omega) (by omega)
/-- a Store that is done: the new view, the new body, the others' bodies -/
theorem st_done {B : List Nat} {e : En} {body : List Nat} (hl : B.length = 512) (hB : ∀ x ∈ B, x < 256) (hr : rdE B = 0) (h : stE (rdV B) e body.length = 0) :
    rdE (doneI B (stR (rdV B) e body) 3) = 0 ∧ rdV (doneI B (stR (rdV B) e body) 3) = nextV (rdV B) (stL (rdV B).es e) ∧ bodyI (doneI B (stR (rdV B) e body) 3) (freeI (rdV B).es).toNat = pad 64 body ∧
      ∀ f ∈ (rdV B).es, bodyI (doneI B (stR (rdV B) e body) 3) f.s.toNat = bodyI B f.s.toNat := by
  obtain ⟨h1, h2, h3, h4, h5⟩ := stE_zero h
  have hv := rd_fine hB hr
  obtain ⟨s1, s2⟩ := stL_fine hv.sound hv.len h1 h3 h5
  obtain ⟨t1, t2, t3⟩ := st_torn hl hr h (n := 2) (by omega)
  rcases freeI_cases (rdV B).es with k | ⟨t, k1, k2, k3⟩
  · omega
  have ea : (3 + 2 * (t : Int)).toNat = 3 + 2 * t := by omega
  have eb : (4 + 2 * (t : Int)).toNat = 4 + 2 * t := by omega
  have la : ((pad 64 body).take 32).length = 32 := by simp [pad_len]
  have lb : ((pad 64 body).drop 32).length = 32 := by simp [pad_len]
  have hl1 : (splice B (32 * (3 + 2 * t)) ((pad 64 body).take 32)).length = 512 := by rw [length_splice _ _ _ (by rw [la, hl]; omega), hl]
  have hl2 : (splice (splice B (32 * (3 + 2 * t)) ((pad 64 body).take 32)) (32 * (4 + 2 * t)) ((pad 64 body).drop 32)).length = 512 := by rw [length_splice _ _ _ (by rw [lb, hl1]; omega), hl1]
  have e2 : doneI B (stR (rdV B) e body) 2 = splice (splice B (32 * (3 + 2 * t)) ((pad 64 body).take 32)) (32 * (4 + 2 * t)) ((pad 64 body).drop 32) := by
    unfold stR; rw [k1, ea, eb]; rfl
  have e3 : doneI B (stR (rdV B) e body) 3 = splice (doneI B (stR (rdV B) e body) 2) (32 * (dirR (rdV B) (stL (rdV B).es e)).1) (dirR (rdV B) (stL (rdV B).es e)).2 := rfl
  have hb2 : bodyI (doneI B (stR (rdV B) e body) 2) t = pad 64 body := by
    rw [e2]
    unfold bodyI
    rw [sec_other hl1 (by omega) lb (by omega), sec_same hl (by omega) la, sec_same hl1 (by omega) lb, List.take_append_drop]
  rw [← e2] at hl2
  generalize doneI B (stR (rdV B) e body) 2 = B2 at *
  rw [e3, k1, Int.toNat_natCast]
  have hd : Wr.fine (dirR (rdV B) (stL (rdV B).es e)) := dirR_fine hv h4 s1 s2
  have hd1 : (dirR (rdV B) (stL (rdV B).es e)).1 ≤ 2 := by
    unfold dirR
    rcases hv.p with hp | hp <;> rw [hp] <;> simp
  have hn := rd_dir (B := B2) (l := stL (rdV B).es e) hl2 t1 (by rw [t2]; exact h4) s2 s1
  rw [t2] at hn
  refine ⟨hn.1, hn.2, ?_, fun f hf => ?_⟩
  · rw [body_other hl2 hd.lt hd.len (by omega) (by omega)]; exact hb2
  · rw [body_other hl2 hd.lt hd.len (by omega) (by omega)]; exact t3 f hf
/-- a Drop that is done -/
theorem dr_done {B : List Nat} {o i : Int} (hl : B.length = 512) (hB : ∀ x ∈ B, x < 256) (hr : rdE B = 0) (h : drE (rdV B) o i = 0) :
    rdE (doneI B (drR (rdV B) o i) 1) = 0 ∧ rdV (doneI B (drR (rdV B) o i) 1) = nextV (rdV B) (drL (rdV B).es o i) ∧ ∀ s, bodyI (doneI B (drR (rdV B) o i) 1) s = bodyI B s := by
  obtain ⟨h1, h2⟩ := drE_zero h
  have hv := rd_fine hB hr
  obtain ⟨s1, s2⟩ := drL_fine (o := o) (i := i) hv.sound hv.len
  have hd : Wr.fine (dirR (rdV B) (drL (rdV B).es o i)) := dirR_fine hv h2 s1 s2
  have hd1 : (dirR (rdV B) (drL (rdV B).es o i)).1 ≤ 2 := by
    unfold dirR
    rcases hv.p with hp | hp <;> rw [hp] <;> simp
  have hn := rd_dir (l := drL (rdV B).es o i) hl hr h2 s2 s1
  refine ⟨hn.1, hn.2, fun s => ?_⟩
  show bodyI (splice B (32 * (dirR (rdV B) (drL (rdV B).es o i)).1) (dirR (rdV B) (drL (rdV B).es o i)).2) s = _
  exact body_other hl hd.lt hd.len (by omega) (by omega)
theorem drR_fine {v : Vw} {o i : Int} (hv : v.fine) (h : drE v o i = 0) : ∀ r ∈ drR v o i, Wr.fine r := by
  obtain ⟨h1, h2⟩ := drE_zero h
  obtain ⟨s1, s2⟩ := drL_fine (o := o) (i := i) hv.sound hv.len
  intro r hr
  unfold drR at hr
  rw [List.mem_singleton.1 hr]
  exact dirR_fine hv h2 s1 s2
end Go.Proofs.Ytjkpijinpfimiaa
