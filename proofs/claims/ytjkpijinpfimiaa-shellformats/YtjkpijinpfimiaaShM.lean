/-
  Plain mathematics of layer 7: a directory's entries, its sector, what an image of 512 bytes says, and what a Store and a Drop write.
-/
import Derived.Test.YtjkpijinpfimiaaCardC
import Derived.Test.YtjkpijinpfimiaaCrcC
namespace Go.Proofs.Ytjkpijinpfimiaa
/-- an entry: kind, owner, id, slot -/
structure En where
  k : Int
  o : Int
  i : Int
  s : Int
  deriving DecidableEq
abbrev En.valid (e : En) : Prop := 1 ≤ e.k ∧ e.k ≤ 4 ∧ 1 ≤ e.o ∧ e.o ≤ 4 ∧ 1 ≤ e.i ∧ e.i ≤ 65535
abbrev En.good (e : En) : Prop := e.valid ∧ 0 ≤ e.s ∧ e.s ≤ 5
abbrev clash (e f : En) : Prop := f.s = e.s ∨ (f.o = e.o ∧ f.i = e.i)
abbrev Sound (l : List En) : Prop := (∀ e ∈ l, e.good) ∧ l.Pairwise (fun e f => ¬ clash e f)
/-- the j-th entry of a sector's bytes -/
def enAt (b : List Nat) (j : Nat) : En := ⟨(b.getD (3 + 5 * j) 0 : Nat), (b.getD (4 + 5 * j) 0 : Nat), (b.getD (5 + 5 * j) 0 * 256 + b.getD (6 + 5 * j) 0 : Nat), (b.getD (7 + 5 * j) 0 : Nat)⟩
def ens (b : List Nat) (n : Nat) : List En := (List.range n).map (enAt b)
def seqN (b : List Nat) : Nat := b.getD 0 0 * 256 + b.getD 1 0
def sumOk (b : List Nat) : Bool := decide (crc 65535 (b.take 30) = b.getD 30 0 * 256 + b.getD 31 0)
def nil0 (b : List Nat) (a : Nat) : Bool := ((b.take 30).drop a).all (· == 0)
/-- is a sector a directory's valid copy? -/
def dirB (b : List Nat) : Bool := sumOk b && decide (b.getD 2 0 ≤ 5) && decide (Sound (ens b (b.getD 2 0))) && decide (0 < seqN b) && nil0 b (3 + 5 * b.getD 2 0)
/-- an entry's bytes -/
def enc (e : En) : List Nat := [e.k.toNat, e.o.toNat, e.i.toNat / 256, e.i.toNat % 256, e.s.toNat]
def listB (q : Nat) (l : List En) : List Nat := [q / 256, q % 256, l.length] ++ l.flatMap enc
def sectorB (body : List Nat) : List Nat := sealed (pad 30 body)
theorem enc_len (e : En) : (enc e).length = 5 := rfl
theorem flat_len (l : List En) : (l.flatMap enc).length = 5 * l.length := by
  induction l with
  | nil => rfl
  | cons e l ih => rw [List.flatMap_cons, List.length_append, ih, enc_len, List.length_cons]; omega
theorem listB_len (q : Nat) (l : List En) : (listB q l).length = 3 + 5 * l.length := by rw [listB, List.length_append, flat_len]; rfl
theorem flat_get (l : List En) (j t : Nat) (e : En) (hj : l[j]? = some e) (ht : t < 5) : (l.flatMap enc)[5 * j + t]? = (enc e)[t]? := by
  induction l generalizing j with
  | nil => simp at hj
  | cons f l ih =>
    rw [List.flatMap_cons]
    cases j with
    | zero =>
      simp only [List.getElem?_cons_zero, Option.some.injEq] at hj
      subst hj
      rw [List.getElem?_append_left (by rw [enc_len]; omega)]
      congr 1
      omega
    | succ j =>
      simp only [List.getElem?_cons_succ] at hj
      rw [List.getElem?_append_right (by rw [enc_len]; omega), enc_len, ← ih j hj]
      congr 1
      omega
theorem enc_small (e : En) (h : e.good) : ∀ x ∈ enc e, x < 256 := by
  obtain ⟨⟨h1, h2, h3, h4, h5, h6⟩, h7, h8⟩ := h
  intro x hx
  simp only [enc, List.mem_cons, List.not_mem_nil, or_false] at hx
  rcases hx with rfl | rfl | rfl | rfl | rfl <;> omega
theorem listB_small (q : Nat) (l : List En) (hq : q ≤ 65535) (hl : l.length ≤ 5) (h : ∀ e ∈ l, e.good) : ∀ x ∈ listB q l, x < 256 := by
  intro x hx
  simp only [listB, List.mem_append, List.mem_cons, List.not_mem_nil, or_false, List.mem_flatMap] at hx
  rcases hx with (rfl | rfl | rfl) | ⟨e, he, hx⟩
  · omega
  · omega
  · omega
  · exact enc_small e (h e he) x hx
theorem pad_get (n : Nat) (xs : List Nat) (hx : xs.length ≤ n) (i : Nat) : (pad n xs).getD i 0 = xs.getD i 0 := by
  unfold pad splice
  rw [List.take_zero, List.nil_append, List.take_of_length_le hx, Nat.zero_add]
  simp only [List.getD_eq_getElem?_getD]
  by_cases h : i < xs.length
  · rw [List.getElem?_append_left h]
  · rw [List.getElem?_append_right (by omega), List.getElem?_eq_none (l := xs) (by omega), List.getElem?_drop]
    unfold zs
    rw [List.getElem?_replicate]
    split <;> rfl
theorem sector_take (body : List Nat) : (sectorB body).take 30 = pad 30 body := by
  unfold sectorB sealed
  rw [List.take_append_of_le_length (by rw [pad_len]; omega), List.take_of_length_le (by rw [pad_len]; omega)]
theorem sector_get (body : List Nat) (hb : body.length ≤ 30) (i : Nat) (hi : i < 30) : (sectorB body).getD i 0 = body.getD i 0 := by
  rw [← pad_get 30 body hb i]
  unfold sectorB sealed
  rw [getD_left _ _ _ (by rw [pad_len]; exact hi)]
theorem sector_len (body : List Nat) : (sectorB body).length = 32 := by rw [sectorB, sealed_length, pad_len]
theorem sector_small (body : List Nat) (h : ∀ x ∈ body, x < 256) : ∀ x ∈ sectorB body, x < 256 := sealed_lt _ (pad_small 30 body h)
theorem sector_sum (body : List Nat) : sumOk (sectorB body) = true := by
  unfold sumOk
  rw [decide_eq_true_eq, sector_take]
  have h30 : (sectorB body).getD 30 0 = crc 65535 (pad 30 body) / 256 := by
    unfold sectorB sealed
    rw [List.getD_eq_getElem?_getD, List.getElem?_append_right (by rw [pad_len]; omega), pad_len]; rfl
  have h31 : (sectorB body).getD 31 0 = crc 65535 (pad 30 body) % 256 := by
    unfold sectorB sealed
    rw [List.getD_eq_getElem?_getD, List.getElem?_append_right (by rw [pad_len]; omega), pad_len]; rfl
  rw [h30, h31]
  omega
theorem listB_head (q : Nat) (l : List En) : (listB q l).getD 0 0 = q / 256 ∧ (listB q l).getD 1 0 = q % 256 ∧ (listB q l).getD 2 0 = l.length := ⟨rfl, rfl, rfl⟩
theorem listB_at (q : Nat) (l : List En) (j t : Nat) (e : En) (hj : l[j]? = some e) (ht : t < 5) : (listB q l).getD (3 + 5 * j + t) 0 = (enc e).getD t 0 := by
  unfold listB
  rw [List.getD_eq_getElem?_getD, List.getElem?_append_right (by simp; omega)]
  rw [show 3 + 5 * j + t - [q / 256, q % 256, l.length].length = 5 * j + t by simp; omega, flat_get l j t e hj ht, List.getD_eq_getElem?_getD]
/-- a directory that is written is read back -/
theorem sector_back (q : Nat) (l : List En) (hq1 : 1 ≤ q) (hq2 : q ≤ 65535) (hl : l.length ≤ 5) (hS : Sound l) :
    dirB (sectorB (listB q l)) = true ∧ seqN (sectorB (listB q l)) = q ∧ (sectorB (listB q l)).getD 2 0 = l.length ∧ ens (sectorB (listB q l)) l.length = l := by
  have hbl : (listB q l).length ≤ 30 := by rw [listB_len]; omega
  have g := fun i hi => sector_get (listB q l) hbl i hi
  obtain ⟨g0, g1, g2⟩ := listB_head q l
  have e2 : (sectorB (listB q l)).getD 2 0 = l.length := by rw [g 2 (by omega), g2]
  have eq : seqN (sectorB (listB q l)) = q := by unfold seqN; rw [g 0 (by omega), g 1 (by omega), g0, g1]; omega
  have he : ens (sectorB (listB q l)) l.length = l := by
    apply List.ext_getElem?
    intro j
    unfold ens
    rw [List.getElem?_map]
    by_cases hj : j < l.length
    · rw [List.getElem?_range hj, Option.map_some, List.getElem?_eq_getElem hj]
      congr 1
      have hje := List.getElem?_eq_getElem hj
      have hg : (l[j]).good := hS.1 _ (List.getElem_mem hj)
      generalize l[j] = e at hje hg ⊢
      obtain ⟨⟨h1, h2, h3, h4, h5, h6⟩, h7, h8⟩ := hg
      have a := fun t ht => listB_at q l j t e hje ht
      have a0 := a 0 (by omega)
      have a1 := a 1 (by omega)
      have a2 := a 2 (by omega)
      have a3 := a 3 (by omega)
      have a4 := a 4 (by omega)
      unfold enAt
      rw [g (3 + 5 * j) (by omega), g (4 + 5 * j) (by omega), g (5 + 5 * j) (by omega), g (6 + 5 * j) (by omega), g (7 + 5 * j) (by omega)]
      rw [show 4 + 5 * j = 3 + 5 * j + 1 by omega, show 5 + 5 * j = 3 + 5 * j + 2 by omega, show 6 + 5 * j = 3 + 5 * j + 3 by omega, show 7 + 5 * j = 3 + 5 * j + 4 by omega, a1, a2, a3, a4]
      rw [show 3 + 5 * j = 3 + 5 * j + 0 from rfl, a0]
      show En.mk (e.k.toNat : Nat) (e.o.toNat : Nat) (e.i.toNat / 256 * 256 + e.i.toNat % 256 : Nat) (e.s.toNat : Nat) = e
      cases e
      simp only [En.mk.injEq]
      simp only at h1 h2 h3 h4 h5 h6 h7 h8
      omega
    · rw [List.getElem?_eq_none (by simpa using hj), List.getElem?_eq_none (by omega)]; rfl
  refine ⟨?_, eq, e2, he⟩
  unfold dirB
  rw [e2, he, eq, sector_sum, decide_eq_true hl, decide_eq_true hS, decide_eq_true (show 0 < q by omega)]
  simp only [Bool.true_and]
  unfold nil0
  rw [sector_take, List.all_eq_true]
  intro x hx
  obtain ⟨t, ht⟩ := List.mem_iff_getElem?.1 hx
  rw [List.getElem?_drop] at ht
  have h1 := pad_get 30 (listB q l) hbl (3 + 5 * l.length + t)
  rw [List.getD_eq_getElem?_getD, ht, Option.getD_some, List.getD_eq_getElem?_getD, List.getElem?_eq_none (by rw [listB_len]; omega)] at h1
  simpa using h1
end Go.Proofs.Ytjkpijinpfimiaa
