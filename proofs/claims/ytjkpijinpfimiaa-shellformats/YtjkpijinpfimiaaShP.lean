/-
  Plain mathematics of layer 7: fields as bytes, numbers read out of bytes, and that the program's own test of a sector is the document's.
-/
import Derived.Test.YtjkpijinpfimiaaShO
import Derived.Test.YtjkpijinpfimiaaBWd
namespace Go.Proofs.Ytjkpijinpfimiaa
theorem bitsOf_split (a b v : Nat) : bitsOf (a + b) v = bitsOf a (v / 2 ^ b) ++ bitsOf b v := by
  induction a with
  | zero => simp [bitsOf]
  | succ a ih =>
    rw [show a + 1 + b = a + b + 1 by omega]
    simp only [bitsOf, List.cons_append]
    rw [ih, Nat.div_div_eq_div_mul, ← Nat.pow_add, Nat.add_comm b a]
theorem bits8_mod (v : Nat) : bitsOf 8 (v % 256) = bitsOf 8 v := by
  simp only [bitsOf]
  rw [show v % 256 / 2 ^ 7 % 2 = v / 2 ^ 7 % 2 by omega, show v % 256 / 2 ^ 6 % 2 = v / 2 ^ 6 % 2 by omega, show v % 256 / 2 ^ 5 % 2 = v / 2 ^ 5 % 2 by omega, show v % 256 / 2 ^ 4 % 2 = v / 2 ^ 4 % 2 by omega, show v % 256 / 2 ^ 3 % 2 = v / 2 ^ 3 % 2 by omega, show v % 256 / 2 ^ 2 % 2 = v / 2 ^ 2 % 2 by omega, show v % 256 / 2 ^ 1 % 2 = v / 2 ^ 1 % 2 by omega, show v % 256 / 2 ^ 0 % 2 = v / 2 ^ 0 % 2 by omega]
theorem bits16 (v : Nat) : bitsOf 16 v = unpack [v / 256, v % 256] := by
  rw [show (16 : Nat) = 8 + 8 from rfl, bitsOf_split]
  simp [unpack, bits8_mod]
theorem bits8 (v : Nat) : bitsOf 8 v = unpack [v] := by simp [unpack]
theorem unpack_append (a b : List Nat) : unpack (a ++ b) = unpack a ++ unpack b := by simp [unpack]
theorem numOf_append (a b : List Bool) : numOf (a ++ b) = numOf a * 2 ^ b.length + numOf b := by
  rw [numOf, List.foldl_append, numOf_from]; rfl
theorem unpack_drop (bs : List Nat) (j : Nat) : (unpack bs).drop (8 * j) = unpack (bs.drop j) := by
  induction j generalizing bs with
  | zero => simp
  | succ j ih =>
    cases bs with
    | nil => simp [unpack]
    | cons x bs =>
      rw [List.drop_succ_cons, ← ih bs, show unpack (x :: bs) = bitsOf 8 x ++ unpack bs from rfl, show 8 * (j + 1) = (bitsOf 8 x).length + 8 * j by rw [bitsOf_length]; omega, List.drop_append]
      simp
theorem numAt8 (bs : List Nat) (j : Nat) (hj : j < bs.length) (hb : ∀ x ∈ bs, x < 256) : numAt bs (8 * j) 8 = bs.getD j 0 := by
  unfold numAt
  rw [unpack_drop, List.drop_eq_getElem_cons hj, show unpack (bs[j] :: bs.drop (j + 1)) = bitsOf 8 bs[j] ++ unpack (bs.drop (j + 1)) from rfl, List.take_append_of_le_length (by rw [bitsOf_length]; omega), List.take_of_length_le (by rw [bitsOf_length]; omega), numOf_bitsOf]
  rw [List.getD_eq_getElem?_getD, List.getElem?_eq_getElem hj, Option.getD_some]
  exact Nat.mod_eq_of_lt (hb _ (List.getElem_mem hj))
theorem unpack_two (x y : Nat) (l : List Nat) : unpack (x :: y :: l) = (bitsOf 8 x ++ bitsOf 8 y) ++ unpack l := by simp [unpack]
theorem numAt16 (bs : List Nat) (j : Nat) (hj : j + 1 < bs.length) (hb : ∀ x ∈ bs, x < 256) : numAt bs (8 * j) 16 = bs.getD j 0 * 256 + bs.getD (j + 1) 0 := by
  unfold numAt
  have h1 : bs.drop j = bs[j] :: bs[j + 1] :: bs.drop (j + 1 + 1) := by rw [List.drop_eq_getElem_cons (show j < bs.length by omega), List.drop_eq_getElem_cons (show j + 1 < bs.length from hj)]
  rw [unpack_drop, h1, unpack_two, List.take_append_of_le_length (by simp), List.take_of_length_le (by simp), numOf_append, bitsOf_length, numOf_bitsOf, numOf_bitsOf]
  rw [List.getD_eq_getElem?_getD, List.getElem?_eq_getElem (show j < bs.length by omega), List.getD_eq_getElem?_getD, List.getElem?_eq_getElem hj, Option.getD_some, Option.getD_some]
  rw [Nat.mod_eq_of_lt (hb _ (List.getElem_mem hj)), Nat.mod_eq_of_lt (hb _ (List.getElem_mem (show j < bs.length by omega)))]
theorem pack_unpack (bs : List Nat) (hb : ∀ x ∈ bs, x < 256) : pack (unpack bs) = bs := by
  apply List.ext_getElem?
  intro i
  by_cases hi : i < bs.length
  · rw [pack_get _ _ (by rw [unpack_length]; omega), List.getElem?_eq_getElem hi]
    congr 1
    have h := numAt8 bs i hi hb
    rw [List.getD_eq_getElem?_getD, List.getElem?_eq_getElem hi, Option.getD_some] at h
    rw [← h]
    unfold byteAt numAt
    congr 1
    apply List.ext_getElem?
    intro k
    rw [List.getElem?_map, List.getElem?_take, List.getElem?_drop]
    by_cases hk : k < 8
    · rw [List.getElem?_range hk, if_pos hk, Option.map_some, List.getD_eq_getElem?_getD, List.getElem?_eq_getElem (by rw [unpack_length]; omega)]
      rfl
    · rw [if_neg hk, List.getElem?_eq_none (by simpa using hk)]; rfl
  · rw [List.getElem?_eq_none (by rw [pack_length, unpack_length]; omega), List.getElem?_eq_none (by omega)]
/-- fields as a list of pairs -/
abbrev Fl := List (Int × Int)
def fldW (l : Fl) (i : Nat) : Int := (l.getD i (8, 0)).1
def fldV (l : Fl) (i : Nat) : Int := (l.getD i (8, 0)).2
def flCells (l : Fl) : List Value := l.flatMap fun p => [.int .i64 p.1, .int .i64 p.2]
def flBits (l : Fl) : List Bool := l.flatMap fun p => bitsOf p.1.toNat p.2.toNat
theorem fl_take (l : Fl) : ∀ k, k ≤ l.length → fcells (fldW l) (fldV l) k = flCells (l.take k) ∧ fbits (fldW l) (fldV l) k = flBits (l.take k) := by
  intro k
  induction k with
  | zero => intro _; exact ⟨by simp [fcells, flCells], by simp [fbits, flBits]⟩
  | succ k ih =>
    intro hk
    obtain ⟨h1, h2⟩ := ih (by omega)
    have hg : l[k]? = some (l[k]'(by omega)) := List.getElem?_eq_getElem (by omega)
    have hw : fldW l k = (l[k]'(by omega)).1 := by simp [fldW, hg]
    have hv : fldV l k = (l[k]'(by omega)).2 := by simp [fldV, hg]
    constructor
    · rw [fcells, h1, hw, hv, List.take_add_one, hg]; unfold flCells; rw [List.flatMap_append]; rfl
    · rw [fbits, h2, hw, hv, List.take_add_one, hg]; unfold flBits; rw [List.flatMap_append, Option.toList_some, List.flatMap_cons, List.flatMap_nil, List.append_nil]
theorem fl_cells (l : Fl) : fcells (fldW l) (fldV l) l.length = flCells l := by
  have := (fl_take l l.length (Nat.le_refl _)).1; rwa [List.take_length] at this
theorem fl_bits (l : Fl) : fbits (fldW l) (fldV l) l.length = flBits l := by
  have := (fl_take l l.length (Nat.le_refl _)).2; rwa [List.take_length] at this
def flOk (l : Fl) : Prop := ∀ p ∈ l, okF p.1 p.2 = true
theorem fl_ok {l : Fl} (h : flOk l) : ∀ j, j < l.length → okF (fldW l j) (fldV l j) = true := by
  intro j hj
  have hg : l[j]? = some l[j] := List.getElem?_eq_getElem hj
  simp only [fldW, fldV, List.getD_eq_getElem?_getD, hg, Option.getD_some]
  exact h _ (List.getElem_mem hj)
/-- a directory's fields, a shell's -/
def enF (e : En) : Fl := [(8, e.k), (8, e.o), (16, e.i), (8, e.s)]
def dirF (q : Int) (l : List En) : Fl := [(16, q), (8, (l.length : Int))] ++ l.flatMap enF
def shF (id u : Int) : Fl := [(16, 17986), (16, id), (8, u)]
def shellB (id u : Nat) : List Nat := [70, 66, id / 256, id % 256, u]
theorem okF8 {v : Int} (h0 : 0 ≤ v) (h1 : v ≤ 255) : okF 8 v = true := by unfold okF; rw [decide_eq_true_eq]; exact ⟨by omega, by omega, h0, by show v < 256; omega⟩
theorem okF16 {v : Int} (h0 : 0 ≤ v) (h1 : v ≤ 65535) : okF 16 v = true := by unfold okF; rw [decide_eq_true_eq]; exact ⟨by omega, by omega, h0, by show v < 65536; omega⟩
theorem dirF_ok {q : Int} {l : List En} (hq0 : 0 ≤ q) (hq : q ≤ 65535) (hl : l.length ≤ 5) (h : ∀ e ∈ l, e.good) : flOk (dirF q l) := by
  intro p hp
  simp only [dirF, List.mem_append, List.mem_cons, List.not_mem_nil, or_false, List.mem_flatMap] at hp
  rcases hp with (rfl | rfl) | ⟨e, he, hp⟩
  · exact okF16 hq0 hq
  · exact okF8 (by simp only; omega) (by simp only; omega)
  · obtain ⟨⟨h1, h2, h3, h4, h5, h6⟩, h7, h8⟩ := h e he
    simp only [enF, List.mem_cons, List.not_mem_nil, or_false] at hp
    rcases hp with rfl | rfl | rfl | rfl
    · exact okF8 (by simp only; omega) (by simp only; omega)
    · exact okF8 (by simp only; omega) (by simp only; omega)
    · exact okF16 (by simp only; omega) (by simp only; omega)
    · exact okF8 (by simp only; omega) (by simp only; omega)
theorem shF_ok {id u : Int} (h0 : 0 ≤ id) (h1 : id ≤ 65535) (h2 : 0 ≤ u) (h3 : u ≤ 255) : flOk (shF id u) := by
  intro p hp
  simp only [shF, List.mem_cons, List.not_mem_nil, or_false] at hp
  rcases hp with rfl | rfl | rfl
  · exact okF16 (by decide) (by decide)
  · exact okF16 h0 h1
  · exact okF8 h2 h3
theorem enF_bits (e : En) : flBits (enF e) = unpack (enc e) := by
  show bitsOf 8 e.k.toNat ++ (bitsOf 8 e.o.toNat ++ (bitsOf 16 e.i.toNat ++ (bitsOf 8 e.s.toNat ++ []))) = _
  rw [bits16]
  simp [unpack, enc]
theorem flBits_append (a b : Fl) : flBits (a ++ b) = flBits a ++ flBits b := by simp [flBits]
theorem flBits_en (l : List En) : flBits (l.flatMap enF) = unpack (l.flatMap enc) := by
  induction l with
  | nil => rfl
  | cons e l ih => rw [List.flatMap_cons, List.flatMap_cons, flBits_append, unpack_append, ih, enF_bits]
theorem dirF_bits (q : Nat) (l : List En) : flBits (dirF (q : Int) l) = unpack (listB q l) := by
  unfold dirF listB
  rw [flBits_append, unpack_append, flBits_en]
  congr 1
  show bitsOf 16 (q : Int).toNat ++ (bitsOf 8 ((l.length : Nat) : Int).toNat ++ []) = _
  rw [bits16, Int.toNat_natCast, Int.toNat_natCast]
  simp [unpack]
theorem dirF_pack (q : Nat) (l : List En) (hq : q ≤ 65535) (hl : l.length ≤ 5) (h : ∀ e ∈ l, e.good) : pack (flBits (dirF (q : Int) l)) = listB q l := by
  rw [dirF_bits, pack_unpack _ (listB_small q l hq hl h)]
theorem shF_pack (id u : Nat) (h1 : id ≤ 65535) (h3 : u ≤ 255) : pack (flBits (shF (id : Int) (u : Int))) = shellB id u := by
  have : flBits (shF (id : Int) (u : Int)) = unpack (shellB id u) := by
    show bitsOf 16 17986 ++ (bitsOf 16 (id : Int).toNat ++ (bitsOf 8 (u : Int).toNat ++ [])) = _
    rw [bits16, bits16, Int.toNat_natCast, Int.toNat_natCast]
    simp [unpack, shellB]
  rw [this, pack_unpack]
  intro x hx
  simp only [shellB, List.mem_cons, List.not_mem_nil, or_false] at hx
  rcases hx with rfl | rfl | rfl | rfl | rfl <;> omega
/-- what Open tells of a sector -/
theorem open_sum {b : List Nat} (hl : b.length = 32) (hb : ∀ x ∈ b, x < 256) : openE b = (if sumOk b then 0 else 13) ∧ openB b = (if sumOk b then b.take 30 else []) := by
  have h := last_two b 30 hl
  have hc := crc_sealed (s := 65535) (b.take 30) (by omega) (getD_lt b hb 30) (getD_lt b hb 31)
  rw [← h] at hc
  have hs : sumOk b = true ↔ crc 65535 (b.take 30) = 256 * b.getD 30 0 + b.getD 31 0 := by unfold sumOk; rw [decide_eq_true_eq, Nat.mul_comm 256]
  have hE : openE b = (if sumOk b then 0 else 13) := by
    unfold openE
    rw [if_neg (by omega)]
    by_cases hh : sumOk b = true
    · rw [if_pos hh, if_pos (hc.2 (hs.1 hh))]
    · rw [if_neg hh, if_neg (fun k => hh (hs.2 (hc.1 k)))]
  refine ⟨hE, ?_⟩
  unfold openB
  rw [hE, hl]
  by_cases hh : sumOk b = true
  · rw [if_pos hh, if_pos rfl, if_pos hh]
  · rw [if_neg hh, if_neg (by decide), if_neg hh]
theorem eq_sector {b body : List Nat} (hl : b.length = 32) (hb : ∀ x ∈ b, x < 256) (hs : sumOk b = true) : b = sectorB body ↔ b.take 30 = pad 30 body := by
  constructor
  · intro h; rw [h, sector_take]
  · intro h
    have h2 := last_two b 30 hl
    unfold sumOk at hs
    rw [decide_eq_true_eq, h] at hs
    unfold sectorB sealed
    rw [hs]
    have h30 := getD_lt b hb 30
    have h31 := getD_lt b hb 31
    rw [show (b.getD 30 0 * 256 + b.getD 31 0) / 256 = b.getD 30 0 by omega, show (b.getD 30 0 * 256 + b.getD 31 0) % 256 = b.getD 31 0 by omega, ← h]
    exact h2
theorem take_pad {b body : List Nat} (hl : b.length = 32) (hbo : body.length ≤ 30) : b.take 30 = pad 30 body ↔ (∀ i, i < body.length → b.getD i 0 = body.getD i 0) ∧ nil0 b body.length = true := by
  constructor
  · intro h
    have hg : ∀ i, i < 30 → b.getD i 0 = body.getD i 0 := by
      intro i hi
      rw [← pad_get 30 body hbo i, ← h, List.getD_eq_getElem?_getD, List.getD_eq_getElem?_getD, List.getElem?_take, if_pos hi]
    refine ⟨fun i hi => hg i (by omega), ?_⟩
    unfold nil0
    rw [List.all_eq_true]
    intro x hx
    obtain ⟨t, ht⟩ := List.mem_iff_getElem?.1 hx
    rw [h, List.getElem?_drop] at ht
    have h1 := pad_get 30 body hbo (body.length + t)
    rw [List.getD_eq_getElem?_getD, ht, Option.getD_some, List.getD_eq_getElem?_getD, List.getElem?_eq_none (by omega)] at h1
    simpa using h1
  · rintro ⟨h1, h2⟩
    apply List.ext_getElem?
    intro i
    by_cases hi : i < 30
    · have hp := pad_get 30 body hbo i
      have hlt : i < (pad 30 body).length := by rw [pad_len]; exact hi
      rw [List.getElem?_take, if_pos hi, List.getElem?_eq_getElem (show i < b.length by omega), List.getElem?_eq_getElem hlt]
      rw [List.getD_eq_getElem?_getD, List.getElem?_eq_getElem hlt, Option.getD_some] at hp
      rw [hp]
      congr 1
      by_cases hib : i < body.length
      · rw [← h1 i hib, List.getD_eq_getElem?_getD, List.getElem?_eq_getElem (show i < b.length by omega), Option.getD_some]
      · unfold nil0 at h2
        rw [List.all_eq_true] at h2
        have hm : b[i] ∈ (b.take 30).drop body.length := by
          rw [List.mem_iff_getElem?]
          refine ⟨i - body.length, ?_⟩
          rw [List.getElem?_drop, List.getElem?_take, if_pos (by omega), show body.length + (i - body.length) = i by omega, List.getElem?_eq_getElem (show i < b.length by omega)]
        have := h2 _ hm
        rw [List.getD_eq_getElem?_getD, List.getElem?_eq_none (by omega)]
        simpa using this
    · rw [List.getElem?_eq_none (by simp; omega), List.getElem?_eq_none (by rw [pad_len]; omega)]
/-- the program's test of a shell is the document's -/
theorem shell_test {b : List Nat} (hl : b.length = 32) (hb : ∀ x ∈ b, x < 256) (hs : sumOk b = true) : formB b = (decide (1 ≤ idN b) && (decide (1 ≤ b.getD 4 0) && decide (b.getD 4 0 ≤ 4)) && decide (b = sectorB (shellB (idN b) (b.getD 4 0)))) := by
  have h2 := getD_lt b hb 2
  have h3 := getD_lt b hb 3
  have hx : decide (b = sectorB (shellB (idN b) (b.getD 4 0))) = (b.getD 0 0 == 70 && b.getD 1 0 == 66 && nil0 b 5) := by
    rw [Bool.eq_iff_iff, decide_eq_true_eq, eq_sector hl hb hs, take_pad hl (show (shellB (idN b) (b.getD 4 0)).length ≤ 30 by simp [shellB])]
    simp only [Bool.and_eq_true, beq_iff_eq]
    constructor
    · rintro ⟨k1, k2⟩
      exact ⟨⟨k1 0 (by simp [shellB]), k1 1 (by simp [shellB])⟩, k2⟩
    · rintro ⟨⟨k0, k1⟩, k2⟩
      refine ⟨fun i hi => ?_, k2⟩
      have hi : i < 5 := hi
      rcases (show i = 0 ∨ i = 1 ∨ i = 2 ∨ i = 3 ∨ i = 4 by omega) with rfl | rfl | rfl | rfl | rfl
      · exact k0
      · exact k1
      · show b.getD 2 0 = idN b / 256
        unfold idN; omega
      · show b.getD 3 0 = idN b % 256
        unfold idN; omega
      · rfl
  rw [hx]
  unfold formB
  cases b.getD 0 0 == 70 <;> cases b.getD 1 0 == 66 <;> cases decide (1 ≤ idN b) <;> cases decide (1 ≤ b.getD 4 0) <;> cases decide (b.getD 4 0 ≤ 4) <;> cases nil0 b 5 <;> rfl
theorem ens_get {b : List Nat} {n j : Nat} (hj : j < n) : (ens b n)[j]? = some (enAt b j) := by
  unfold ens; rw [List.getElem?_map, List.getElem?_range hj]; rfl
theorem enc_at (b : List Nat) (hb : ∀ x ∈ b, x < 256) (j t : Nat) (ht : t < 5) : (enc (enAt b j)).getD t 0 = b.getD (3 + 5 * j + t) 0 := by
  have h5 := getD_lt b hb (5 + 5 * j)
  have h6 := getD_lt b hb (6 + 5 * j)
  rcases (show t = 0 ∨ t = 1 ∨ t = 2 ∨ t = 3 ∨ t = 4 by omega) with rfl | rfl | rfl | rfl | rfl
  · show (enAt b j).k.toNat = _
    unfold enAt
    simp
  · show (enAt b j).o.toNat = _
    unfold enAt
    rw [show 3 + 5 * j + 1 = 4 + 5 * j by omega]
    simp
  · show (enAt b j).i.toNat / 256 = _
    unfold enAt
    rw [show 3 + 5 * j + 2 = 5 + 5 * j by omega]
    simp only
    omega
  · show (enAt b j).i.toNat % 256 = _
    unfold enAt
    rw [show 3 + 5 * j + 3 = 6 + 5 * j by omega]
    simp only
    omega
  · show (enAt b j).s.toNat = _
    unfold enAt
    rw [show 3 + 5 * j + 4 = 7 + 5 * j by omega]
    simp
theorem list_head {b : List Nat} (hb : ∀ x ∈ b, x < 256) {n i : Nat} (hn : b.getD 2 0 = n) (hi : i < 3 + 5 * n) : b.getD i 0 = (listB (seqN b) (ens b n)).getD i 0 := by
  have h0 := getD_lt b hb 0
  have h1 := getD_lt b hb 1
  obtain ⟨g0, g1, g2⟩ := listB_head (seqN b) (ens b n)
  by_cases h3 : i < 3
  · rcases (show i = 0 ∨ i = 1 ∨ i = 2 by omega) with rfl | rfl | rfl
    · rw [g0]; unfold seqN; omega
    · rw [g1]; unfold seqN; omega
    · rw [g2, ens_len]; exact hn
  · obtain ⟨j, t, ht, rfl⟩ : ∃ j t, t < 5 ∧ i = 3 + 5 * j + t := ⟨(i - 3) / 5, (i - 3) % 5, by omega, by omega⟩
    rw [listB_at (seqN b) (ens b n) j t (enAt b j) (ens_get (by omega)) ht, enc_at b hb j t ht]
/-- the program's test of a copy is the document's -/
theorem dir_test {b : List Nat} (hl : b.length = 32) (hb : ∀ x ∈ b, x < 256) (hs : sumOk b = true) : dirB b = (decide (1 ≤ seqN b) && decide (b.getD 2 0 ≤ 5) && (decide (Sound (ens b (b.getD 2 0))) && decide (b = sectorB (listB (seqN b) (ens b (b.getD 2 0)))))) := by
  unfold dirB
  rw [hs]
  by_cases hn : b.getD 2 0 ≤ 5
  · have hx : decide (b = sectorB (listB (seqN b) (ens b (b.getD 2 0)))) = nil0 b (3 + 5 * b.getD 2 0) := by
      have hll : (listB (seqN b) (ens b (b.getD 2 0))).length = 3 + 5 * b.getD 2 0 := by rw [listB_len, ens_len]
      rw [Bool.eq_iff_iff, decide_eq_true_eq, eq_sector hl hb hs, take_pad hl (by omega), hll]
      exact ⟨fun h => h.2, fun h => ⟨fun i hi => list_head hb rfl hi, h⟩⟩
    rw [hx, show decide (0 < seqN b) = decide (1 ≤ seqN b) from rfl]
    cases decide (b.getD 2 0 ≤ 5) <;> cases decide (1 ≤ seqN b) <;> cases decide (Sound (ens b (b.getD 2 0))) <;> cases nil0 b (3 + 5 * b.getD 2 0) <;> rfl
  · rw [decide_eq_false hn]; simp
theorem dir_sum {b : List Nat} (hs : sumOk b = false) : dirB b = false := by unfold dirB; rw [hs]; rfl
end Go.Proofs.Ytjkpijinpfimiaa
