/-
  Facts that laws over bits share: bytes as strings, Read of bytes in memory, what was put is taken so.
-/
import Derived.Test.YtjkpijinpfimiaaBWc
import Derived.Laws.BytesArg
namespace Go.Proofs.Ytjkpijinpfimiaa
open Go.RowKit

theorem Wr_zero (w : World) : Wrt (w.alloc (.cells #[.slice none 0 0, .int .i64 0] 129)) w.heap.size (.slice none 0 0) [] :=
  ⟨Has.new _ _ _, World.ownsRow_nil _ _ _ _⟩
/-- Read of bytes that lie in memory -/
theorem bRead_any (A : Option Addr) (n c : Nat) (F : Nat → Prop) (bs : List Nat) (w : World) (hA : Arr w F A n (fun i => bV (bs.getD i 0))) (hlen : bs.length = n) (hn : A = none → n = 0 ∧ c = 0) (hb : n ≤ 140737488351232) :
    Calls Try.prog 63 #[.slice A n c] w fun e w' => ∃ b, e = .returned (.pointer (some ⟨b, 0, none⟩)) ∧ Rd w' b bs 0 0 ∧ New w w' ∧ w.heap.size ≤ b := by
  refine (read_any A n c F _ w hA hn (fun i hi => rfl) hb).mono ?_
  rintro e w' ⟨A', c', b, rfl, hH, hO, hN, hbl⟩
  subst hlen
  rw [map_getD_bV] at hO
  refine ⟨b, rfl, ⟨A', c', hH, own_base hO (by intro k _; omega)⟩, hN, hbl⟩
theorem Rd.other {w w' : World} {b b' : Nat} {bs bs' : List Nat} {p p' : Nat} {er er' : Int} (h : Rd w b bs p er) (h' : Rd w b' bs' p' er') (hne : b ≠ b') (c : Chg (· = b') w w') : Rd w' b bs p er := by
  obtain ⟨A, cc, hH, hO⟩ := h
  obtain ⟨cs, hcs⟩ := h'.has
  exact ⟨A, cc, hH.chg c hne, own_chg hO c fun k hk e => own_apart hO hcs (by decide) (e ▸ hk)⟩
theorem Rd.new {w w' : World} {b : Nat} {bs : List Nat} {p : Nat} {er : Int} (h : Rd w b bs p er) (c : New w w') : Rd w' b bs p er := h.chg c fun _ _ f => f
theorem Wrt.new {w w' : World} {b : Nat} {v : Value} {L : List Bool} (h : Wrt w b v L) (c : New w w') : Wrt w' b v L := h.chg c (fun f => f) fun _ _ f => f
theorem Wrt.beside {w w' : World} {b : Nat} {vw : Value} {L : List Bool} (h : Wrt w b vw L) {base e size n : Nat} {v : Value} {xs : List Value} (ho : w.ownsRow base e size v n xs) (h5 : e ≠ 5) (h26 : e ≠ 129) (c : Chg (fun k => v.ownBlock = some k) w w') : Wrt w' b vw L :=
  ⟨h.1.chg c (own_apart ho h.1 h26), own_chg h.2 c fun k hk hk' => own_own_apart h.2 ho (fun e => h5 e.symm) k hk hk'⟩
theorem fbits_succ_take (fw fv : Nat → Int) (i n : Nat) (h : i ≤ n) : ∃ R, fbits fw fv n = fbits fw fv i ++ R := by
  induction n with
  | zero => obtain rfl : i = 0 := by omega
            exact ⟨[], by simp⟩
  | succ n ih =>
    rcases Nat.lt_or_ge n i with h1 | h1
    · obtain rfl : i = n + 1 := by omega
      exact ⟨[], by simp⟩
    · obtain ⟨R, hR⟩ := ih h1
      exact ⟨R ++ bitsOf (fw n).toNat (fv n).toNat, by rw [fbits, hR, List.append_assoc]⟩
theorem fbits_sum (fw fv : Nat → Int) (n : Nat) : (fbits fw fv n).length = sumN (fun i => (fw i).toNat) n := by
  induction n with
  | zero => rfl
  | succ n ih => simp only [fbits, List.length_append, bitsOf_length, sumN, ih]
/-- what was put is taken so -/
theorem numAt_fbits (fw fv : Nat → Int) (n i : Nat) (hi : i < n) (hok : okF (fw i) (fv i) = true) : numAt (pack (fbits fw fv n)) (sumN (fun i => (fw i).toNat) i) (fw i).toNat = (fv i).toNat := by
  obtain ⟨R, hR⟩ := fbits_succ_take fw fv (i + 1) n (by omega)
  have hb := okF_bounds hok
  have hL := unpack_pack_take (fbits fw fv n)
  have hle : (fbits fw fv n).length = sumN (fun i => (fw i).toNat) i + (fw i).toNat + R.length := by
    rw [hR, List.length_append, fbits_sum]; rfl
  unfold numAt
  have : (((unpack (pack (fbits fw fv n))).drop (sumN (fun i => (fw i).toNat) i)).take (fw i).toNat) = bitsOf (fw i).toNat (fv i).toNat := by
    have e1 : ((unpack (pack (fbits fw fv n))).drop (sumN (fun i => (fw i).toNat) i)).take (fw i).toNat = (((unpack (pack (fbits fw fv n))).take (fbits fw fv n).length).drop (sumN (fun i => (fw i).toNat) i)).take (fw i).toNat := by
      rw [List.drop_take, List.take_take]
      congr 1
      omega
    rw [e1, hL, hR, fbits, ← fbits_sum fw fv i, List.append_assoc, List.drop_left, List.take_append_of_le_length (by simp)]
    rw [List.take_of_length_le (by simp)]
  rw [this, numOf_bitsOf]
  apply Nat.mod_eq_of_lt
  have h2 := hb.2.2.2.2
  have : ((fv i).toNat : Int) < ((2 ^ (fw i).toNat : Nat) : Int) := by
    rw [Int.natCast_pow]
    have := hb.2.2.1
    simp only [Int.toNat_of_nonneg this]
    exact h2
  exact_mod_cast this
theorem own_arr_ints {w : World} {base n c : Nat} {A : Option Addr} {f : Nat → Int} (h : w.ownsRow base 3 1 (.slice A n c) n ((List.range n).map (fun i => .int .i64 (f i)))) (h0 : ∀ i, i < n → 0 ≤ f i) : Arr w (fun k => Value.ownBlock (.slice A n c) = some k) A n (fun i => iV (f i).toNat) := by
  intro i hi
  obtain ⟨a, ha, hb, hc⟩ := Arr.of_own h i hi
  refine ⟨a, ha, hb, ?_⟩
  rw [hc]
  have := h0 i hi
  simp [hi, iV, Int.toNat_of_nonneg this]
def fcells (fw fv : Nat → Int) : Nat → List Value
  | 0 => []
  | n + 1 => fcells fw fv n ++ [.int .i64 (fw n), .int .i64 (fv n)]
theorem fcells_len (fw fv : Nat → Int) (n : Nat) : (fcells fw fv n).length = n * 2 := by
  induction n with
  | zero => rfl
  | succ n ih => simp only [fcells, List.length_append, ih, List.length_cons, List.length_nil]; omega
theorem fcells_get (fw fv : Nat → Int) (n i : Nat) (h : i < n) : (fcells fw fv n)[i * 2]? = some (.int .i64 (fw i)) ∧ (fcells fw fv n)[i * 2 + 1]? = some (.int .i64 (fv i)) := by
  induction n with
  | zero => omega
  | succ n ih =>
    simp only [fcells]
    rcases Nat.lt_or_ge i n with h1 | h1
    · have := ih h1
      rw [List.getElem?_append_left (by rw [fcells_len]; omega), List.getElem?_append_left (by rw [fcells_len]; omega)]
      exact this
    · obtain rfl : i = n := by omega
      rw [List.getElem?_append_right (by rw [fcells_len]; omega), List.getElem?_append_right (by rw [fcells_len]; omega), fcells_len]
      have e1 : i * 2 - i * 2 = 0 := by omega
      have e2 : i * 2 + 1 - i * 2 = 1 := by omega
      rw [e1, e2]
      exact ⟨rfl, rfl⟩
theorem fcells_one (fw fv : Nat → Int) (n : Nat) : ∀ u ∈ fcells fw fv n, u.oneCell' = true := by
  induction n with
  | zero => simp [fcells]
  | succ n ih =>
    intro u hu
    simp only [fcells, List.mem_append, List.mem_cons, List.not_mem_nil, or_false] at hu
    rcases hu with hu | rfl | rfl
    · exact ih u hu
    · rfl
    · rfl
theorem Flds.cells {w : World} {F : Nat → Prop} {A : Option Addr} {n : Nat} {fw fv : Nat → Int} (h : Flds w F A n fw fv) : ∀ j u, (fcells fw fv n)[j]? = some u → ∃ ad, A = some ad ∧ w.cell? (ad.add j) = some u := by
  intro j u hu
  have hj : j < n * 2 := by
    rcases Nat.lt_or_ge j (n * 2) with h1 | h1
    · exact h1
    · rw [List.getElem?_eq_none (by rw [fcells_len]; exact h1)] at hu; cases hu
  obtain ⟨q, hq⟩ : ∃ q, q = j / 2 := ⟨_, rfl⟩
  obtain ⟨a, rfl, _, h1, h2⟩ := h q (by omega)
  have hg := fcells_get fw fv n q (by omega)
  rcases (show j = q * 2 ∨ j = q * 2 + 1 by omega) with e | e
  · rw [e, hg.1] at hu
    simp only [Option.some.injEq] at hu
    subst hu
    exact ⟨a, rfl, by rw [e]; exact h1⟩
  · rw [e, hg.2] at hu
    simp only [Option.some.injEq] at hu
    subst hu
    refine ⟨a, rfl, ?_⟩
    have e2 : (a.add (q * 2)).add 1 = a.add (q * 2 + 1) := by
      unfold Addr.add
      by_cases h0 : q * 2 = 0 <;> simp [h0, Nat.add_assoc]
    rw [e, ← e2]
    exact h2
def fcat (n : Nat) (f g : Nat → Int) (i : Nat) : Int := if i < n then f i else g (i - n)
theorem fcells_congr (fw fv fw' fv' : Nat → Int) (n : Nat) (h : ∀ i, i < n → fw i = fw' i ∧ fv i = fv' i) : fcells fw fv n = fcells fw' fv' n := by
  induction n with
  | zero => rfl
  | succ n ih => simp only [fcells]; rw [ih (fun i hi => h i (by omega)), (h n (by omega)).1, (h n (by omega)).2]
theorem fcells_cat (fw fv gw gv : Nat → Int) (n m : Nat) : fcells (fcat n fw gw) (fcat n fv gv) (n + m) = fcells fw fv n ++ fcells gw gv m := by
  induction m with
  | zero =>
    simp only [Nat.add_zero, fcells, List.append_nil]
    exact fcells_congr _ _ _ _ n (fun i hi => by simp [fcat, hi])
  | succ m ih =>
    rw [← Nat.add_assoc, fcells, ih, fcells, List.append_assoc]
    have h1 : ¬ n + m < n := by omega
    simp [fcat, h1]
theorem fbits_congr (fw fv fw' fv' : Nat → Int) (n : Nat) (h : ∀ i, i < n → fw i = fw' i ∧ fv i = fv' i) : fbits fw fv n = fbits fw' fv' n := by
  induction n with
  | zero => rfl
  | succ n ih => simp only [fbits]; rw [ih (fun i hi => h i (by omega)), (h n (by omega)).1, (h n (by omega)).2]
theorem fbits_cat (fw fv gw gv : Nat → Int) (n m : Nat) : fbits (fcat n fw gw) (fcat n fv gv) (n + m) = fbits fw fv n ++ fbits gw gv m := by
  induction m with
  | zero =>
    simp only [Nat.add_zero, fbits, List.append_nil]
    exact fbits_congr _ _ _ _ n (fun i hi => by simp [fcat, hi])
  | succ m ih =>
    rw [← Nat.add_assoc, fbits, ih, fbits, List.append_assoc]
    have h1 : ¬ n + m < n := by omega
    simp [fcat, h1]
/-- fields in a row of the call's own -/
theorem Flds.of_own {w : World} {base c : Nat} {A : Option Addr} {n : Nat} {fw fv : Nat → Int} (h : w.ownsRow base 118 2 (.slice A n c) n (fcells fw fv n)) : Flds w (fun k => Value.ownBlock (.slice A n c) = some k) A n fw fv := by
  intro i hi
  rcases h.2 with ⟨hv, hn⟩ | ⟨g, cap, cur, hv, _, hg, _⟩
  · omega
  · simp only [Value.slice.injEq] at hv
    obtain ⟨rfl, _, rfl⟩ := hv
    have hh := fcells_get fw fv n i hi
    have hadd : (⟨g, 0, none⟩ : Addr).add (i * 2) = ⟨g, i * 2, none⟩ := by unfold Addr.add; split <;> simp_all
    refine ⟨_, rfl, rfl, ?_, ?_⟩
    · rw [hadd, h.cellAt (i * 2) (by omega)]; exact hh.1
    · rw [hadd, h.cellAt (i * 2 + 1) (by omega)]; exact hh.2
end Go.Proofs.Ytjkpijinpfimiaa
