/-
  Facts that laws over bits share: bytes as strings, Read of bytes in memory, what was put is taken so.
-/
import Derived.Test.YtcnnakidpnhecaaWriteC
import Derived.Laws.BytesArg
namespace Go.Proofs.Ytcnnakidpnhecaa
open Go.RowKit

/-- bytes as a string -/
def bstr (bs : List Nat) : ByteArray := ⟨(bs.map UInt8.ofNat).toArray⟩
theorem own_string {P : Program} {w : World} {src e dst base n c : Nat} {A : Option Addr} {bs : List Nat} (hs : P.underlying src = some (.slice e)) (he : P.underlying e = some (.int .u8)) (hd : P.underlying dst = some .string)
    (h : w.ownsRow base e 1 (.slice A n c) n (bs.map bV)) : (convert src dst (.slice A n c)).run P w = .ok (.string (bstr bs)) w := by
  have hl := h.1
  rw [List.length_map, Nat.mul_one] at hl
  rcases h.2 with ⟨hv, hn⟩ | ⟨g, cap, cur, hv, _⟩
  · simp only [Value.slice.injEq] at hv
    obtain ⟨rfl, rfl, rfl⟩ := hv
    have : bs = [] := List.eq_nil_of_length_eq_zero hl
    subst this
    rw [run_convert_bytes_nil w src e hs he 0 0 dst hd]; rfl
  · simp only [Value.slice.injEq] at hv
    obtain ⟨rfl, _, rfl⟩ := hv
    rw [run_convert_bytes_arg w src e hs he g 0 n c (bs.map (Int.ofNat)) (by simpa using hl) (fun i hi => by
      rw [Nat.zero_add, h.cellAt i (by omega)]
      have : i < bs.length := by omega
      simp [List.getElem?_eq_getElem this, bV]) dst hd]
    congr 2
    simp [strOfNums, bstr]
theorem bstr_list (bs : List Nat) : (bstr bs).toList = bs.map UInt8.ofNat := by
  simp [bstr, ByteArray.toList_eq]
theorem Wr_zero (w : World) : Wr (w.alloc (.cells #[.slice none 0 0, .int .i64 0] 59)) w.heap.size (.slice none 0 0) [] :=
  ⟨Has.new _ _ _, World.ownsRow_nil _ _ _ _⟩
theorem map_getD_bV (bs : List Nat) : (List.range bs.length).map (fun i => bV (bs.getD i 0)) = bs.map bV := by
  apply List.ext_getElem?
  intro i
  by_cases hi : i < bs.length
  · simp [hi]
  · rw [List.getElem?_eq_none (by simp; omega), List.getElem?_eq_none (by simp; omega)]
/-- Read of bytes that lie in memory -/
theorem Read_any (A : Option Addr) (n c : Nat) (F : Nat → Prop) (bs : List Nat) (w : World) (hA : Arr w F A n (fun i => bV (bs.getD i 0))) (hlen : bs.length = n) (hn : A = none → n = 0 ∧ c = 0) (hb : n ≤ 140737488351232) :
    Calls Try.prog 29 #[.slice A n c] w fun e w' => ∃ b, e = .returned (.pointer (some ⟨b, 0, none⟩)) ∧ Rd w' b bs 0 0 ∧ New w w' ∧ w.heap.size ≤ b := by
  refine (read_any A n c F _ w hA hn (fun i hi => rfl) hb).mono ?_
  rintro e w' ⟨A', c', b, rfl, hH, hO, hN, hbl⟩
  subst hlen
  rw [map_getD_bV] at hO
  refine ⟨b, rfl, ⟨A', c', hH, own_base hO (by intro k _; omega)⟩, hN, hbl⟩
theorem own_arr_bytes {w : World} {base c : Nat} {A : Option Addr} {bs : List Nat} (h : w.ownsRow base 5 1 (.slice A bs.length c) bs.length (bs.map bV)) : Arr w (fun k => Value.ownBlock (.slice A bs.length c) = some k) A bs.length (fun i => bV (bs.getD i 0)) := by
  intro i hi
  obtain ⟨a, ha, hb, hc⟩ := Arr.of_own h i hi
  exact ⟨a, ha, hb, by rw [hc]; simp [hi]⟩
theorem own_nil {w : World} {base e size n c : Nat} {A : Option Addr} {xs : List Value} (h : w.ownsRow base e size (.slice A n c) n xs) : A = none → n = 0 ∧ c = 0 := by
  obtain ⟨A', c', hv, hn⟩ := own_form h
  simp only [Value.slice.injEq, true_and] at hv
  obtain ⟨rfl, rfl⟩ := hv
  exact hn
theorem Rd.other {w w' : World} {b b' : Nat} {bs bs' : List Nat} {p p' : Nat} {er er' : Int} (h : Rd w b bs p er) (h' : Rd w b' bs' p' er') (hne : b ≠ b') (c : Chg (· = b') w w') : Rd w' b bs p er := by
  obtain ⟨A, cc, hH, hO⟩ := h
  obtain ⟨cs, hcs⟩ := h'.has
  exact ⟨A, cc, hH.chg c hne, own_chg hO c fun k hk e => own_apart hO hcs (by decide) (e ▸ hk)⟩
theorem Rd.new {w w' : World} {b : Nat} {bs : List Nat} {p : Nat} {er : Int} (h : Rd w b bs p er) (c : New w w') : Rd w' b bs p er := h.chg c fun _ _ f => f
theorem Wr.new {w w' : World} {b : Nat} {v : Value} {L : List Bool} (h : Wr w b v L) (c : New w w') : Wr w' b v L := h.chg c (fun f => f) fun _ _ f => f
theorem Wr.beside {w w' : World} {b : Nat} {vw : Value} {L : List Bool} (h : Wr w b vw L) {base e size n : Nat} {v : Value} {xs : List Value} (ho : w.ownsRow base e size v n xs) (h5 : e ≠ 5) (h26 : e ≠ 59) (c : Chg (fun k => v.ownBlock = some k) w w') : Wr w' b vw L :=
  ⟨h.1.chg c (own_apart ho h.1 h26), own_chg h.2 c fun k hk hk' => own_own_apart h.2 ho (fun e => h5 e.symm) k hk hk'⟩
theorem fbits_succ_take (fw fv : Nat → Int) (i n : Nat) (h : i ≤ n) : ∃ R, fbits fw fv n = fbits fw fv i ++ R := by
  induction n with
  | zero => obtain rfl : i = 0 := by omega
            exact ⟨[], by simp⟩
  | succ n ih =>
    rcases Nat.lt_or_ge n i with h1 | h1
    · obtain rfl : i = n + 1 := by omega
      exact ⟨[], by simp⟩
    · obtain ⟨R, hR⟩ := ih h1
      exact ⟨R ++ bitsOf (fw n).toNat (fv n).toNat, by rw [fbits, hR, List.append_assoc]⟩
theorem fbits_sum (fw fv : Nat → Int) (n : Nat) : (fbits fw fv n).length = sumN (fun i => (fw i).toNat) n := by
  induction n with
  | zero => rfl
  | succ n ih => simp only [fbits, List.length_append, bitsOf_length, sumN, ih]
/-- what was put is taken so -/
theorem numAt_fbits (fw fv : Nat → Int) (n i : Nat) (hi : i < n) (hok : okF (fw i) (fv i) = true) : numAt (pack (fbits fw fv n)) (sumN (fun i => (fw i).toNat) i) (fw i).toNat = (fv i).toNat := by
  obtain ⟨R, hR⟩ := fbits_succ_take fw fv (i + 1) n (by omega)
  have hb := okF_bounds hok
  have hL := unpack_pack_take (fbits fw fv n)
  have hle : (fbits fw fv n).length = sumN (fun i => (fw i).toNat) i + (fw i).toNat + R.length := by
    rw [hR, List.length_append, fbits_sum]; rfl
  unfold numAt
  have : (((unpack (pack (fbits fw fv n))).drop (sumN (fun i => (fw i).toNat) i)).take (fw i).toNat) = bitsOf (fw i).toNat (fv i).toNat := by
    have e1 : ((unpack (pack (fbits fw fv n))).drop (sumN (fun i => (fw i).toNat) i)).take (fw i).toNat = (((unpack (pack (fbits fw fv n))).take (fbits fw fv n).length).drop (sumN (fun i => (fw i).toNat) i)).take (fw i).toNat := by
      rw [List.drop_take, List.take_take]
      congr 1
      omega
    rw [e1, hL, hR, fbits, ← fbits_sum fw fv i, List.append_assoc, List.drop_left, List.take_append_of_le_length (by simp)]
    rw [List.take_of_length_le (by simp)]
  rw [this, numOf_bitsOf]
  apply Nat.mod_eq_of_lt
  have h2 := hb.2.2.2.2
  have : ((fv i).toNat : Int) < ((2 ^ (fw i).toNat : Nat) : Int) := by
    rw [Int.natCast_pow]
    have := hb.2.2.1
    simp only [Int.toNat_of_nonneg this]
    exact h2
  exact_mod_cast this
theorem own_arr_ints {w : World} {base n c : Nat} {A : Option Addr} {f : Nat → Int} (h : w.ownsRow base 3 1 (.slice A n c) n ((List.range n).map (fun i => .int .i64 (f i)))) (h0 : ∀ i, i < n → 0 ≤ f i) : Arr w (fun k => Value.ownBlock (.slice A n c) = some k) A n (fun i => iV (f i).toNat) := by
  intro i hi
  obtain ⟨a, ha, hb, hc⟩ := Arr.of_own h i hi
  refine ⟨a, ha, hb, ?_⟩
  rw [hc]
  have := h0 i hi
  simp [hi, iV, Int.toNat_of_nonneg this]
theorem own_some {w : World} {base e n c i : Nat} {A : Option Addr} {xs : List Value} (h : w.ownsRow base e 1 (.slice A n c) n xs) (hi : i < n) : ∃ g, A = some ⟨g, 0, none⟩ ∧ ∀ j, j < n → w.cell? ⟨g, j, none⟩ = xs[j]? := by
  rcases h.2 with ⟨_, hn⟩ | ⟨g, cap, cur, hv, _⟩
  · omega
  · simp only [Value.slice.injEq] at hv
    obtain ⟨rfl, _, rfl⟩ := hv
    exact ⟨g, rfl, fun j hj => h.cellAt j (by omega)⟩
end Go.Proofs.Ytcnnakidpnhecaa
