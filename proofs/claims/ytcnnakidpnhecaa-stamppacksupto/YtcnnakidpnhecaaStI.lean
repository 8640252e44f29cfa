/-
  The law's own comparison of stamps; the bytes of stamps, laid and read.
-/
import Derived.Test.YtcnnakidpnhecaaStH
import Derived.Laws.IdiomStrings
namespace Go.Proofs.Ytcnnakidpnhecaa
open Go.RowKit
set_option maxHeartbeats 1000000 in
theorem stamps_same (A B : Option Addr) (n c c' : Nat) (F F' : Nat → Prop) (fd fm : Nat → Int) (w : World) (hA : Flds w F A n fd fm) (hB : Flds w F' B n fd fm) (hn : n ≤ 9223372036854775807) :
    Calls Try.prog 21 #[.slice A n c, .slice B n c'] w fun e w' => e = .returned (.bool true) ∧ ∃ q, w' = w.drewN q := by
  have HA := Lib.hid hA; clear hA
  have HB := Lib.hid hB; clear hB
  go_enter Try.func21, Try.ntmps21
  go_wp2
  go_loopg [4, 5] n (fun gk r i wr => ∃ k : Nat, k ≤ n ∧ gk = n - k ∧ r = .bool false ∧ i = .int .i64 k ∧ ∃ q, wr = w.drewN q)
  case atStart => exact ⟨0, by omega, by omega, rfl, rfl, 0, rfl⟩
  case round =>
    obtain ⟨k, hk, rfl, rfl, rfl, q, rfl⟩ := hrel
    by_cases hlt : k < n
    · obtain ⟨a, rfl, _, h1, h2⟩ := HA.out k hlt
      obtain ⟨b, rfl, _, g1, g2⟩ := HB.out k hlt
      obtain ⟨x, hx⟩ : ∃ x, x = fd k := ⟨_, rfl⟩
      obtain ⟨y, hy⟩ : ∃ y, y = fm k := ⟨_, rfl⟩
      rw [← hx] at h1 g1
      rw [← hy] at h2 g2
      clear hx hy
      go_wp2
      go_quiet (fail)
      go_wp2
      go_roundg (n - (k + 1))
      case measure => omega
      case rel => exact ⟨k + 1, by omega, rfl, rfl, by go_num, _, rfl⟩
    · go_wp2
      go_ret
      exact ⟨rfl, q, rfl⟩
theorem stbits_unpack (fd fm : Nat → Int) (n : Nat) : stbits fd fm n = unpack (sbytes (fun i => (fd i).toNat) (fun i => (fm i).toNat) n) := by
  induction n with
  | zero => rfl
  | succ n ih => rw [stbits, ih, four_bits, sbytes, unpack_append]
theorem pack_stbits (fd fm : Nat → Int) (n : Nat) (h : ∀ i, i < n → rightB (fd i) (fm i) = true) : pack (stbits fd fm n) = sbytes (fun i => (fd i).toNat) (fun i => (fm i).toNat) n := by
  rw [stbits_unpack, pack_unpack]
  exact sbytes_mem _ _ n (fun i hi => by have := rightB_true (h i hi); omega)
/-- the bytes that the law lays, stamp by stamp -/
def fvals (fd fm : Nat → Int) : Nat → List Value
  | 0 => []
  | n + 1 => fvals fd fm n ++ fourV (fd n) (fm n)
theorem fvals_len (fd fm : Nat → Int) (n : Nat) : (fvals fd fm n).length = 4 * n := by
  induction n with
  | zero => rfl
  | succ n ih => simp only [fvals, List.length_append, ih, fourV, List.length_cons, List.length_nil]; omega
theorem fvals_right (fd fm : Nat → Int) (n : Nat) (h : ∀ i, i < n → rightB (fd i) (fm i) = true) : fvals fd fm n = (sbytes (fun i => (fd i).toNat) (fun i => (fm i).toNat) n).map bV := by
  induction n with
  | zero => rfl
  | succ n ih => rw [fvals, ih (fun i hi => h i (by omega)), four_right _ _ (h n (by omega)), sbytes, List.map_append]
def allR (fd fm : Nat → Int) : Nat → Bool
  | 0 => true
  | n + 1 => allR fd fm n && rightB (fd n) (fm n)
theorem allR_true (fd fm : Nat → Int) (n : Nat) (h : allR fd fm n = true) : ∀ i, i < n → rightB (fd i) (fm i) = true := by
  induction n with
  | zero => intro i hi; omega
  | succ n ih =>
    rw [allR, Bool.and_eq_true] at h
    intro i hi
    rcases Nat.lt_succ_iff_lt_or_eq.1 hi with h1 | rfl
    · exact ih h.1 i h1
    · exact h.2
theorem allR_false (fd fm : Nat → Int) (n : Nat) (h : allR fd fm n = false) : ∃ j, j < n ∧ rightB (fd j) (fm j) = false := by
  induction n with
  | zero => cases h
  | succ n ih =>
    rw [allR, Bool.and_eq_false_iff] at h
    rcases h with h | h
    · obtain ⟨j, hj, hb⟩ := ih h
      exact ⟨j, by omega, hb⟩
    · exact ⟨n, by omega, h⟩
/-- what is laid and read: the same stamps -/
theorem read_laid (fd fm : Nat → Int) (n : Nat) (h : ∀ i, i < n → rightB (fd i) (fm i) = true) : (∀ j, j < n → goodB (sbytes (fun i => (fd i).toNat) (fun i => (fm i).toNat) n) j = true) ∧
    ∀ j, j < n → fdI (sbytes (fun i => (fd i).toNat) (fun i => (fm i).toNat) n) j = fd j ∧ fmI (sbytes (fun i => (fd i).toNat) (fun i => (fm i).toNat) n) j = fm j := by
  have key : ∀ j, j < n → ∀ q, q < 4 → byt (sbytes (fun i => (fd i).toNat) (fun i => (fm i).toNat) n) (4 * j + q) = (four (fd j).toNat (fm j).toNat).getD q 0 := by
    clear h
    induction n with
    | zero => intro j hj; omega
    | succ n ih =>
      intro j hj q hq
      have hl := sbytes_length (fun i => (fd i).toNat) (fun i => (fm i).toNat) n
      unfold byt
      rw [sbytes, List.getD_eq_getElem?_getD]
      rcases Nat.lt_succ_iff_lt_or_eq.1 hj with h1 | rfl
      · rw [List.getElem?_append_left (by omega), ← List.getD_eq_getElem?_getD]
        exact ih j h1 q hq
      · rw [List.getElem?_append_right (by omega), hl, List.getD_eq_getElem?_getD]
        have : 4 * j + q - 4 * j = q := by omega
        rw [this]
  have both : ∀ j, j < n → dayOf (sbytes (fun i => (fd i).toNat) (fun i => (fm i).toNat) n) j = (fd j).toNat ∧ lowOf (sbytes (fun i => (fd i).toNat) (fun i => (fm i).toNat) n) j = (fm j).toNat * 32 := by
    intro j hj
    have h0 := key j hj 0 (by omega)
    have h1 := key j hj 1 (by omega)
    have h2 := key j hj 2 (by omega)
    have h3 := key j hj 3 (by omega)
    have hr := rightB_true (h j hj)
    unfold dayOf lowOf
    rw [show 4 * j = 4 * j + 0 by omega] at *
    simp only [Nat.add_zero] at *
    rw [h0, h1, h2, h3]
    simp only [four, List.getD_cons_zero, List.getD_cons_succ]
    omega
  refine ⟨fun j hj => ?_, fun j hj => ?_⟩
  · obtain ⟨_, b2⟩ := both j hj
    have hr := rightB_true (h j hj)
    unfold goodB
    rw [b2, decide_eq_true_eq]
    omega
  · obtain ⟨b1, b2⟩ := both j hj
    have hr := rightB_true (h j hj)
    unfold fdI fmI
    rw [b1, b2]
    omega
theorem good_all (bs : List Nat) (h256 : ∀ x ∈ bs, x < 256) (m : Nat) (hm : bs.length = 4 * m) (h : ∀ j, j < m → goodB bs j = true) : (∀ j, j < m → rightB (fdI bs j) (fmI bs j) = true) ∧ sbytes (fun i => (fdI bs i).toNat) (fun i => (fmI bs i).toNat) m = bs := by
  have hg : ∀ j, j < m → lowOf bs j / 32 ≤ 1439 ∧ lowOf bs j % 32 = 0 := fun j hj => by
    have := h j hj
    rw [goodB, decide_eq_true_eq] at this
    exact this
  refine ⟨fun j hj => by rw [good_right bs h256, decide_eq_true_eq]; exact (hg j hj).1, ?_⟩
  have e1 : (fun i => (fdI bs i).toNat) = dayOf bs := by funext i; simp [fdI]
  have e2 : (fun i => (fmI bs i).toNat) = fun j => lowOf bs j / 32 := by funext i; unfold fmI; rw [Int.toNat_natCast]
  rw [e1, e2, sbytes_back bs h256 m (by omega) (fun j hj => (hg j hj).2), List.take_of_length_le (by omega)]
theorem arr_string {P : Program} {w : World} {src e dst n c : Nat} {A : Option Addr} {F : Nat → Prop} {bs : List Nat} (hs : P.underlying src = some (.slice e)) (he : P.underlying e = some (.int .u8)) (hd : P.underlying dst = some .string)
    (hA : Arr w F A n (fun i => bV (bs.getD i 0))) (hl : bs.length = n) (h256 : ∀ x ∈ bs, x < 256) (hnil : A = none → n = 0 ∧ c = 0) : (convert src dst (.slice A n c)).run P w = .ok (.string (bstr bs)) w := by
  subst hl
  cases A with
  | none =>
    obtain ⟨h0, rfl⟩ := hnil rfl
    have : bs = [] := List.eq_nil_of_length_eq_zero h0
    subst this
    rw [run_convert_bytes_nil w src e hs he _ _ dst hd]; rfl
  | some a =>
    have h := run_convert_bytes_back (P := P) w src dst e a c (bs.map UInt8.ofNat) hs he hd (fun j hj => by
      rw [List.length_map] at hj
      obtain ⟨a', ha, _, hc⟩ := hA j hj
      simp only [Option.some.injEq] at ha
      subst ha
      rw [hc]
      have hx := h256 (bs[j]) (List.getElem_mem hj)
      simp only [bV, List.getElem_map, UInt8.toNat_ofNat']
      rw [List.getD_eq_getElem?_getD, List.getElem?_eq_getElem hj]
      simp only [Option.getD_some]
      rw [Nat.mod_eq_of_lt (by omega)])
    rw [List.length_map] at h
    exact h
end Go.Proofs.Ytcnnakidpnhecaa
