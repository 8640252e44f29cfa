/-
  What the document's own Number does, for every input.
-/
import Derived.Test.YtcnnakidpnhecaaLTexts
namespace Go.Proofs.Ytcnnakidpnhecaa
open Go.RowKit
set_option maxHeartbeats 1000000 in
theorem refNumber_any (A : Option Addr) (n c : Nat) (F : Nat → Prop) (bs : List Nat) (w : World) (hA : Arr w F A n (fun i => bV (bs.getD i 0))) (hlen : bs.length = n) (h256 : ∀ x ∈ bs, x < 256) (hb : n ≤ 9223372036854775807) :
    Calls Try.prog 15 #[.slice A n c] w fun e w' => e = .returned (.tuple #[.int .i64 (numVal bs), .int .i64 (numErr bs)]) ∧ ∃ k, w' = w.drewN k := by
  have HA := Lib.hid hA; clear hA
  have H256 := Lib.hid h256; clear h256
  have Hlen := Lib.hid hlen; clear hlen
  by_cases h0 : n = 0
  · have hE : numErr bs = 10 := by rw [numErr, if_pos (by rw [Hlen.out, h0])]
    have hV : numVal bs = 0 := by rw [numVal, hE]; rfl
    rw [hE, hV]
    clear hE hV
    subst h0
    go_enter Try.func15, Try.ntmps15
    go_wp2
    go_ret2
    exact ⟨rfl, 0, rfl⟩
  · by_cases h9 : 9 < n
    · have hE : numErr bs = 11 := by rw [numErr, if_neg (by rw [Hlen.out]; exact h0), if_pos (by rw [Hlen.out]; exact h9)]
      have hV : numVal bs = 0 := by rw [numVal, hE]; rfl
      rw [hE, hV]
      clear hE hV
      have h0' : ((n : Int) == 0) = false := by simp; exact h0
      have h9' : decide (9 < (n : Int)) = true := by simp; omega
      clear h0
      go_enter Try.func15, Try.ntmps15
      go_wp2
      go_ret2
      exact ⟨rfl, 0, rfl⟩
    · have h0' : ((n : Int) == 0) = false := by simp; exact h0
      have h9' : decide (9 < (n : Int)) = false := by simp; omega
      have hn9 : n ≤ 9 := by omega
      have Hn0 := Lib.hid h0
      clear h0 h9
      go_enter Try.func15, Try.ntmps15
      go_wp2
      go_loopg [2, 3, 4, 5] n (fun gk r2 r3 nn i wr => ∃ k N : Nat, k ≤ n ∧ gk = n - k ∧ r2 = .int .i64 0 ∧ r3 = .int .i64 0 ∧ i = .int .i64 k ∧ nn = .int .i64 N ∧ N = val (bs.take k) ∧ (∀ j, j < k → bcd (bs.getD j 0) = true) ∧ ∃ q, wr = w.drewN q)
      case atStart => exact ⟨0, 0, by omega, by omega, rfl, rfl, rfl, rfl, by simp [val], fun j hj => by omega, 0, rfl⟩
      case round =>
        obtain ⟨k, N, hk, rfl, rfl, rfl, rfl, rfl, hN, hall, q, rfl⟩ := hrel
        have HN := Lib.hid hN; clear hN
        have Hall := Lib.hid hall; clear hall
        by_cases hlt : k < n
        · have hNb : N < 10000000000000000 := by rw [HN.out]; exact val_bound bs k (by omega) (by rw [Hlen.out]; omega) Hall.out
          have hts := take_snoc_get bs k (by rw [Hlen.out]; exact hlt)
          obtain ⟨ad, rfl, hadB, hcell⟩ := HA.out k hlt
          have hx256 : bs.getD k 0 < 256 := H256.out _ (by
            have : k < bs.length := by rw [Hlen.out]; exact hlt
            simp [List.getElem?_eq_getElem this])
          simp only [bV] at hcell
          obtain ⟨x, hx⟩ : ∃ x, x = bs.getD k 0 := ⟨_, rfl⟩
          rw [← hx] at hcell hx256 hts
          have Hx := Lib.hid hx; clear hx
          have Hts := Lib.hid hts; clear hts
          by_cases hg : bcd x = true
          · obtain ⟨g1, g2⟩ := bcd_true hg
            have h1 : decide (9 < (x : Int) / 16) = false := by simp; omega
            have h2 : decide (9 < (x : Int) % 16) = false := by simp; omega
            have Hg := Lib.hid hg; clear hg
            go_wp2
            go_quiet (fail)
            go_wp2
            go_roundg (n - (k + 1))
            case rel =>
              refine ⟨k + 1, N * 100 + x / 16 * 10 + x % 16, by omega, rfl, rfl, rfl, by go_num, ?_, ?_, fun j hj => ?_, ?_⟩
              · exact congrArg (Value.int .i64) (by omega)
              · rw [Hts.out, val_snoc, ← HN.out]
              · rcases Nat.lt_succ_iff_lt_or_eq.1 hj with h1 | rfl
                · exact Hall.out j h1
                · rw [← Hx.out]; exact Hg.out
              · exact ⟨_, rfl⟩
            case measure => omega
          · have hg' : bcd x = false := by simpa using hg
            have hE : numErr bs = 12 := by
              rw [numErr, if_neg (by rw [Hlen.out]; exact Hn0.out), if_neg (by rw [Hlen.out]; omega), not_all_bcd bs k (by rw [Hlen.out]; exact hlt) (by rw [← Hx.out]; exact hg')]
              rfl
            have hV : numVal bs = 0 := by rw [numVal, hE]; rfl
            have HE := Lib.hid hE; clear hE
            have HV := Lib.hid hV; clear hV
            by_cases h1 : 9 < x / 16
            · have h1' : decide (9 < (x : Int) / 16) = true := by simp; omega
              clear hg hg' h1
              go_wp2
              go_ret2
              rw [HE.out, HV.out]
              exact ⟨rfl, q, rfl⟩
            · have h1' : decide (9 < (x : Int) / 16) = false := by simp; omega
              have h2' : decide (9 < (x : Int) % 16) = true := by
                simp [bcd] at hg
                simp; omega
              clear hg hg' h1
              go_wp2
              go_ret2
              rw [HE.out, HV.out]
              exact ⟨rfl, q, rfl⟩
        · obtain rfl : n = k := by omega
          have hE : numErr bs = 0 := by
            rw [numErr, if_neg (by rw [Hlen.out]; exact Hn0.out), if_neg (by rw [Hlen.out]; omega), all_bcd bs (by rw [Hlen.out]; exact Hall.out)]
            rfl
          have hV : numVal bs = N := by rw [numVal, hE, HN.out, ← Hlen.out, List.take_length]; rfl
          have HE := Lib.hid hE; clear hE
          have HV := Lib.hid hV; clear hV
          go_wp2
          go_ret2
          rw [HE.out, HV.out]
          exact ⟨rfl, q, rfl⟩
def digU (n i : Nat) : UInt8 := UInt8.ofNat (48 + dig n i)
/-- the text of the last k digits -/
def dtext (n : Nat) : Nat → List UInt8
  | 0 => []
  | k + 1 => digU n k :: dtext n k
@[simp] theorem dtext_length (n k : Nat) : (dtext n k).length = k := by
  induction k with
  | zero => rfl
  | succ k ih => simp [dtext, ih]
theorem digit_text : ∀ D, D < 10 → (⟨#[48, 49, 50, 51, 52, 53, 54, 55, 56, 57]⟩ : ByteArray).extract D (D + 1) = ⟨#[UInt8.ofNat (48 + D)]⟩ := by
  intro D hD
  have hh : D = 0 ∨ D = 1 ∨ D = 2 ∨ D = 3 ∨ D = 4 ∨ D = 5 ∨ D = 6 ∨ D = 7 ∨ D = 8 ∨ D = 9 := by omega
  rcases hh with rfl | rfl | rfl | rfl | rfl | rfl | rfl | rfl | rfl | rfl <;> rfl
theorem text_join (u : UInt8) (l : List UInt8) : (⟨#[u]⟩ : ByteArray) ++ ⟨l.toArray⟩ = ⟨(u :: l).toArray⟩ := by
  apply ByteArray.ext
  simp
theorem dtext_next (n k N : Nat) (h : dig n k = N % 10) : (⟨#[48, 49, 50, 51, 52, 53, 54, 55, 56, 57]⟩ : ByteArray).extract (N % 10) (N % 10 + 1) ++ ⟨(dtext n k).toArray⟩ = ⟨(dtext n (k + 1)).toArray⟩ := by
  rw [digit_text _ (Nat.mod_lt _ (by omega)), text_join, ← h]
  rfl
theorem dtext_get (n k i : Nat) (h : i < k) : (dtext n k)[i]? = some (digU n (k - 1 - i)) := by
  induction k generalizing i with
  | zero => omega
  | succ k ih =>
    cases i with
    | zero => simp [dtext]
    | succ i =>
      rw [dtext, List.getElem?_cons_succ, ih i (by omega)]
      have : k - 1 - i = k + 1 - 1 - (i + 1) := by omega
      rw [this]
theorem digU_nat (n i : Nat) : (digU n i).toNat = 48 + dig n i := by
  have := dig_lt n i
  unfold digU
  rw [UInt8.toNat_ofNat']
  omega
theorem text_at (S : ByteArray) (l : List UInt8) (i : Nat) (u : UInt8) (hS : S = ⟨l.toArray⟩) (h : i < S.size) (hu : l[i]? = some u) : S[i] = u := by
  subst hS
  have hl : i < l.length := by simpa [ByteArray.size] using h
  rw [List.getElem?_eq_getElem hl] at hu
  simp only [Option.some.injEq] at hu
  rw [← hu]
  rfl
theorem fbytes_get (n L r : Nat) (h : r < L) : (fbytes n L)[r]? = some (fb n (L - 1 - r)) := by simp [fbytes, h]
theorem refDigits_no (n c : Int) (w : World) (h : c < 1 ∨ 18 < c ∨ n < 0) :
    Calls Try.prog 13 #[.int .i64 n, .int .i64 c] w fun e w' => e = .returned (.tuple #[.slice none 0 0, .bool false]) ∧ w = w' := by
  by_cases h1 : c < 1
  · go_enter Try.func13, Try.ntmps13
    go_wp2
    go_ret2
    exact ⟨rfl, rfl⟩
  · have h1' : decide (c < 1) = false := by simpa using h1
    by_cases h2 : 18 < c
    · clear h
      go_enter Try.func13, Try.ntmps13
      go_wp2
      go_ret2
      exact ⟨rfl, rfl⟩
    · have h2' : decide (18 < c) = false := by simpa using h2
      have h3 : n < 0 := by omega
      clear h
      go_enter Try.func13, Try.ntmps13
      go_wp2
      go_ret2
      exact ⟨rfl, rfl⟩
def DigQ (n c : Nat) (w : World) (e : Ending) (w' : World) : Prop :=
  New w w' ∧ if n < 10 ^ c then ∃ A cc, e = .returned (.tuple #[.slice A ((c + 1) / 2) cc, .bool true]) ∧ w'.ownsRow w.heap.size 5 1 (.slice A ((c + 1) / 2) cc) ((c + 1) / 2) ((fbytes n ((c + 1) / 2)).map bV)
    else e = .returned (.tuple #[.slice none 0 0, .bool false])
/-- the one cell of a literal, as append reads it -/
theorem news_one {w : World} {t : TypeId} {v : Value} (j : Nat) (u : Value) (hu : [v][j]? = some u) : ∃ ad, (some ⟨w.heap.size, 0, none⟩ : Option Addr) = some ad ∧ ((w.alloc (.cells #[v] t)).drew).cell? (ad.add j) = some u := by
  have hj : j = 0 := by
    rcases Nat.eq_zero_or_pos j with h | h
    · exact h
    · rw [List.getElem?_eq_none (by simp; omega)] at hu; cases hu
  subst hj
  simp only [List.getElem?_cons_zero, Option.some.injEq] at hu
  subst hu
  refine ⟨_, rfl, ?_⟩
  have hadd : (⟨w.heap.size, 0, none⟩ : Addr).add 0 = ⟨w.heap.size, 0, none⟩ := by unfold Addr.add; simp
  rw [hadd]
  simp
set_option maxHeartbeats 1000000 in
theorem refDigits_any (n c : Nat) (w : World) (hn : n ≤ 9223372036854775807) (hc1 : 1 ≤ c) (hc2 : c ≤ 18) :
    Calls Try.prog 13 #[.int .i64 n, .int .i64 c] w (DigQ n c w) := by
  obtain ⟨i0, hi, hz0, hz1, hz2⟩ := info_parts Try.info5
  have h1' : decide ((c : Int) < 1) = false := by simp; omega
  have h2' : decide (18 < (c : Int)) = false := by simp; omega
  have h3' : decide ((n : Int) < 0) = false := by simp
  go_enter Try.func13, Try.ntmps13
  go_wp2
  go_loopg [0, 6, 7] c (fun gk nn s i wr => ∃ k N : Nat, k ≤ c ∧ gk = c - k ∧ i = .int .i64 k ∧ nn = .int .i64 N ∧ N = n / 10 ^ k ∧ s = .string ⟨(dtext n k).toArray⟩ ∧ wr = w)
  case atStart => exact ⟨0, n, by omega, by omega, rfl, rfl, by simp, rfl, rfl⟩
  case round =>
    obtain ⟨k, N, hk, rfl, rfl, rfl, hN, rfl, rfl⟩ := hrel
    have hNle : N ≤ n := by rw [hN]; exact Nat.div_le_self _ _
    have hNk : n / 10 ^ (k + 1) = N / 10 := by rw [hN, div10]
    have hNd : dig n k = N % 10 := by rw [hN]; rfl
    have HN := Lib.hid hN; clear hN
    have HNk := Lib.hid hNk; clear hNk
    have HNd := Lib.hid hNd; clear hNd
    by_cases hlt : k < c
    · have hroom : ¬ 9223372036854775807 < min (N % 10 + 1) 10 - N % 10 + (dtext n k).length := by rw [dtext_length]; omega
      go_wp2
      go_roundg (c - (k + 1))
      case measure => omega
      case rel => exact ⟨k + 1, N / 10, by omega, rfl, by go_num, by simp, HNk.out.symm, congrArg Value.string (dtext_next n k N HNd.out), rfl⟩
    · obtain rfl : k = c := by omega
      clear HNk HNd
      by_cases hN0 : N = 0
      · subst hN0
        have hsm : n < 10 ^ k := (Nat.div_eq_zero_iff_lt (Nat.pow_pos (by omega))).1 HN.out.symm
        have Hsm := Lib.hid hsm; clear hsm HN
        obtain ⟨L, hL⟩ : ∃ L, L = (k + 1) / 2 := ⟨_, rfl⟩
        have hL1 : 2 * L ≤ k + 1 := by omega
        have hL2 : k ≤ 2 * L := by omega
        have HL := Lib.hid hL; clear hL
        obtain ⟨S, hS⟩ : ∃ S : ByteArray, S = ⟨(dtext n (2 * L)).toArray⟩ := ⟨_, rfl⟩
        have HS := Lib.hid hS; clear hS
        go_upto_if 39 with (fail)
        go_cut [6] (fun t wc => t = .string S ∧ wc = wr)
        case first =>
          by_cases hp : k % 2 = 1
          · have hpar : ((k : Int) % 2 == 1) = true := by rw [beq_iff_eq]; omega
            have hroom : ¬ 9223372036854775807 < 1 + (dtext n k).length := by rw [dtext_length]; omega
            have hS2 : (⟨#[48]⟩ : ByteArray) ++ ⟨(dtext n k).toArray⟩ = S := by
              have e : 2 * L = k + 1 := by omega
              rw [HS.out, e, text_join, dtext, digU, dig_hi n k k Hsm.out (Nat.le_refl _)]
              rfl
            have HS2 := Lib.hid hS2; clear hS2
            go_wp2
            go_meet
            case rel => exact ⟨congrArg Value.string HS2.out, rfl⟩
          · have hpar : ((k : Int) % 2 == 1) = false := by rw [beq_eq_false_iff_ne]; omega
            have hS2 : (⟨(dtext n k).toArray⟩ : ByteArray) = S := by
              have e : 2 * L = k := by omega
              rw [HS.out, e]
            have HS2 := Lib.hid hS2; clear hS2
            go_wp2
            go_meet
            case rel => exact ⟨congrArg Value.string HS2.out, rfl⟩
        case rest =>
          obtain ⟨rfl, rfl⟩ := hcut
          have hsz : S.size = 2 * L := by rw [HS.out]; simp [ByteArray.size]
          have HSz := Lib.hid hsz; clear hsz
          go_wp2
          go_loopg [8, 9] L (fun gk v i wr => ∃ (r ii : Nat) (A : Option Addr) (cc : Nat), r ≤ L ∧ gk = L - r ∧ i = .int .i64 (ii : Int) ∧ ii = 2 * r ∧ v = .slice A r cc ∧ wr.ownsRow wc.heap.size 5 1 (.slice A r cc) r (((fbytes n L).take r).map bV) ∧ New wc wr)
          case atStart => exact ⟨0, 0, none, 0, by omega, by omega, rfl, rfl, rfl, World.ownsRow_nil _ _ _ _, Chg.refl _ _⟩
          case round =>
            obtain ⟨r, ii, A, cc, hr, rfl, rfl, hii, rfl, hO, hN⟩ := hrel
            have HO := Lib.hid hO; clear hO
            have HN := Lib.hid hN; clear hN
            have hii2 : ii ≤ 2 * L := by omega
            have Hii := Lib.hid hii
            by_cases hlt : r < L
            · have h1 : ii < S.size := by rw [HSz.out]; omega
              have h2 : ii + 1 < S.size := by rw [HSz.out]; omega
              have hiib : ii ≤ 18 := by omega
              clear hii
              have hx1 : (S[ii]'h1).toNat = 48 + dig n (2 * L - 1 - ii) := by
                rw [text_at S _ ii _ HS.out h1 (dtext_get n (2 * L) ii (by have := Hii.out; omega)), digU_nat]
              have hx2 : (S[ii + 1]'h2).toNat = 48 + dig n (2 * L - 1 - (ii + 1)) := by
                rw [text_at S _ (ii + 1) _ HS.out h2 (dtext_get n (2 * L) (ii + 1) (by have := Hii.out; omega)), digU_nat]
              have hd1 := dig_lt n (2 * L - 1 - ii)
              have hd2 := dig_lt n (2 * L - 1 - (ii + 1))
              obtain ⟨x1, ex1⟩ : ∃ x1, (S[ii]'h1).toNat = x1 := ⟨_, rfl⟩
              obtain ⟨x2, ex2⟩ : ∃ x2, (S[ii + 1]'h2).toNat = x2 := ⟨_, rfl⟩
              rw [ex1] at hx1
              rw [ex2] at hx2
              obtain ⟨d1, hdd1⟩ : ∃ d1, d1 = dig n (2 * L - 1 - ii) := ⟨_, rfl⟩
              obtain ⟨d2, hdd2⟩ : ∃ d2, d2 = dig n (2 * L - 1 - (ii + 1)) := ⟨_, rfl⟩
              rw [← hdd1] at hx1 hd1
              rw [← hdd2] at hx2 hd2
              have hy : fb n (L - 1 - r) = d2 + 16 * d1 := by
                rw [hdd1, hdd2, fb]
                have e1 : 2 * (L - 1 - r) = 2 * L - 1 - (ii + 1) := by have := Hii.out; omega
                have e2 : 2 * L - 1 - (ii + 1) + 1 = 2 * L - 1 - ii := by have := Hii.out; omega
                rw [e1, e2]
              obtain ⟨g1, hg1⟩ : ∃ g, g = d1 * 16 := ⟨_, rfl⟩
              obtain ⟨g2, hg2⟩ : ∃ g, g = d1 * 16 + x2 := ⟨_, rfl⟩
              obtain ⟨y, hyy⟩ : ∃ y, y = d2 + 16 * d1 := ⟨_, rfl⟩
              rw [← hyy] at hy
              have f1 : IntKind.u8.wrap ((x1 : Int) - 48) = (d1 : Int) := by rw [IntKind.wrap_u8]; omega
              have f2 : IntKind.u8.wrap ((d1 : Int) * 16) = (g1 : Int) := by rw [IntKind.wrap_u8]; omega
              have f3 : IntKind.u8.wrap ((g1 : Int) + (x2 : Int)) = (g2 : Int) := by rw [IntKind.wrap_u8]; omega
              have f4 : IntKind.u8.wrap ((g2 : Int) - 48) = (y : Int) := by rw [IntKind.wrap_u8]; omega
              have Hy := Lib.hid hy
              clear hy hyy hg1 hg2 hdd1 hdd2 hx1 hx2 hd1 hd2
              go_wp2
              have f5 : IntKind.i64.wrap ((ii : Int) + 1) = (ii : Int) + 1 := IntWalk.i64_in _ (by omega)
              have f6 : ((ii : Int) + 1).toNat = ii + 1 := by omega
              have f7 : 0 ≤ (ii : Int) + 1 := by omega
              have f8 : (ii : Int) + 1 < (S.size : Int) := by omega
              have hsz := HN.out.size
              go_region_law (refine step_append_src rfl (.tmp 48) (.tmp 60) 22 rfl wc.heap.size 5 i0 (.int .u8 0) 1 1 Try.underlying22 hi hz0 hz1 hz2 rfl (by decide) (.slice A r cc) r (((fbytes n L).take r).map bV) (by simp [Act.eval]) ((HO.out.alloc _).drew) (some ⟨wr.heap.size, 0, none⟩) 1 1 [bV y] (by simp [Act.eval]) (by intro h; cases h) rfl news_one (by intro u hu; simp at hu; subst hu; rfl) (by simp only [maxLen]; omega) (by omega) (by simp; omega) ?_
                             intro A2 c2 w2 hO2 hC2 hF2
                             have HO2 := Lib.hid hO2
                             have HC2 := Lib.hid hC2
                             clear hO2 hC2 hF2)
              all_goals
                clear f1 f2 f3 f4 f5 f6 f7 f8 ex1 ex2
                go_wp2
                go_roundg (L - (r + 1))
                case measure => omega
                case rel =>
                  refine ⟨r + 1, ii + 2, A2, c2, by omega, rfl, by go_num, by have := Hii.out; omega, rfl, ?_, ?_⟩
                  · rw [List.take_add_one, fbytes_get n L r hlt, List.map_append, Hy.out]
                    exact HO2.out
                  · exact ((HN.out.alloc _).drew).trans HC2.out (fun i hi hk => by have := (HO.out.lt i hk).1; omega)
            · obtain rfl : r = L := by omega
              clear hii
              have hge : ¬ ii < S.size := by rw [HSz.out]; have := Hii.out; omega
              go_wp2
              go_ret2
              refine ⟨HN.out, ?_⟩
              rw [if_pos Hsm.out, ← HL.out]
              have ht := HO.out
              rw [List.take_of_length_le (by simp)] at ht
              exact ⟨A, cc, rfl, ht⟩
      · have hsm : ¬ n < 10 ^ k := by
          intro h
          exact hN0 (by rw [HN.out]; exact (Nat.div_eq_zero_iff_lt (Nat.pow_pos (by omega))).2 h)
        have Hsm := Lib.hid hsm; clear hsm
        have hN1 : 0 < N := by omega
        clear hN0
        go_wp2
        go_ret2
        refine ⟨Chg.refl _ _, ?_⟩
        rw [if_neg Hsm.out]
        rfl
end Go.Proofs.Ytcnnakidpnhecaa
