/-
  What the document's own answers Field, Number and Bits of layer 1 do.
-/
import Derived.Test.YtemhcfbdpplcgaaLawC
import Derived.Lib.Strings
namespace Go.Proofs.Ytemhcfbdpplcgaa
open Go.RowKit

/-- bits as a text of noughts and ones -/
def fstr (L : List Bool) : ByteArray := ⟨(L.map fun b => if b then (49 : UInt8) else 48).toArray⟩
theorem fstr_size (L : List Bool) : (fstr L).size = L.length := by simp [fstr, ByteArray.size]
theorem fstr_nil : fstr [] = ⟨#[]⟩ := rfl
theorem fstr_append (L M : List Bool) : fstr L ++ fstr M = fstr (L ++ M) := by
  unfold fstr; rw [ByteArray.mk_append_mk]; simp
theorem fstr_add {P : Program} (w : World) (L M : List Bool) (h : L.length + M.length ≤ 9223372036854775807) : (Op.stringOp .add (fstr L) (fstr M)).run P w = .ok (.string (fstr (L ++ M))) w := by
  rw [run_string_add_sum w _ _ (by rw [fstr_size, fstr_size]; exact h), fstr_append]
theorem fstr_get (L : List Bool) (i : Nat) (h : i < (fstr L).size) : (fstr L)[i].toNat = if L.getD i false then 49 else 48 := by
  have hl : i < L.length := by rw [← fstr_size]; exact h
  have : (fstr L)[i] = if L[i] then (49 : UInt8) else 48 := by
    show (fstr L).data[i] = _
    simp [fstr]
  rw [this]
  simp only [List.getD_eq_getElem?_getD, List.getElem?_eq_getElem hl, Option.getD_some]
  cases L[i] <;> rfl
theorem fstr_toList (L : List Bool) : (fstr L).toList = L.map fun b => if b then (49 : UInt8) else 48 := by simp [fstr]
theorem fstr_extract (L : List Bool) (a b : Nat) : (fstr L).extract a b = fstr ((L.drop a).take (b - a)) := by
  apply ByteArray.ext
  apply Array.toList_inj.1
  rw [Lib.extract_data]
  simp [fstr, List.map_take, List.map_drop]

set_option maxHeartbeats 1000000 in
theorem Field_ok (width v : Nat) (w : World) (h1 : 1 ≤ width) (h2 : width ≤ 32) (hv : v ≤ 9223372036854775807) :
    Calls Try.prog 9 #[.int .i64 width, .int .i64 v] w fun e w' => e = .returned (.tuple #[.string (fstr (bitsOf width v)), .bool (decide (v / 2 ^ width = 0))]) ∧ w = w' := by
  go_enter Try.func9, Try.ntmps9
  go_wp2
  go_loopg [1, 6, 7] width (fun gk s1 s6 s7 wr => ∃ k u : Nat, k ≤ width ∧ gk = width - k ∧ s1 = .int .i64 u ∧ u = v / 2 ^ k ∧ s6 = .string (fstr (bitsOf k v)) ∧ s7 = .int .i64 k ∧ w = wr)
  case atStart => exact ⟨0, v, by omega, by omega, rfl, by simp, rfl, rfl, rfl⟩
  case round =>
    obtain ⟨k, u, hk, rfl, rfl, hu, rfl, rfl, rfl⟩ := hrel
    have hule : u ≤ v := by rw [hu]; exact Nat.div_le_self _ _
    have hu2 : u / 2 = v / 2 ^ (k + 1) := by rw [hu, Nat.div_div_eq_div_mul, Nat.pow_succ]
    have Hu := Lib.hid hu; clear hu
    have Hu2 := Lib.hid hu2; clear hu2
    obtain ⟨M, hM⟩ : ∃ M, M = bitsOf k v := ⟨_, rfl⟩
    have hMl : M.length = k := by rw [hM]; simp
    rw [← hM]
    have HM := Lib.hid hM; clear hM
    have ha1 : ∀ w, (Op.stringOp .add ⟨#[49]⟩ (fstr M)).run Try.prog w = .ok (.string (fstr (true :: M))) w := fun w => fstr_add w [true] M (by simp; omega)
    have ha0 : ∀ w, (Op.stringOp .add ⟨#[48]⟩ (fstr M)).run Try.prog w = .ok (.string (fstr (false :: M))) w := fun w => fstr_add w [false] M (by simp; omega)
    have HMl := Lib.hid hMl; clear hMl
    by_cases hlt : k < width
    · by_cases hb : u % 2 = 1
      · have hb' : ((u : Int) % 2 == 1) = true := by simp; omega
        have Hb := Lib.hid hb; clear hb
        go_wp2
        go_roundg (width - (k + 1))
        case measure => omega
        case rel => exact ⟨k + 1, u / 2, by omega, rfl, by go_num, Hu2.out, by rw [bitsOf, ← Hu.out, ← HM.out, Hb.out]; rfl, by go_num, rfl⟩
      · have hb' : ((u : Int) % 2 == 1) = false := by simp; omega
        have hb0 : u % 2 = 0 := by omega
        have Hb := Lib.hid hb0; clear hb hb0
        go_wp2
        go_roundg (width - (k + 1))
        case measure => omega
        case rel => exact ⟨k + 1, u / 2, by omega, rfl, by go_num, Hu2.out, by rw [bitsOf, ← Hu.out, ← HM.out, Hb.out]; rfl, by go_num, rfl⟩
    · obtain rfl : width = k := by omega
      go_wp2
      go_ret2
      refine ⟨?_, rfl⟩
      rw [← HM.out, ← Hu.out]
      have : ((u : Int) == 0) = decide (u = 0) := by rw [Bool.eq_iff_iff]; simp
      rw [← this]; rfl
set_option maxHeartbeats 1000000 in
theorem Field_no (width v : Int) (w : World) (h : width < 1 ∨ 32 < width ∨ v < 0) :
    Calls Try.prog 9 #[.int .i64 width, .int .i64 v] w fun e w' => e = .returned (.tuple #[.string ⟨#[]⟩, .bool false]) ∧ w = w' := by
  by_cases h1 : width < 1
  · go_enter Try.func9, Try.ntmps9
    go_wp2
    go_ret2
    exact ⟨rfl, rfl⟩
  · by_cases h2 : 32 < width
    · go_enter Try.func9, Try.ntmps9
      go_wp2
      go_ret2
      exact ⟨rfl, rfl⟩
    · have h3 : v < 0 := by omega
      clear h
      go_enter Try.func9, Try.ntmps9
      go_wp2
      go_ret2
      exact ⟨rfl, rfl⟩
set_option maxHeartbeats 1000000 in
theorem Number_any (L : List Bool) (w : World) (hL : L.length ≤ 32) :
    Calls Try.prog 17 #[.string (fstr L)] w fun e w' => e = .returned (.int .i64 (numOf L)) ∧ w = w' := by
  have hsz := fstr_size L
  go_enter Try.func17, Try.ntmps17
  go_wp2
  go_loopg [3, 4] L.length (fun gk s3 s4 wr => ∃ k u : Nat, k ≤ L.length ∧ gk = L.length - k ∧ s3 = .int .i64 u ∧ u = numOf (L.take k) ∧ s4 = .int .i64 k ∧ w = wr)
  case atStart => exact ⟨0, 0, by omega, by omega, rfl, by simp [numOf], rfl, rfl⟩
  case round =>
    obtain ⟨k, u, hk, rfl, rfl, hu, rfl, rfl⟩ := hrel
    have hul : u < 4294967296 := by
      rw [hu]
      refine Nat.lt_of_lt_of_le (numOf_lt _) (Nat.pow_le_pow_right (n := 2) (by omega) (show _ ≤ 32 from ?_))
      rw [List.length_take]; omega
    have Hu := Lib.hid hu; clear hu
    by_cases hlt : k < L.length
    · have hks : k < (fstr L).size := by omega
      have hg := fstr_get L k hks
      have hts : numOf (L.take (k + 1)) = 2 * u + (L.getD k false).toNat := by
        rw [List.take_add_one, List.getElem?_eq_getElem hlt, Hu.out]
        show numOf (L.take k ++ [L[k]]) = _
        rw [numOf_snoc]
        simp [List.getElem?_eq_getElem hlt]
      have Hts := Lib.hid hts; clear hts
      cases hb : L.getD k false with
      | true =>
        rw [hb] at hg
        rw [hb] at Hts
        simp only [if_true] at hg
        have hcmp : (((fstr L)[k].toNat : Int) == 49) = true := by rw [hg]; rfl
        clear hg hb
        go_wp2
        go_roundg (L.length - (k + 1))
        case measure => omega
        case rel => exact ⟨k + 1, 2 * u + 1, by omega, rfl, by go_num, Hts.out.symm, by go_num, rfl⟩
      | false =>
        rw [hb] at hg
        rw [hb] at Hts
        simp only [Bool.false_eq_true, if_false] at hg
        have hcmp : (((fstr L)[k].toNat : Int) == 49) = false := by rw [hg]; rfl
        clear hg hb
        go_wp2
        go_roundg (L.length - (k + 1))
        case measure => omega
        case rel => exact ⟨k + 1, 2 * u, by omega, rfl, by go_num, Hts.out.symm, by go_num, rfl⟩
    · have hkl : k = L.length := by omega
      have he : numOf L = u := by rw [Hu.out, hkl, List.take_length]
      have He := Lib.hid he; clear he
      subst hkl
      go_wp2
      go_ret
      refine ⟨?_, rfl⟩
      rw [He.out]; rfl
set_option maxHeartbeats 1000000 in
theorem Bits_any (A : Option Addr) (n c : Nat) (F : Nat → Prop) (bs : List Nat) (w : World) (hA : Arr w F A n (fun i => bV (bs.getD i 0))) (hlen : bs.length = n) (h256 : ∀ x ∈ bs, x < 256) (hn : n ≤ 140737488351232) :
    Calls Try.prog 15 #[.slice A n c] w fun e w' => e = .returned (.string (fstr (unpack bs))) ∧ w = w' := by
  have HA := Lib.hid hA; clear hA
  have Hlen := Lib.hid hlen; clear hlen
  have H256 := Lib.hid h256; clear h256
  go_enter Try.func15, Try.ntmps15
  go_wp2
  go_loopg [3, 4] n (fun gk s3 s4 wr => ∃ k : Nat, k ≤ n ∧ gk = n - k ∧ s3 = .string (fstr (unpack (bs.take k))) ∧ s4 = .int .i64 k ∧ w = wr)
  case atStart => exact ⟨0, by omega, by omega, rfl, rfl, rfl⟩
  case round =>
    obtain ⟨k, hk, rfl, rfl, rfl, rfl⟩ := hrel
    by_cases hlt : k < n
    · obtain ⟨a, rfl, _, hc⟩ := HA.out k hlt
      have hkb : k < bs.length := by rw [Hlen.out]; exact hlt
      obtain ⟨x, hx⟩ : ∃ x, x = bs.getD k 0 := ⟨_, rfl⟩
      have hx256 : x < 256 := by rw [hx]; exact H256.out _ (getD_mem _ _ hkb)
      dsimp only [bV] at hc
      rw [← hx] at hc
      have hts : unpack (bs.take (k + 1)) = unpack (bs.take k) ++ bitsOf 8 x := by
        have e1 : bs.take (k + 1) = bs.take k ++ [x] := by
          rw [List.take_add_one, List.getElem?_eq_getElem hkb, hx]
          simp [List.getElem?_eq_getElem hkb]
        rw [e1]
        simp [unpack]
      have Hts := Lib.hid hts; clear hts
      have Hx := Lib.hid hx; clear hx
      have hl : (unpack (bs.take k)).length ≤ 8 * n := by rw [unpack_length, List.length_take]; omega
      obtain ⟨M, hM⟩ : ∃ M, M = unpack (bs.take k) := ⟨_, rfl⟩
      rw [← hM] at hl Hts ⊢
      clear hM
      have hadd : ∀ w, (Op.stringOp .add (fstr M) (fstr (bitsOf 8 x))).run Try.prog w = .ok (.string (fstr (M ++ bitsOf 8 x))) w := fun w => fstr_add w M _ (by simp; omega)
      have hF := Field_ok 8 x
      have HF := Lib.hid hF; clear hF
      go_wp2_with (go_at_call 9; refine (HF.out _ (by omega) (by omega) (by omega)).mono ?_; rintro e w' ⟨rfl, rfl⟩)
      go_roundg (n - (k + 1))
      case measure => omega
      case rel => exact ⟨k + 1, by omega, rfl, by rw [Hts.out], by go_num, rfl⟩
    · have he : bs.take k = bs := List.take_of_length_le (by rw [Hlen.out]; omega)
      rw [he]
      go_wp2
      go_ret
      exact ⟨rfl, rfl⟩
end Go.Proofs.Ytemhcfbdpplcgaa
