/-
  What the document's own answer Bytes of layer 1 does; the bulk of a reading.
-/
import Derived.Test.YtemhcfbdpplcgaaLawE
namespace Go.Proofs.Ytemhcfbdpplcgaa
open Go.RowKit

def pre8 (L : List Bool) (i k : Nat) : Nat := numOf ((List.range k).map fun t => L.getD (i + t) false)
theorem pre8_succ (L : List Bool) (i k : Nat) : pre8 L i (k + 1) = 2 * pre8 L i k + (L.getD (i + k) false).toNat := by
  unfold pre8; rw [range_snoc, numOf_snoc]
theorem pre8_lt (L : List Bool) (i k : Nat) : pre8 L i k < 2 ^ k := by
  have := numOf_lt ((List.range k).map fun t => L.getD (i + t) false)
  simpa [pre8] using this
theorem pre8_byte (L : List Bool) (r : Nat) : pre8 L (8 * r) 8 = byteAt L r := rfl
theorem pack_take_succ (L : List Bool) (r : Nat) (h : 8 * r < L.length) : (pack L).take (r + 1) = (pack L).take r ++ [byteAt L r] := by
  rw [List.take_add_one, pack_get L r (by omega)]; rfl
set_option maxHeartbeats 2000000 in
theorem RefBytes_any (L : List Bool) (w : World) (hL : L.length ≤ 562949953421312) :
    Calls Try.prog 13 #[.string (fstr L)] w fun e w' => ∃ A' c', e = .returned (.slice A' (pack L).length c') ∧ w'.ownsRow w.heap.size 5 1 (.slice A' (pack L).length c') (pack L).length ((pack L).map bV) ∧ New w w' := by
  obtain ⟨i0, hi, hz0, hz1, hz2⟩ := info_parts Try.info5
  have hsz := fstr_size L
  go_enter Try.func13, Try.ntmps13
  go_wp2
  go_loopg [3, 4] (L.length + 8) (fun gk s3 s4 wr => ∃ (r i : Nat) (A' : Option Addr) (c' : Nat), i = 8 * r ∧ i < L.length + 8 ∧ gk = L.length + 8 - i ∧ s4 = .int .i64 i ∧ s3 = .slice A' r c' ∧ wr.ownsRow w.heap.size 5 1 (.slice A' r c') r (((pack L).take r).map bV) ∧ r ≤ (pack L).length ∧ New w wr)
  case atStart => exact ⟨0, 0, none, 0, rfl, by omega, by omega, rfl, rfl, World.ownsRow_nil _ _ _ _, by omega, Chg.refl _ _⟩
  case round =>
    obtain ⟨r, i, A', c', hir, hi8, rfl, rfl, rfl, hO, hrl, hN⟩ := hrel
    have Hir := Lib.hid hir; clear hir
    have HO := Lib.hid hO; clear hO
    have HN := Lib.hid hN; clear hN
    by_cases hlt : i < L.length
    · go_wp2
      go_loopg [5, 6] 8 (fun gk s5 s6 wx => wr = wx ∧ ∃ (k u : Nat), k ≤ 8 ∧ gk = 8 - k ∧ s6 = .int .i64 k ∧ s5 = .int .i64 u ∧ u = pre8 L i k)
      case atStart => exact ⟨rfl, 0, 0, by omega, by omega, rfl, rfl, rfl⟩
      case round =>
        obtain ⟨rfl, k, u, hk, rfl, rfl, rfl, hu⟩ := hrel
        have hul : u < 256 := by
          rw [hu]
          exact Nat.lt_of_lt_of_le (pre8_lt L i k) (Nat.pow_le_pow_right (n := 2) (by omega) hk)
        have Hu := Lib.hid hu; clear hu
        by_cases hk8 : k < 8
        · have hs := pre8_succ L i k
          have Hs := Lib.hid hs; clear hs
          by_cases hin : i + k < L.length
          · have hin' : i + k < (fstr L).size := by omega
            have hg := fstr_get L (i + k) hin'
            have hd1 : (i : Int) + (k : Int) < (L.length : Int) := by omega
            cases hb : L.getD (i + k) false with
            | true =>
              rw [hb] at hg
              have Hb := Lib.hid hb; clear hb
              simp only [if_true] at hg
              have hcmp : (((fstr L)[i + k].toNat : Int) == 49) = true := by rw [hg]; rfl
              clear hg
              go_wp2
              go_roundg (8 - (k + 1))
              case measure => omega
              case rel => exact ⟨rfl, k + 1, 2 * u + 1, by omega, rfl, by go_num, by go_num, by rw [Hs.out, ← Hu.out, Hb.out]; rfl⟩
            | false =>
              rw [hb] at hg
              have Hb := Lib.hid hb; clear hb
              simp only [Bool.false_eq_true, if_false] at hg
              have hcmp : (((fstr L)[i + k].toNat : Int) == 49) = false := by rw [hg]; rfl
              clear hg
              go_wp2
              go_roundg (8 - (k + 1))
              case measure => omega
              case rel => exact ⟨rfl, k + 1, 2 * u, by omega, rfl, by go_num, by go_num, by rw [Hs.out, ← Hu.out, Hb.out]; rfl⟩
          · have hb : L.getD (i + k) false = false := getD_past L _ (by omega)
            have Hb := Lib.hid hb; clear hb
            have hd1 : decide ((i : Int) + (k : Int) < (L.length : Int)) = false := by simp; omega
            go_wp2
            go_roundg (8 - (k + 1))
            case measure => omega
            case rel => exact ⟨rfl, k + 1, 2 * u, by omega, rfl, by go_num, by go_num, by rw [Hs.out, ← Hu.out, Hb.out]; rfl⟩
        · obtain rfl : k = 8 := by omega
          have hub : u = byteAt L r := by rw [Hu.out, Hir.out, pre8_byte]
          have Hub := Lib.hid hub; clear hub
          have hub' : IntKind.u8.wrap (u : Int) = (u : Int) := IntWalk.u8_in _ (by omega)
          have hr1 : r < (pack L).length := by simp; have := Hir.out; omega
          have hpl : (pack L).length ≤ 70368744177665 := by simp; omega
          go_wp2_with (at_builtin; refine wpList_append_one rfl _ _ 24 rfl w.heap.size 5 i0 (.int .u8 0) 1 1 Try.underlying24 hi hz0 hz1 hz2 rfl (by decide) _ r (((pack L).take r).map bV) rfl HO.out #[_] rfl rfl ?a1 ?a2 ?a3 ?a4 ?_)
          case a1 => first | rfl | (intro u hu; simp at hu; subst hu; rfl)
          case a2 => simp only [maxLen]; omega
          case a3 => omega
          case a4 => exact HN.out.size
          intro A2 c2 w2 hO2 hC2 _
          have HO2 : Hid (w2.ownsRow w.heap.size 5 1 (.slice A2 (r + 1) c2) (r + 1) (((pack L).take (r + 1)).map bV)) := by
            rw [pack_take_succ L r (by have := Hir.out; omega), List.map_append, ← Hub.out, List.map_take]
            exact hO2
          have HN2 : Hid (New w w2) := HN.out.trans hC2 (fun i hi hk => by have := (HO.out.lt i hk).1; omega)
          clear hO2 hC2
          go_wp2
          go_roundg (L.length + 8 - (i + 8))
          case measure => omega
          case rel => exact ⟨r + 1, i + 8, A2, c2, by have := Hir.out; omega, by omega, rfl, by go_num, rfl, HO2.out, by omega, HN2.out⟩
    · have hrl2 : r = (pack L).length := by simp at hrl ⊢; have := Hir.out; omega
      have ht : (pack L).take r = pack L := List.take_of_length_le (by omega)
      rw [ht] at HO
      have Hrl2 := Lib.hid hrl2; clear hrl2 ht
      go_wp2
      go_ret
      refine ⟨A', c', ?_, ?_, HN.out⟩
      · rw [← Hrl2.out]; rfl
      · have := HO.out; rw [Hrl2.out] at this; exact this
theorem bulk_pos {H : Type} (d : DataW H) : 1 ≤ Rows.uptoBulk d := by
  cases d with
  | lit l => cases l <;> simp [Rows.uptoBulk]
  | _ => simp [Rows.uptoBulk]
theorem bulk_len {H : Type} : ∀ ds : List (DataW H), ds.length ≤ Rows.uptoBulkAll ds
  | [] => by simp [Rows.uptoBulkAll]
  | d :: ds => by
    have := bulk_len ds
    have := bulk_pos d
    simp only [Rows.uptoBulkAll, List.length_cons]; omega
theorem bulk_mem {H : Type} : ∀ {ds : List (DataW H)} {d : DataW H}, d ∈ ds → Rows.uptoBulk d ≤ Rows.uptoBulkAll ds
  | d0 :: ds, d, hd => by
    simp only [Rows.uptoBulkAll]
    rcases List.mem_cons.1 hd with rfl | hd
    · omega
    · have := bulk_mem hd; omega
end Go.Proofs.Ytemhcfbdpplcgaa
