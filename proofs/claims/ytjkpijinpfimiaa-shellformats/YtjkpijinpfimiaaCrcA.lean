/-
  What crc.stirred, crc.Sum and the document's own sum come to, for every input.
-/
import Derived.Test.YtjkpijinpfimiaaSeqB
import Derived.Test.YtjkpijinpfimiaaCrc
namespace Go.Proofs.Ytjkpijinpfimiaa
open Go.RowKit
theorem crc_take (s : Nat) (bs : List Nat) (j : Nat) (h : j < bs.length) : crc s (bs.take (j + 1)) = stir (crc s (bs.take j)) (bs.getD j 0) := by
  rw [List.take_add_one, List.getElem?_eq_getElem h, Option.toList_some, crc_append]
  simp [crc, List.getD_eq_getElem?_getD, List.getElem?_eq_getElem h]
set_option maxRecDepth 100000 in
set_option maxHeartbeats 1000000 in
theorem stirred_any (s x : Nat) (w : World) (hs : s < 65536) (hx : x < 256) :
    Calls Try.prog 89 #[.int .u16 s, .int .u8 x] w fun e w' => e = .returned (.int .u16 (stir s x)) ∧ w' = w := by
  obtain ⟨y, hy⟩ : ∃ y, y = s ^^^ (256 * x) := ⟨_, rfl⟩
  have hys : y < 65536 := by rw [hy]; exact xor_lt16 hs (by omega)
  have e0 : bits .xor .u16 (s : Int) ((x : Int) * 256) = (y : Int) := by
    have h := u16_xor_nat s (256 * x) hs (by omega)
    rw [← hy, Int.natCast_mul, Int.mul_comm] at h
    exact h
  have Hy := Lib.hid hy; clear hy
  go_enter Try.func89, Try.ntmps89
  go_wp2_with fail
  go_loopg [0, 11] 8 (fun gk a i wr => ∃ k : Nat, k ≤ 8 ∧ gk = 8 - k ∧ a = .int .u16 (ticks k y : Nat) ∧ i = .int .i64 k ∧ wr = w)
  case atStart => exact ⟨0, by omega, by omega, rfl, rfl, rfl⟩
  case round =>
    obtain ⟨k, hk, rfl, rfl, rfl, rfl⟩ := hrel
    by_cases hlt : k < 8
    · have hu := ticks_lt k y hys
      have HT : Hid (ticks (k + 1) y = tick (ticks k y)) := rfl
      obtain ⟨u, hue⟩ : ∃ u, u = ticks k y := ⟨_, rfl⟩
      rw [← hue] at hu HT ⊢
      clear hue e0
      by_cases hb : 32768 ≤ u
      · have hT : tick u = (2 * u - 65536) ^^^ 4129 := by
          unfold tick; rw [if_pos hb, show 2 * u % 65536 = 2 * u - 65536 by omega]
        have f1 : IntKind.u16.wrap ((u : Int) * 2) = ((2 * u - 65536 : Nat) : Int) := by rw [IntKind.wrap_u16]; omega
        have f2 := u16_xor_nat (2 * u - 65536) 4129 (by omega) (by omega)
        rw [← hT] at f2
        have f2' : bits .xor .u16 ((2 * u - 65536 : Nat) : Int) 4129 = (tick u : Int) := f2
        have HTT := Lib.hid hT; clear hT f2
        obtain ⟨v, hv⟩ : ∃ v, v = 2 * u - 65536 := ⟨_, rfl⟩
        rw [← hv] at f1 f2'
        clear hv
        have hB : decide ((u : Int) ≥ 32768) = true := by simp only [ge_iff_le, decide_eq_true_eq]; omega
        have hB' : decide ((32768 : Int) ≤ (u : Int)) = true := by simp only [decide_eq_true_eq]; omega
        clear hu hb
        go_wp2
        go_roundg (8 - (k + 1))
        case measure => omega
        case rel => exact ⟨k + 1, by omega, rfl, by rw [HT.out], by go_num, rfl⟩
      · have hT : tick u = 2 * u := tick_small (by omega)
        have f1 : IntKind.u16.wrap ((u : Int) * 2) = ((2 * u : Nat) : Int) := by rw [IntKind.wrap_u16]; omega
        have HTT := Lib.hid hT; clear hT
        obtain ⟨v, hv⟩ : ∃ v, v = 2 * u := ⟨_, rfl⟩
        rw [← hv] at f1 HTT
        clear hv
        have hB : decide ((u : Int) ≥ 32768) = false := by simp only [ge_iff_le, decide_eq_false_iff_not]; omega
        have hB' : decide ((32768 : Int) ≤ (u : Int)) = false := by simp only [decide_eq_false_iff_not]; omega
        clear hu hb
        go_wp2
        go_roundg (8 - (k + 1))
        case measure => omega
        case rel => exact ⟨k + 1, by omega, rfl, by rw [HT.out, HTT.out], by go_num, rfl⟩
    · obtain rfl : k = 8 := by omega
      go_wp2
      go_ret
      refine ⟨?_, rfl⟩
      rw [stir, ← Hy.out]
      rfl
set_option maxRecDepth 100000 in
set_option maxHeartbeats 1000000 in
theorem Sum_any (A : Option Addr) (n c : Nat) (F : Nat → Prop) (L : List (List Nat)) (w : World) (hA : Lists w F A L) (hn : L.length = n) (hb : n ≤ 1000) :
    Calls Try.prog 83 #[.slice A n c] w fun e w' => e = .returned (.int .i64 (crc 65535 L.flatten : Nat)) ∧ w' = w := by
  obtain ⟨vs, hV, hB⟩ := hA
  rw [hn] at hV hB
  have HV := Lib.hid hV; clear hV
  have HB := Lib.hid hB; clear hB
  have Hn := Lib.hid hn; clear hn
  go_enter Try.func83, Try.ntmps83
  go_wp2_with fail
  go_loopg [3, 10] n (fun gk a i wr => ∃ k : Nat, k ≤ n ∧ gk = n - k ∧ a = .int .u16 (crc 65535 (L.take k).flatten : Nat) ∧ i = .int .i64 k ∧ wr = w)
  case atStart => exact ⟨0, by omega, by omega, rfl, rfl, rfl⟩
  case round =>
    obtain ⟨k, hk, rfl, rfl, rfl, rfl⟩ := hrel
    by_cases hlt : k < n
    · obtain ⟨a, rfl, _, hc⟩ := HV.out k hlt
      obtain ⟨B, cb, hve, hBA, _, h256, hbb⟩ := HB.out k hlt
      rw [hve] at hc
      have HF : Hid ((L.take (k + 1)).flatten = (L.take k).flatten ++ L.getD k []) := flat_take L k (by rw [Hn.out]; exact hlt)
      obtain ⟨bs, hbs⟩ : ∃ bs, bs = L.getD k [] := ⟨_, rfl⟩
      rw [← hbs] at hc hBA h256 HF hbb
      clear hbs hve
      obtain ⟨m, hm⟩ : ∃ m, m = bs.length := ⟨_, rfl⟩
      rw [← hm] at hc hBA hbb
      have Hm := Lib.hid hm; clear hm
      have HBA := Lib.hid hBA; clear hBA
      have H256 := Lib.hid h256; clear h256
      have hs0 := crc_lt (L.take k).flatten 65535 (by omega)
      obtain ⟨s0, hs0e⟩ : ∃ s0, s0 = crc 65535 (L.take k).flatten := ⟨_, rfl⟩
      rw [← hs0e] at hs0 ⊢
      have Hs0e := Lib.hid hs0e; clear hs0e
      go_wp2_with fail
      clear hc
      go_loopg [3, 16] m (fun gk a i wx => ∃ j : Nat, j ≤ m ∧ gk = m - j ∧ a = .int .u16 (crc s0 (bs.take j) : Nat) ∧ i = .int .i64 j ∧ wx = wr)
      case atStart => exact ⟨0, by omega, by omega, rfl, rfl, rfl⟩
      case round =>
        obtain ⟨j, hj, rfl, rfl, rfl, rfl⟩ := hrel
        by_cases hjl : j < m
        · obtain ⟨b, rfl, _, hc⟩ := HBA.out j hjl
          have hx : bs.getD j 0 < 256 := by
            have hl : j < bs.length := by rw [← Hm.out]; exact hjl
            rw [List.getD_eq_getElem?_getD, List.getElem?_eq_getElem hl]
            exact H256.out _ (List.getElem_mem hl)
          have HT : Hid (crc s0 (bs.take (j + 1)) = stir (crc s0 (bs.take j)) (bs.getD j 0)) := crc_take s0 bs j (by rw [← Hm.out]; exact hjl)
          have hs1 := crc_lt (bs.take j) s0 hs0
          obtain ⟨s1, hs1e⟩ : ∃ s1, s1 = crc s0 (bs.take j) := ⟨_, rfl⟩
          obtain ⟨x, hxe⟩ : ∃ x, x = bs.getD j 0 := ⟨_, rfl⟩
          rw [← hs1e] at hs1 HT ⊢
          change _ = some (bV (bs.getD j 0)) at hc
          rw [← hxe] at hx HT hc
          have hc' : wr.cell? (b.add j) = some (.int .u8 (x : Int)) := hc
          clear hs1e hxe hc
          go_wp2_with fail
          with_reducible refine (stirred_any s1 x wr hs1 hx).mono ?_
          rintro e w' ⟨rfl, rfl⟩
          go_wp2
          go_roundg (m - (j + 1))
          case measure => omega
          case rel => exact ⟨j + 1, by omega, rfl, by rw [HT.out], by go_num, rfl⟩
        · obtain rfl : j = m := by omega
          go_wp2
          go_roundg (n - (k + 1))
          case measure => omega
          case rel =>
            refine ⟨k + 1, by omega, rfl, ?_, by go_num, rfl⟩
            rw [HF.out, crc_append, ← Hs0e.out, List.take_of_length_le (by rw [Hm.out]; omega)]
    · obtain rfl : k = n := by omega
      go_wp2
      go_ret
      refine ⟨?_, rfl⟩
      rw [List.take_of_length_le (by rw [Hn.out]; omega)]
      have hl := crc_lt L.flatten 65535 (by omega)
      rw [w64 _ (by omega) (by omega)]
      rfl
set_option maxRecDepth 100000 in
set_option maxHeartbeats 1000000 in
theorem refSum_any (A : Option Addr) (n c : Nat) (F : Nat → Prop) (bs : List Nat) (w : World) (hA : Arr w F A n (fun i => bV (bs.getD i 0))) (hl : bs.length = n) (h256 : ∀ x ∈ bs, x < 256) (hb : n ≤ 140737488355328) :
    Calls Try.prog 53 #[.slice A n c] w fun e w' => e = .returned (.int .i64 (crc 65535 bs : Nat)) ∧ w' = w := by
  have HA := Lib.hid hA; clear hA
  have Hl := Lib.hid hl; clear hl
  have H256 := Lib.hid h256; clear h256
  go_enter Try.func53, Try.ntmps53
  go_wp2_with fail
  go_loopg [3, 4] n (fun gk a i wr => ∃ j : Nat, j ≤ n ∧ gk = n - j ∧ a = .int .i64 (crc 65535 (bs.take j) : Nat) ∧ i = .int .i64 j ∧ wr = w)
  case atStart => exact ⟨0, by omega, by omega, rfl, rfl, rfl⟩
  case round =>
    obtain ⟨j, hj, rfl, rfl, rfl, rfl⟩ := hrel
    by_cases hlt : j < n
    · obtain ⟨b, rfl, _, hc⟩ := HA.out j hlt
      change _ = some (bV (bs.getD j 0)) at hc
      have hx : bs.getD j 0 < 256 := by
        have hl : j < bs.length := by rw [Hl.out]; exact hlt
        rw [List.getD_eq_getElem?_getD, List.getElem?_eq_getElem hl]
        exact H256.out _ (List.getElem_mem hl)
      have HT : Hid (crc 65535 (bs.take (j + 1)) = stir (crc 65535 (bs.take j)) (bs.getD j 0)) := crc_take 65535 bs j (by rw [Hl.out]; exact hlt)
      have hs := crc_lt (bs.take j) 65535 (by omega)
      obtain ⟨s, hse⟩ : ∃ s, s = crc 65535 (bs.take j) := ⟨_, rfl⟩
      obtain ⟨x, hxe⟩ : ∃ x, x = bs.getD j 0 := ⟨_, rfl⟩
      rw [← hse] at hs HT ⊢
      rw [← hxe] at hx HT hc
      have hc' : wr.cell? (b.add j) = some (.int .u8 (x : Int)) := hc
      clear hse hxe hc
      obtain ⟨y, hy⟩ : ∃ y, y = s ^^^ (256 * x) := ⟨_, rfl⟩
      have hys : y < 65536 := by rw [hy]; exact xor_lt16 hs (by omega)
      have e0 : bits .xor .i64 (s : Int) ((x : Int) * 256) = (y : Int) := by
        have h := i64_xor_small s (256 * x) (by omega) (by omega)
        rw [← hy, Int.natCast_mul, Int.mul_comm] at h
        exact h
      have Hst : Hid (stir s x = ticks 8 y) := by rw [Hid, stir, ← hy]
      clear hy
      go_wp2_with fail
      clear e0 hc'
      go_loopg [3, 5] 8 (fun gk a i wx => ∃ k : Nat, k ≤ 8 ∧ gk = 8 - k ∧ a = .int .i64 (ticks k y : Nat) ∧ i = .int .i64 k ∧ wx = wr)
      case atStart => exact ⟨0, by omega, by omega, rfl, rfl, rfl⟩
      case round =>
        obtain ⟨k, hk, rfl, rfl, rfl, rfl⟩ := hrel
        by_cases hkl : k < 8
        · have hu := ticks_lt k y hys
          have HTk : Hid (ticks (k + 1) y = tick (ticks k y)) := rfl
          obtain ⟨u, hue⟩ : ∃ u, u = ticks k y := ⟨_, rfl⟩
          rw [← hue] at hu HTk ⊢
          clear hue
          obtain ⟨v, hv⟩ : ∃ v, v = 2 * u := ⟨_, rfl⟩
          have f1 : 2 * (u : Int) = (v : Int) := by omega
          have f0 : IntKind.i64.wrap (v : Int) = (v : Int) := IntWalk.i64_in _ (by omega)
          by_cases hbig : 32768 ≤ u
          · obtain ⟨z, hz⟩ : ∃ z, z = v ^^^ 4129 := ⟨_, rfl⟩
            have hT : tick u = z % 65536 := by
              unfold tick
              rw [if_pos hbig, hz, ← hv]
              have := Nat.xor_mod_two_pow (a := v) (b := 4129) (n := 16)
              exact this.symm
            have f2 : bits .xor .i64 (v : Int) 4129 = (z : Int) := by rw [hz]; exact i64_xor_small v 4129 (by omega) (by omega)
            have f3 : Int.tmod (z : Int) 65536 = ((tick u : Nat) : Int) := by rw [hT]; rfl
            have hB' : decide ((32768 : Int) ≤ (u : Int)) = true := by simp only [decide_eq_true_eq]; omega
            clear hT hz hv hu hbig
            go_wp2
            go_roundg (8 - (k + 1))
            case measure => omega
            case rel => exact ⟨k + 1, by omega, rfl, by rw [HTk.out], by go_num, rfl⟩
          · have hT : tick u = v := by rw [tick_small (by omega), hv]
            have f3 : Int.tmod (v : Int) 65536 = ((tick u : Nat) : Int) := by rw [hT]; exact Int.tmod_eq_of_lt (by omega) (by omega)
            have hB' : decide ((32768 : Int) ≤ (u : Int)) = false := by simp only [decide_eq_false_iff_not]; omega
            clear hT hv hu hbig
            go_wp2
            go_roundg (8 - (k + 1))
            case measure => omega
            case rel => exact ⟨k + 1, by omega, rfl, by rw [HTk.out], by go_num, rfl⟩
        · obtain rfl : k = 8 := by omega
          go_wp2
          go_roundg (n - (j + 1))
          case measure => omega
          case rel => exact ⟨j + 1, by omega, rfl, by rw [HT.out, Hst.out], by go_num, rfl⟩
    · obtain rfl : j = n := by omega
      go_wp2
      go_ret
      refine ⟨?_, rfl⟩
      rw [List.take_of_length_le (by rw [Hl.out]; omega)]
      rfl
end Go.Proofs.Ytjkpijinpfimiaa
