/-
  What stamp.Digits does, for every input.
-/
import Derived.Test.YtcnnakidpnhecaaStA
import Derived.Test.YtcnnakidpnhecaaDec
namespace Go.Proofs.Ytcnnakidpnhecaa
open Go.RowKit
set_option maxHeartbeats 400000 in
theorem Digits_no (n c : Int) (w : World) (h : c < 1 ∨ 18 < c ∨ n < 0) :
    Calls Try.prog 12 #[.int .i64 n, .int .i64 c] w fun e w' => e = .returned (.tuple #[.slice none 0 0, .int .i64 2]) ∧ w = w' := by
  by_cases h1 : c < 1
  · go_enter Try.func12, Try.ntmps12
    go_wp2
    go_ret2
    exact ⟨rfl, rfl⟩
  · have h1' : decide (c < 1) = false := by simpa using h1
    by_cases h2 : 18 < c
    · clear h
      go_enter Try.func12, Try.ntmps12
      go_wp2
      go_ret2
      exact ⟨rfl, rfl⟩
    · have h2' : decide (18 < c) = false := by simpa using h2
      have h3 : n < 0 := by omega
      clear h
      go_enter Try.func12, Try.ntmps12
      go_wp2
      go_ret2
      exact ⟨rfl, rfl⟩
def DigR (n c : Nat) (w : World) (e : Ending) (w' : World) : Prop :=
  New w w' ∧ if n < 10 ^ c then ∃ g, e = .returned (.tuple #[.slice (some ⟨g, 0, none⟩) ((c + 1) / 2) ((c + 1) / 2), .int .i64 0]) ∧ w'.ownsRow w.heap.size 5 1 (.slice (some ⟨g, 0, none⟩) ((c + 1) / 2) ((c + 1) / 2)) ((c + 1) / 2) ((dbytes n c ((c + 1) / 2)).map bV)
    else e = .returned (.tuple #[.slice none 0 0, .int .i64 2])
set_option maxHeartbeats 1000000 in
theorem Digits_any (n c : Nat) (w : World) (hn : n ≤ 9223372036854775807) (hc1 : 1 ≤ c) (hc2 : c ≤ 18) :
    Calls Try.prog 12 #[.int .i64 n, .int .i64 c] w (DigR n c w) := by
  obtain ⟨i0, hi, hz0, hz1, hz2⟩ := info_parts Try.info5
  obtain ⟨L, hL⟩ : ∃ L, L = (c + 1) / 2 := ⟨_, rfl⟩
  have hL1 : 2 * L ≤ c + 1 := by omega
  have hL2 : c ≤ 2 * L := by omega
  have hLi : ((c : Int) + 1) / 2 = (L : Int) := by omega
  have HL := Lib.hid hL; clear hL
  have h1' : decide ((c : Int) < 1) = false := by simp; omega
  have h2' : decide (18 < (c : Int)) = false := by simp; omega
  have h3' : decide ((n : Int) < 0) = false := by simp
  go_enter Try.func12, Try.ntmps12
  go_wp2_with (at_make; refine wpList_make_full _ rfl _ _ 22 rfl w.heap.size 5 i0 (.int .u8 0) 1 Try.underlying22 hi hz0 hz1 .i64 .i64 _ _ L rfl rfl ?m0 ?m0' ?m1 ?m2 ?m3 ?_)
  case m0 => exact hLi
  case m0' => exact hLi
  case m1 => rw [hz2]; omega
  case m2 => simp only [maxLen]; omega
  case m3 => exact Nat.le_refl _
  clear hLi
  intro wm hom hgm
  have hCm : New w wm := Chg.grown (Chg.refl _ _) hgm (by intro k hk; cases hk)
  have hom' : wm.ownsRow w.heap.size 5 1 (.slice (some ⟨w.heap.size, 0, none⟩) L L) L ((dbytes n 0 L).map bV) := by
    have e : (madeCells #[Value.int .u8 0] L).toList = (dbytes n 0 L).map bV := by
      rw [dbytes_zero, List.map_replicate]
      exact toList_madeCells_one _ _
    rw [← e]; exact hom
  obtain ⟨g, hg⟩ : ∃ g, g = w.heap.size := ⟨_, rfl⟩
  rw [← hg] at hom' ⊢
  have Hg := Lib.hid hg; clear hg hom hgm
  have HO := Lib.hid hom'; clear hom'
  have HC := Lib.hid hCm; clear hCm
  go_wp2
  go_loopg [0, 24] c (fun gk nn i wr => ∃ k N : Nat, k ≤ c ∧ gk = c - k ∧ i = .int .i64 k ∧ nn = .int .i64 N ∧ N = n / 10 ^ k ∧ wr.ownsRow g 5 1 (.slice (some ⟨g, 0, none⟩) L L) L ((dbytes n k L).map bV) ∧ New w wr)
  case atStart => exact ⟨0, n, by omega, by omega, rfl, rfl, by simp, HO.out, HC.out⟩
  case round =>
    clear HO HC
    obtain ⟨k, N, hk, rfl, rfl, rfl, hN, hO, hC⟩ := hrel
    have hNle : N ≤ n := by rw [hN]; exact Nat.div_le_self _ _
    have hNk : n / 10 ^ (k + 1) = N / 10 := by rw [hN, div10]
    have hNd : dig n k = N % 10 := by rw [hN]; rfl
    have HN := Lib.hid hN; clear hN
    have HNk := Lib.hid hNk; clear hNk
    have HNd := Lib.hid hNd; clear hNd
    have HO := Lib.hid hO; clear hO
    have HC := Lib.hid hC; clear hC
    by_cases hlt : k < c
    · have hq : k / 2 < L := by omega
      obtain ⟨q, hqq⟩ : ∃ q, q + k / 2 + 1 = L := ⟨L - 1 - k / 2, by omega⟩
      have hqi : (L : Int) - 1 - (k : Int) / 2 = (q : Int) := by omega
      have hqL : q < L := by omega
      have Hqq := Lib.hid hqq; clear hqq
      have hcell : wr.cell? ⟨g, q, none⟩ = some (.int .u8 ((dbyte n k (k / 2) : Nat) : Int)) := by
        rw [HO.out.cellAt q (by omega), List.getElem?_map, dbytes_get _ _ _ _ hqL]
        have : L - 1 - q = k / 2 := by have := Hqq.out; omega
        rw [this]; rfl
      have hfree : wr.frozen? ⟨g, q, none⟩ = false := HO.out.frozenAt _
      have hbl := dbyte_lt n k (k / 2)
      obtain ⟨x, hx⟩ : ∃ x, x = dbyte n k (k / 2) := ⟨_, rfl⟩
      rw [← hx] at hbl hcell
      have Hx := Lib.hid hx; clear hx
      go_wp2
      obtain ⟨D, hD⟩ : ∃ D, D = N % 10 := ⟨_, rfl⟩
      have hD10 : D < 10 := by omega
      have e1 : (N : Int).tmod 10 = (D : Int) := by rw [Int.tmod_eq_emod_of_nonneg (by omega)]; omega
      have e2 : IntKind.u8.wrap (D : Int) = (D : Int) := by rw [IntKind.wrap_u8]; omega
      have HD := Lib.hid hD; clear hD
      rcases Nat.mod_two_eq_zero_or_one k with hpar | hpar
      · have e4 : IntKind.i64.wrap 0 = 0 := IntWalk.i64_in _ (by omega)
        have e3 : (k : Int).tmod 2 = 0 := by rw [Int.tmod_eq_emod_of_nonneg (by omega)]; omega
        have Hpar := Lib.hid hpar; clear hpar
        refine wp_region_still_tail 13 (by kernel_rfl) (by kernel_rfl) ?_
        simp only [List.take_succ_cons, List.take_zero, List.drop_succ_cons, List.drop_zero]
        repeat still_step
        refine wpStill_nil ?_
        change wpList _ _ _ _ _ wr.drew
        clear e1 e2 e3 e4
        go_wp2
        go_roundg (c - (k + 1))
        case measure => omega
        case rel =>
          refine ⟨k + 1, N / 10, by omega, rfl, by go_num, by simp, HNk.out.symm, ?_, ?_⟩
          · have hor : bits BinOp.or IntKind.u8 (x : Int) (D : Int) = ((x ||| D * 1 : Nat) : Int) := by
              rw [show (D : Int) = ((D * 1 : Nat) : Int) by omega, u8_or_nat x _ (by omega) (by omega)]
            have hqe : L - 1 - k / 2 = q := by have := Hqq.out; omega
            rw [hor, dbytes_succ n k L hq, List.map_set, dbyte_even n k Hpar.out, ← Hx.out, HNd.out, ← HD.out, hqe]
            exact (HO.out.stored q _).1.drew
          · exact (HC.out.setCell (p := ⟨g, q, none⟩) (fun h => by have := Hg.out; dsimp only at h; omega) _).drew
      · have e4 : IntKind.i64.wrap 4 = 4 := IntWalk.i64_in _ (by omega)
        have e3 : (k : Int).tmod 2 = 1 := by rw [Int.tmod_eq_emod_of_nonneg (by omega)]; omega
        have Hpar := Lib.hid hpar; clear hpar
        refine wp_region_still_tail 13 (by kernel_rfl) (by kernel_rfl) ?_
        simp only [List.take_succ_cons, List.take_zero, List.drop_succ_cons, List.drop_zero]
        repeat still_step
        refine wpStill_nil ?_
        change wpList _ _ _ _ _ wr.drew
        clear e1 e2 e3 e4
        go_wp2
        go_roundg (c - (k + 1))
        case measure => omega
        case rel =>
          refine ⟨k + 1, N / 10, by omega, rfl, by go_num, by simp, HNk.out.symm, ?_, ?_⟩
          · have hor : bits BinOp.or IntKind.u8 (x : Int) ((D : Int) * 16) = ((x ||| D * 16 : Nat) : Int) := by
              rw [show ((D : Int) * 16) = ((D * 16 : Nat) : Int) by omega, u8_or_nat x _ (by omega) (by omega)]
            have hqe : L - 1 - k / 2 = q := by have := Hqq.out; omega
            rw [hor, dbytes_succ n k L hq, List.map_set, dbyte_odd n k Hpar.out, ← Hx.out, HNd.out, ← HD.out, hqe]
            exact (HO.out.stored q _).1.drew
          · exact (HC.out.setCell (p := ⟨g, q, none⟩) (fun h => by have := Hg.out; dsimp only at h; omega) _).drew
    · obtain rfl : k = c := by omega
      by_cases hN0 : N = 0
      · have hsm : n < 10 ^ k := by
          have h := HN.out
          rw [hN0] at h
          exact (Nat.div_eq_zero_iff_lt (Nat.pow_pos (by omega))).1 h.symm
        subst hN0
        have Hsm := Lib.hid hsm; clear hsm
        go_wp2
        go_ret2
        refine ⟨HC.out, ?_⟩
        rw [if_pos Hsm.out, ← HL.out, ← Hg.out]
        exact ⟨g, rfl, HO.out⟩
      · have hsm : ¬ n < 10 ^ k := by
          intro h
          exact hN0 (by rw [HN.out]; exact (Nat.div_eq_zero_iff_lt (Nat.pow_pos (by omega))).2 h)
        have Hsm := Lib.hid hsm; clear hsm
        have hN1 : 0 < N := by omega
        clear hN0
        go_wp2
        go_ret2
        refine ⟨HC.out, ?_⟩
        rw [if_neg Hsm.out]
        rfl
end Go.Proofs.Ytcnnakidpnhecaa
