/-
  What the law CardTears does: it returns true and turns nothing that was there.
-/
import Derived.Test.YtkecgfgeajkmmaaTear
import Derived.Test.YtkecgfgeajkmmaaOpenS
namespace Go.Proofs.Ytkecgfgeajkmmaa
open Go.RowKit
/-- one row of slices of bytes, in a later world -/
theorem Bytss.get {W : World} {A : Option Addr} {n : Nat} {L : Nat → List Nat} (h : Bytss W A n L) (i : Nat) (hi : i < n) : ∃ a LA ln lc, A = some a ∧ a.block < W.heap.size ∧ (L i).length = ln ∧ (∀ x ∈ L i, x < 256) ∧
    (∀ wx, New W wx → wx.cell? (a.add i) = some (.slice LA ln lc) ∧ Arr wx (· < W.heap.size) LA ln (fun j => bV ((L i).getD j 0))) := by
  obtain ⟨V, h1, h2⟩ := h
  obtain ⟨a, rfl, hb, hc⟩ := h1 i hi
  obtain ⟨⟨LA, lc, hv, hA, _, hs, _⟩, _⟩ := h2 i hi
  refine ⟨a, LA, _, lc, rfl, hb, rfl, hs, fun wx hx => ⟨?_, hA.new hx (fun k hk => hk)⟩⟩
  rw [← hv]
  exact (hx.cell (by rw [add_block]; exact hb) (fun f => f)).trans hc
set_option maxRecDepth 100000 in
set_option maxHeartbeats 4000000 in
theorem tears_walk (A : Option Addr) (n c : Nat) (i : Int) (L : Nat → List Nat) (w : World) (hL : Bytss w A n L) :
    Calls Try.prog 4 #[.slice A n c, .int .i64 i] w fun e w' => e = .returned (.bool true) ∧ New w w' := by
  have HL := Lib.hid hL; clear hL
  by_cases hbig : n ≤ 16
  case neg =>
    have hd : decide (16 < (n : Int)) = true := by simp only [decide_eq_true_eq]; omega
    go_enter Try.func4, Try.ntmps4
    go_wp2_with fail
    with_reducible refine (awake_any _).mono ?_
    rintro e w1 ⟨rfl, hN1⟩
    have HN1 := Lib.hid hN1; clear hN1
    go_wp2_with fail
    with_reducible refine (awake_any _).mono ?_
    rintro e w2 ⟨rfl, hN2⟩
    have HN2 := Lib.hid (HN1.out.then_new hN2); clear hN2
    go_wp2_with fail
    go_ret
    exact ⟨rfl, HN2.out⟩
  case pos =>
  obtain ⟨⟨j, hj, hj20⟩, hw⟩ := turn_any i 20 (by omega) (by omega)
  replace hj20 : j < 20 := by omega
  have Hj := Lib.hid hj; clear hj
  have Hw := Lib.hid hw; clear hw
  go_enter Try.func4, Try.ntmps4
  go_wp2_with fail
  with_reducible refine (awake_any _).mono ?_
  rintro e w1 ⟨rfl, hN1⟩
  have HN1 := Lib.hid hN1; clear hN1
  go_wp2_with fail
  with_reducible refine (NewC w1).mono ?_
  rintro e w2 ⟨g, rfl, Hg, hC2, hN2⟩
  have HC2 := Lib.hid hC2; clear hC2
  have HN2 := Lib.hid (HN1.out.then_new hN2); clear hN2
  have Hsm : Hid (w.heap.size ≤ g) := by have := Hg.out; have := HN1.out.size; show _ ≤ _; omega
  go_wp2_with fail
  rw [Hw.out, Hj.out]
  clear Hw Hj
  with_reducible refine (Power_any g _ _ j w2 HC2.out (by omega)).mono ?_
  rintro e w3 ⟨rfl, hC3, hG3⟩
  have HN3 : Hid (New w w3) := HN2.out.trans hG3 (fun i hi h => by have := Hsm.out; omega)
  have HC3 : Hid (Cd w3 g (stB L j 0) (stP j 0)) := by
    have e1 : stP j 0 = (j : Int) := by
      unfold stP
      by_cases h : 0 < j
      · rw [if_pos h]; omega
      · rw [if_neg h]; omega
    rw [e1]; exact hC3
  clear hC3 hG3 HN2 HC2
  go_wp2_with fail
  go_loopg [7] n (fun gk x wr => ∃ k : Nat, k ≤ n ∧ gk = n - k ∧ x = .int .i64 k ∧ Cd wr g (stB L j k) (stP j k) ∧ New w wr)
  case atStart => exact ⟨0, by omega, by omega, rfl, HC3.out, HN3.out⟩
  case round =>
    clear HC3 HN3
    obtain ⟨k, hk, rfl, rfl, hC, hN⟩ := hrel
    have HC := Lib.hid hC; clear hC
    have HN := Lib.hid hN; clear hN
    by_cases hlt : k < n
    · obtain ⟨a, LA, ln, lc, rfl, hab, hll, h256, hat⟩ := HL.out.get k hlt
      have Hll := Lib.hid hll; clear hll
      have H256 := Lib.hid h256; clear h256
      have Hat := Lib.hid hat; clear hat
      go_wp2_with (at_make; refine wpList_make_row rfl _ _ rfl 32 32 rfl rfl rfl (by omega) ?_)
      intro b w4 Hb hR4 hN4
      have HR4 := Lib.hid hR4; clear hR4
      have HC4 := Lib.hid (HC.out.new hN4)
      have Hbg : Hid (b ≠ g) := HR4.out.apart HC4.out
      have HN4 := Lib.hid (HN.out.then_new hN4); clear hN4
      have hcell := (Hat.out _ HN4.out).1
      have HA4 := Lib.hid (Hat.out _ HN4.out).2
      go_wp2_with (refine wpList_copy_pad rfl _ _ rfl b 32 rfl LA ln lc rfl HR4.out _ _ HA4.out Hll.out ?_)
      intro w5 hR5 hG5
      have HR5 := Lib.hid hR5; clear hR5
      have HC5 := Lib.hid (HC4.out.chg hG5 (fun h => Hbg.out h.symm))
      have HN5 : Hid (New w w5) := HN4.out.trans hG5 (fun i hi h => by have := Hb.out; have := HN.out.size; omega)
      clear hG5 hcell
      go_wp2_with fail
      with_reducible refine (Write_any g k _ _ _ (some ⟨b, 0, none⟩) 32 32 _ w5 HC5.out (HR5.out.arr (pad_len 32 _)) (fun k hk => by rw [hk]; exact ⟨Hbg.out, HR5.out.lt⟩) (pad_len 32 _) (pad_small 32 _ H256.out)).mono ?_
      rintro e w6 ⟨rfl, hC6, hG6⟩
      rw [(st_step L j k (by omega)).1, (st_step L j k (by omega)).2] at hC6
      rw [st_err j k (by omega)]
      have HC6 := Lib.hid hC6; clear hC6
      have HN6 : Hid (New w w6) := HN5.out.trans hG6 (fun i hi h => by have := Hsm.out; omega)
      clear hG6
      by_cases hkj : k < j
      · rw [if_pos hkj]
        go_wp2_with fail
        go_roundg (n - (k + 1))
        case measure => omega
        case rel => exact ⟨k + 1, by omega, rfl, by go_num, HC6.out, HN6.out⟩
      · rw [if_neg hkj]
        go_wp2_with fail
        go_roundg (n - (k + 1))
        case measure => omega
        case rel => exact ⟨k + 1, by omega, rfl, by go_num, HC6.out, HN6.out⟩
    · obtain rfl : k = n := by omega
      go_wp2_with fail
      go_loopg [10] 16 (fun gk x wy => ∃ t : Nat, t ≤ 16 ∧ gk = 16 - t ∧ x = .int .i64 t ∧ Cd wy g (stB L j k) (stP j k) ∧ New w wy)
      case atStart => exact ⟨0, by omega, by omega, rfl, HC.out, HN.out⟩
      case round =>
        clear HC HN
        obtain ⟨t, ht, rfl, rfl, hC, hN⟩ := hrel
        have HC := Lib.hid hC; clear hC
        have HN := Lib.hid hN; clear hN
        by_cases ht16 : t < 16
        · go_wp2_with fail
          with_reducible refine (Read_in g t _ _ _ HC.out ht16).mono ?_
          rintro e w4 ⟨A4, c4, rfl, hO4, hN4⟩
          rw [stB_sec L j t ht16 k (by omega)] at hO4
          have HO4 := Lib.hid hO4; clear hO4
          have HC4 := Lib.hid (HC.out.new hN4)
          have HN4 := Lib.hid (HN.out.then_new hN4); clear hN4
          go_wp2_with (at_make; refine wpList_make_row rfl _ _ rfl 32 32 rfl rfl rfl (by omega) ?_)
          intro b w5 Hb hR5 hN5
          have HR5 := Lib.hid hR5; clear hR5
          have HO5 := Lib.hid (own_new HO4.out hN5)
          have HC5 := Lib.hid (HC4.out.new hN5)
          have Hbg : Hid (b ≠ g) := HR5.out.apart HC5.out
          have HN5 := Lib.hid (HN4.out.then_new hN5); clear hN5
          have HBO := Lib.hid (HO4.out.lt)
          by_cases hc : t < j ∧ t < k
          · obtain ⟨h1, h2⟩ := hc
            obtain ⟨a, LA, ln, lc, rfl, hab, hll, h256, hat⟩ := HL.out.get t h2
            have hcell := (hat _ HN5.out).1
            have HA5 := Lib.hid (hat _ HN5.out).2
            have Hll := Lib.hid hll; clear hll
            have H256 := Lib.hid h256; clear h256 hat
            go_wp2_with (refine wpList_copy_pad rfl _ _ rfl b 32 rfl LA ln lc rfl HR5.out _ _ HA5.out Hll.out ?_)
            intro w6 hR6 hG6
            have HC6 := Lib.hid (HC5.out.chg hG6 (fun h => Hbg.out h.symm))
            have hO6 := own_chg HO5.out hG6 (fun q hq h => by have := (HBO.out q hq).2; have := Hb.out; omega)
            rw [if_pos ⟨h1, h2⟩] at hO6
            have hsx := own_str hO6
            have hsb : (convert 28 9 (.slice (some ⟨b, 0, none⟩) 32 32)).run Try.prog w6 = _ := hR6.string (pad_len 32 _) (pad_small 32 _ H256.out)
            have HN6 : Hid (New w w6) := HN5.out.trans hG6 (fun i hi h => by have := Hb.out; have := HN4.out.size; omega)
            clear hR6 hG6 hO6 hcell
            go_wp2_with fail
            go_roundg (16 - (t + 1))
            case measure => omega
            case rel => exact ⟨t + 1, by omega, rfl, by go_num, HC6.out, HN6.out⟩
          · have hO5 := HO5.out
            rw [if_neg hc] at hO5
            have hsx := own_str hO5
            have hsb : (convert 28 9 (.slice (some ⟨b, 0, none⟩) 32 32)).run Try.prog w5 = _ := HR5.out.string (zs_len 32) (zs_small 32)
            clear hO5
            by_cases h1 : t < j
            · have h2 : ¬ t < k := fun h => hc ⟨h1, h⟩
              clear hc
              go_wp2_with fail
              go_roundg (16 - (t + 1))
              case measure => omega
              case rel => exact ⟨t + 1, by omega, rfl, by go_num, HC5.out, HN5.out⟩
            · clear hc
              go_wp2_with fail
              go_roundg (16 - (t + 1))
              case measure => omega
              case rel => exact ⟨t + 1, by omega, rfl, by go_num, HC5.out, HN5.out⟩
        · obtain rfl : t = 16 := by omega
          go_wp2_with fail
          go_ret
          exact ⟨rfl, HN.out⟩
theorem tears_law {w : World} (A : Option Addr) (n c : Nat) (z : (∃ L, Bytss w A n L) ∧ n ≤ maxLen) (i : Int) (_wf : (Lit.int .i64 i).wf = true) :
    Calls Try.prog 4 #[.slice A n c, .int .i64 i] w fun e w' => e = .returned (.bool true) ∧ New w w' := by
  obtain ⟨⟨L, hL⟩, _⟩ := z
  exact tears_walk A n c i L w hL
end Go.Proofs.Ytkecgfgeajkmmaa
