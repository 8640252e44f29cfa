/-
  What the program's small functions of layer 7 do: ranges, the sectors of a slot, padding, two rows of bytes compared.
-/
import Derived.Test.YtjkpijinpfimiaaShP
import Derived.Test.YtjkpijinpfimiaaRefV
namespace Go.Proofs.Ytjkpijinpfimiaa
open Go.RowKit
set_option maxRecDepth 100000 in
set_option maxHeartbeats 1000000 in
theorem rightNumber_any (n : Int) (w : World) : Calls Try.prog 48 #[.int .i64 n] w fun e w' => e = .returned (.bool (decide (1 ≤ n ∧ n ≤ 65535))) ∧ w' = w := by
  rcases Int.lt_or_le n 1 with h | h
  · have h0 : decide (1 ≤ n) = false := by simp only [decide_eq_false_iff_not]; omega
    go_enter Try.func48, Try.ntmps48
    go_wp2_with fail
    go_ret
    exact ⟨by simp; omega, rfl⟩
  · have h0 : decide (1 ≤ n) = true := by simp only [decide_eq_true_eq]; omega
    rcases Int.lt_or_le n 65536 with k | k
    · have k0 : decide (n ≤ 65535) = true := by simp only [decide_eq_true_eq]; omega
      go_enter Try.func48, Try.ntmps48
      go_wp2_with fail
      go_ret
      exact ⟨by simp; omega, rfl⟩
    · have k0 : decide (n ≤ 65535) = false := by simp only [decide_eq_false_iff_not]; omega
      go_enter Try.func48, Try.ntmps48
      go_wp2_with fail
      go_ret
      exact ⟨by simp; omega, rfl⟩
set_option maxRecDepth 100000 in
set_option maxHeartbeats 1000000 in
theorem rightOp_any (n : Int) (w : World) : Calls Try.prog 49 #[.int .i64 n] w fun e w' => e = .returned (.bool (decide (1 ≤ n ∧ n ≤ 4))) ∧ w' = w := by
  rcases Int.lt_or_le n 1 with h | h
  · have h0 : decide (1 ≤ n) = false := by simp only [decide_eq_false_iff_not]; omega
    go_enter Try.func49, Try.ntmps49
    go_wp2_with fail
    go_ret
    exact ⟨by simp; omega, rfl⟩
  · have h0 : decide (1 ≤ n) = true := by simp only [decide_eq_true_eq]; omega
    rcases Int.lt_or_le n 5 with k | k
    · have k0 : decide (n ≤ 4) = true := by simp only [decide_eq_true_eq]; omega
      go_enter Try.func49, Try.ntmps49
      go_wp2_with fail
      go_ret
      exact ⟨by simp; omega, rfl⟩
    · have k0 : decide (n ≤ 4) = false := by simp only [decide_eq_false_iff_not]; omega
      go_enter Try.func49, Try.ntmps49
      go_wp2_with fail
      go_ret
      exact ⟨by simp; omega, rfl⟩
set_option maxRecDepth 100000 in
set_option maxHeartbeats 1000000 in
theorem rightSlot_any (n : Int) (w : World) : Calls Try.prog 39 #[.int .i64 n] w fun e w' => e = .returned (.bool (decide (0 ≤ n ∧ n ≤ 5))) ∧ w' = w := by
  rcases Int.lt_or_le n 0 with h | h
  · have h0 : decide (0 ≤ n) = false := by simp only [decide_eq_false_iff_not]; omega
    go_enter Try.func39, Try.ntmps39
    go_wp2_with fail
    go_ret
    exact ⟨by simp; omega, rfl⟩
  · have h0 : decide (0 ≤ n) = true := by simp only [decide_eq_true_eq]; omega
    rcases Int.lt_or_le n 6 with k | k
    · have k0 : decide (n < 6) = true := by simp only [decide_eq_true_eq]; omega
      go_enter Try.func39, Try.ntmps39
      go_wp2_with fail
      go_ret
      exact ⟨by simp; omega, rfl⟩
    · have k0 : decide (n < 6) = false := by simp only [decide_eq_false_iff_not]; omega
      go_enter Try.func39, Try.ntmps39
      go_wp2_with fail
      go_ret
      exact ⟨by simp; omega, rfl⟩
set_option maxRecDepth 100000 in
set_option maxHeartbeats 1000000 in
theorem slotSector_any (s : Int) (w : World) (h : 0 ≤ s ∧ s ≤ 5) : Calls Try.prog 41 #[.int .i64 s] w fun e w' => e = .returned (.int .i64 (3 + 2 * s)) ∧ w' = w := by
  have f1 : wrap64 (2 * s) = 2 * s := by unfold wrap64; omega
  have f2 : wrap64 (3 + 2 * s) = 3 + 2 * s := by unfold wrap64; omega
  go_enter Try.func41, Try.ntmps41
  go_wp2_with fail
  go_ret
  exact ⟨rfl, rfl⟩
set_option maxRecDepth 100000 in
set_option maxHeartbeats 1000000 in
theorem rightProduct_any (k o i s : Int) (w : World) : Calls Try.prog 58 #[.agg #[.int .i64 k, .int .i64 o, .int .i64 i, .int .i64 s]] w fun e w' => e = .returned (.bool (decide (En.mk k o i s).valid)) ∧ New w w' := by
  rcases Int.lt_or_le k 1 with h | h
  · have h0 : decide (1 ≤ k) = false := by simp only [decide_eq_false_iff_not]; omega
    have Hd : Hid (decide (En.mk k o i s).valid = false) := by show _ = _; simp only [decide_eq_false_iff_not, En.valid]; omega
    clear h
    go_enter Try.func58, Try.ntmps58
    go_wp2_with fail
    go_ret
    rw [Hd.out]
    exact ⟨rfl, (Chg.refl _ _).alloc _⟩
  · have h0 : decide (1 ≤ k) = true := by simp only [decide_eq_true_eq]; omega
    rcases Int.lt_or_le k 5 with h5 | h5
    · have k0 : decide (k < 5) = true := by simp only [decide_eq_true_eq]; omega
      by_cases ho : 1 ≤ o ∧ o ≤ 4
      · have Hd : Hid (decide (En.mk k o i s).valid = decide (1 ≤ i ∧ i ≤ 65535)) := by
          show _ = _
          rw [Bool.eq_iff_iff]
          simp only [decide_eq_true_eq, En.valid]
          omega
        have Ho := Lib.hid (decide_eq_true ho)
        obtain ⟨y, hy⟩ : ∃ y, y = decide (1 ≤ i ∧ i ≤ 65535) := ⟨_, rfl⟩
        have Hy := Lib.hid hy
        clear h h5 ho hy
        go_enter Try.func58, Try.ntmps58
        go_wp2_with fail
        with_reducible refine (rightOp_any o _).mono ?_
        rintro e w1 ⟨rfl, rfl⟩
        rw [Ho.out]
        go_wp2_with fail
        with_reducible refine (rightNumber_any i _).mono ?_
        rintro e w1 ⟨rfl, rfl⟩
        rw [← Hy.out]
        go_wp2_with fail
        go_ret
        rw [Hd.out, ← Hy.out]
        exact ⟨rfl, (Chg.refl _ _).alloc _⟩
      · have Hd : Hid (decide (En.mk k o i s).valid = false) := by show _ = _; simp only [decide_eq_false_iff_not, En.valid]; omega
        have Ho := Lib.hid (decide_eq_false ho)
        clear h h5 ho
        go_enter Try.func58, Try.ntmps58
        go_wp2_with fail
        with_reducible refine (rightOp_any o _).mono ?_
        rintro e w1 ⟨rfl, rfl⟩
        rw [Ho.out]
        go_wp2_with fail
        go_ret
        rw [Hd.out]
        exact ⟨rfl, (Chg.refl _ _).alloc _⟩
    · have k0 : decide (k < 5) = false := by simp only [decide_eq_false_iff_not]; omega
      have Hd : Hid (decide (En.mk k o i s).valid = false) := by show _ = _; simp only [decide_eq_false_iff_not, En.valid]; omega
      clear h h5
      go_enter Try.func58, Try.ntmps58
      go_wp2_with fail
      go_ret
      rw [Hd.out]
      exact ⟨rfl, (Chg.refl _ _).alloc _⟩
set_option maxRecDepth 100000 in
set_option maxHeartbeats 1000000 in
theorem padded_any (A : Option Addr) (n c : Nat) (F : Nat → Prop) (bs : List Nat) (L : Int) (m : Nat) (w : World) (hA : Arr w F A n (fun i => bV (bs.getD i 0))) (hF : ∀ k, F k → k < w.heap.size) (hl : bs.length = n) (hL : L = (m : Int)) (hm : m ≤ 1000) :
    Calls Try.prog 60 #[.slice A n c, .int .i64 L] w fun e w' => ∃ g, e = .returned (.slice (some ⟨g, 0, none⟩) m m) ∧ Hid (w.heap.size = g) ∧ Row w' g (pad m bs) ∧ New w w' := by
  have HA := Lib.hid hA; clear hA
  have Hl := Lib.hid hl; clear hl
  have HF := Lib.hid hF; clear hF
  have HL := Lib.hid hL; clear hL
  have Hm := Lib.hid hm; clear hm
  go_enter Try.func60, Try.ntmps60
  go_wp2_with (at_make; refine wpList_make_row rfl _ _ rfl L m rfl rfl HL.out Hm.out ?_)
  intro g w1 Hg hR1 hN1
  have HR1 := Lib.hid hR1; clear hR1
  have HN1 := Lib.hid hN1; clear hN1
  have HA1 := Lib.hid (HA.out.new HN1.out HF.out)
  go_wp2_with (refine wpList_copy_pad rfl _ _ rfl g m rfl A n c rfl HR1.out _ bs HA1.out Hl.out ?_)
  intro w2 hR2 hG2
  have HR2 := Lib.hid hR2; clear hR2
  have HN2 : Hid (New w w2) := HN1.out.trans hG2 (fun i hi h => by have := Hg.out; omega)
  clear hG2
  go_wp2_with fail
  go_ret
  exact ⟨g, rfl, Hg, HR2.out, HN2.out⟩
theorem eq_of_getD {a b : List Nat} {n : Nat} (ha : a.length = n) (hb : b.length = n) (h : ∀ t, t < n → a.getD t 0 = b.getD t 0) : a = b := by
  apply List.ext_getElem (by omega)
  intro t h1 h2
  have := h t (by omega)
  rw [List.getD_eq_getElem?_getD, List.getD_eq_getElem?_getD, List.getElem?_eq_getElem h1, List.getElem?_eq_getElem h2] at this
  simpa using this
set_option maxRecDepth 100000 in
set_option maxHeartbeats 2000000 in
/-- two rows of as many bytes -/
theorem Equal_any (A B : Option Addr) (n ca cb : Nat) (F : Nat → Prop) (bs cs : List Nat) (w : World) (hA : Arr w F A n (fun i => bV (bs.getD i 0))) (hB : Arr w F B n (fun i => bV (cs.getD i 0))) (hF : ∀ k, F k → k < w.heap.size) (hl : bs.length = n) (hl2 : cs.length = n) (hn : n ≤ 1000) (hb : ∀ x ∈ bs, x < 256) (hc : ∀ x ∈ cs, x < 256) :
    Calls Try.prog 65 #[.slice A n ca, .slice B n cb] w fun e w' => e = .returned (.bool (decide (bs = cs))) ∧ New w w' := by
  have HA := Lib.hid hA; clear hA
  have HB := Lib.hid hB; clear hB
  have HF := Lib.hid hF; clear hF
  have Hl := Lib.hid hl; clear hl
  have Hl2 := Lib.hid hl2; clear hl2
  have Hb := Lib.hid hb; clear hb
  have Hc := Lib.hid hc; clear hc
  go_enter Try.func65, Try.ntmps65
  go_wp2_with fail
  go_loopg [13] n (fun gk i wr => ∃ k : Nat, k ≤ n ∧ gk = n - k ∧ i = .int .i64 k ∧ (∀ t, t < k → bs.getD t 0 = cs.getD t 0) ∧ New w wr)
  case atStart => exact ⟨0, by omega, by omega, rfl, fun t ht => by omega, Chg.refl _ _⟩
  case round =>
    obtain ⟨k, hk, rfl, rfl, hs, hN⟩ := hrel
    have Hs := Lib.hid hs; clear hs
    by_cases hlt : k < n
    · obtain ⟨a, rfl, hab, h1⟩ := (HA.out.new hN HF.out) k hlt
      obtain ⟨b, rfl, hbb, h2⟩ := (HB.out.new hN HF.out) k hlt
      have HN := Lib.hid hN; clear hN hab hbb
      have hx1 := getD_lt bs Hb.out k
      have hy1 := getD_lt cs Hc.out k
      obtain ⟨x, hx⟩ : ∃ x, x = bs.getD k 0 := ⟨_, rfl⟩
      obtain ⟨y, hy⟩ : ∃ y, y = cs.getD k 0 := ⟨_, rfl⟩
      simp only [bV] at h1 h2
      rw [← hx] at h1 hx1
      rw [← hy] at h2 hy1
      have Hx := Lib.hid hx; clear hx
      have Hy := Lib.hid hy; clear hy
      by_cases hxy : x = y
      · have t0 : ((x : Int) == (y : Int)) = true := by simp; omega
        have t1 : ((x : Int) != (y : Int)) = false := by simp; omega
        have Hxy := Lib.hid hxy; clear hxy
        go_upto_region 6 with (fail)
        go_quiet (fail)
        go_wp2_with fail
        go_roundg (n - (k + 1))
        case measure => omega
        case rel =>
          refine ⟨k + 1, by omega, rfl, by go_num, fun t ht => ?_, HN.out.drewN _⟩
          rcases Nat.lt_or_ge t k with h | h
          · exact Hs.out t h
          · obtain rfl : t = k := by omega
            rw [← Hx.out, ← Hy.out]; exact Hxy.out
      · have t0 : ((x : Int) == (y : Int)) = false := by simp; omega
        have t1 : ((x : Int) != (y : Int)) = true := by simp; omega
        have Hd : Hid (decide (bs = cs) = false) := by
          show _ = _
          rw [decide_eq_false_iff_not]
          rintro h
          apply hxy
          rw [Hx.out, Hy.out, h]
        clear hxy
        go_upto_region 6 with (fail)
        go_quiet (fail)
        go_wp2_with fail
        go_ret
        rw [Hd.out]
        exact ⟨rfl, HN.out.drewN _⟩
    · obtain rfl : k = n := by omega
      have HN := Lib.hid hN; clear hN
      have Hd : Hid (decide (bs = cs) = true) := by
        show _ = _
        rw [decide_eq_true_eq]
        exact eq_of_getD Hl.out Hl2.out Hs.out
      go_wp2_with fail
      go_ret
      rw [Hd.out]
      exact ⟨rfl, HN.out⟩
set_option maxRecDepth 100000 in
set_option maxHeartbeats 1000000 in
/-- a sector, and what its checksum holds -/
theorem opened_any (g : Nat) (i : Int) (B : List Nat) (p : Int) (w : World) (hC : Cd w g B p) (hi : 0 ≤ i ∧ i < 16) :
    Calls Try.prog 62 #[.pointer (some ⟨g, 0, none⟩), .int .i64 i] w fun e w' => ∃ A c A' q c', e = .returned (.tuple #[.slice A 32 c, .slice A' q c', .int .i64 (openE (sec B i.toNat))]) ∧ q = (openB (sec B i.toNat)).length ∧ w'.ownsRow w.heap.size 5 1 (.slice A 32 c) 32 ((sec B i.toNat).map bV) ∧ w'.ownsRow w.heap.size 5 1 (.slice A' q c') q ((openB (sec B i.toNat)).map bV) ∧ New w w' := by
  have HC := Lib.hid hC; clear hC
  have Hi := Lib.hid hi; clear hi
  go_enter Try.func62, Try.ntmps62
  go_wp2_with fail
  with_reducible refine (Read_any g i B p w HC.out Hi.out).mono ?_
  rintro e w1 ⟨A, c, rfl, hO, hN⟩
  have HO := Lib.hid hO; clear hO
  have HN := Lib.hid hN; clear hN
  go_wp2_with fail
  with_reducible refine (Open_own A 32 c _ (sec B i.toNat) w1 HO.out (by omega) (sec_small HC.out.small)).mono ?_
  rintro e w2 ⟨A', q, c', rfl, hq, hO2, hN2⟩
  have HO1 := Lib.hid (own_new HO.out hN2)
  have HO2 : Hid (w2.ownsRow w.heap.size 5 1 (.slice A' q c') q ((openB (sec B i.toNat)).map bV)) := own_base hO2 (fun k hk => Nat.le_trans HN.out.size (hO2.lt k hk).1)
  have HN2 := Lib.hid (HN.out.then_new hN2)
  have Hq := Lib.hid hq
  clear hO2 hN2 hq
  obtain ⟨x, hx⟩ : ∃ x, x = openE (sec B i.toNat) := ⟨_, rfl⟩
  rw [← hx]
  have Hx := Lib.hid hx; clear hx
  go_wp2_with fail
  go_ret3
  have hx := Hx.out
  subst hx
  exact ⟨A, c, A', q, c', rfl, Hq.out, HO1.out, HO2.out, HN2.out⟩
end Go.Proofs.Ytjkpijinpfimiaa
