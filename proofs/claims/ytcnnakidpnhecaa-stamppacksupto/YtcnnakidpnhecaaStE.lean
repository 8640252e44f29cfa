/-
  What stamp.Latest does, for every input within the stated bounds.
-/
import Derived.Test.YtcnnakidpnhecaaAwake
import Derived.Deep.SlicePairs
namespace Go.Proofs.Ytcnnakidpnhecaa
open Go.RowKit
set_option maxHeartbeats 1000000 in
theorem Latest_none (A : Option Addr) (c : Nat) (w : World) :
    Calls Try.prog 25 #[.slice A 0 c] w fun e w' => e = .returned (.tuple #[.agg #[.int .i64 0, .int .i64 0], .bool false]) ∧ New w w' := by
  go_enter Try.func25, Try.ntmps25
  go_wp2
  exact bodyPost_ret (v := .tuple #[.agg #[.int .i64 0, .int .i64 0], .bool false]) (by simp [results, Try.results25, go_sem]) rfl ⟨rfl, by repeat (first | exact Chg.refl _ _ | refine Chg.alloc ?_ _ | refine Chg.drew ?_)⟩
set_option maxHeartbeats 1000000 in
theorem Latest_no (F : Nat → Prop) (A : Option Addr) (n c : Nat) (fd fm : Nat → Int) (w : World) (hA : Flds w F A n fd fm) (hF : ∀ k, F k → k < w.heap.size) (hn : n ≤ 9223372036854775807) (j : Nat) (hj : j < n) (hbad : rightB (fd j) (fm j) = false) :
    Calls Try.prog 25 #[.slice A n c] w fun e w' => e = .returned (.tuple #[.agg #[.int .i64 0, .int .i64 0], .bool false]) ∧ New w w' := by
  have hN : New w (w.alloc (.cells #[.int .i64 0, .int .i64 0] 38)) := (Chg.refl _ _).alloc _
  have H := Lib.hid (allRight_no F A n c fd fm _ (hA.chg hN (fun k hk => ⟨hF k hk, fun f => f⟩)) (fun k hk => Nat.lt_of_lt_of_le (hF k hk) hN.size) hn j hj hbad)
  have h0 : ((n : Int) == 0) = false := by rw [beq_eq_false_iff_ne]; omega
  have hst := Has.new w 38 #[.int .i64 0, .int .i64 0]
  have HST := Lib.hid hst; clear hst
  clear hA hF hbad
  go_enter Try.func25, Try.ntmps25
  go_wp2_with fail
  with_reducible refine H.out.mono ?_
  rintro e w1 ⟨rfl, hN1⟩
  have hs1 := HST.out.keep hN1
  have hc0 := hs1.cell 0
  have hc1 := hs1.cell 1
  have hf0 := hs1.free 0
  have hf1 := hs1.free 1
  simp at hc0 hc1
  have HN1 := Lib.hid hN1; clear hN1
  have HS1 := Lib.hid hs1; clear hs1
  go_wp2
  have hs2 := (HS1.out.set 0 (.int .i64 0)).set 1 (.int .i64 0)
  have hd0 := hs2.cell 0
  have hd1 := hs2.cell 1
  simp at hd0 hd1
  refine bodyPost_ret (v := .tuple #[.agg #[.int .i64 0, .int .i64 0], .bool false]) (by simp [results, Try.results25, go_sem, hd0, hd1]) rfl ⟨rfl, ?_⟩
  exact ((Chg.new_then hN HN1.out).setCell (p := ⟨w.heap.size, 0, none⟩) (fun h => absurd h (Nat.lt_irrefl _)) _).setCell (p := ⟨w.heap.size, 1, none⟩) (fun h => absurd h (Nat.lt_irrefl _)) _
theorem Flds.tail {w : World} {F : Nat → Prop} {a : Addr} {n : Nat} {fw fv : Nat → Int} (h : Flds w F (some a) n fw fv) : Flds w F (some (a.add 2)) (n - 1) (fun i => fw (i + 1)) (fun i => fv (i + 1)) := by
  intro i hi
  obtain ⟨a', ha, hb, h1, h2⟩ := h (i + 1) (by omega)
  simp only [Option.some.injEq] at ha
  subst ha
  have e : (a.add 2).add (i * 2) = a.add ((i + 1) * 2) := by
    rw [Deep.add_add]; congr 1; omega
  refine ⟨_, rfl, by rw [add_block]; exact hb, ?_, ?_⟩
  · rw [e]; exact h1
  · rw [e]; exact h2
def tm (fd fm : Nat → Int) (i : Nat) : Int := fd i * 1440 + fm i
/-- the first of the latest -/
def Late (fd fm : Nat → Int) (n j : Nat) : Prop := j < n ∧ (∀ i, i < n → tm fd fm i ≤ tm fd fm j) ∧ (∀ i, i < j → tm fd fm i < tm fd fm j)
theorem Late.one (fd fm : Nat → Int) : Late fd fm 1 0 := ⟨by omega, fun i hi => by obtain rfl : i = 0 := by omega
                                                                                   exact Int.le_refl _, fun i hi => by omega⟩
theorem Late.same {fd fm : Nat → Int} {n j : Nat} (h : Late fd fm n j) (hle : ¬ tm fd fm j < tm fd fm n) : Late fd fm (n + 1) j :=
  ⟨by have := h.1; omega, fun i hi => by
    rcases Nat.lt_succ_iff_lt_or_eq.1 hi with h1 | rfl
    · exact h.2.1 i h1
    · omega, h.2.2⟩
theorem Late.turn {fd fm : Nat → Int} {n j : Nat} (h : Late fd fm n j) (hlt : tm fd fm j < tm fd fm n) : Late fd fm (n + 1) n :=
  ⟨by omega, fun i hi => by
    rcases Nat.lt_succ_iff_lt_or_eq.1 hi with h1 | rfl
    · have := h.2.1 i h1; omega
    · omega, fun i hi => by have := h.2.1 i hi; omega⟩
def LateR (fd fm : Nat → Int) (n : Nat) (w : World) (e : Ending) (w' : World) : Prop := ∃ j, Late fd fm n j ∧ e = .returned (.tuple #[.agg #[.int .i64 (fd j), .int .i64 (fm j)], .bool true]) ∧ New w w'
set_option maxHeartbeats 1000000 in
theorem Latest_ok (F : Nat → Prop) (A : Option Addr) (n c : Nat) (fd fm : Nat → Int) (w : World) (hA : Flds w F A n fd fm) (hF : ∀ k, F k → k < w.heap.size) (hn : n ≤ 9223372036854775807) (hn1 : 1 ≤ n) (hnc : n ≤ c) (hok : ∀ j, j < n → rightB (fd j) (fm j) = true) :
    Calls Try.prog 25 #[.slice A n c] w (LateR fd fm n w) := by
  have hN : New w (w.alloc (.cells #[.int .i64 0, .int .i64 0] 38)) := (Chg.refl _ _).alloc _
  have H := Lib.hid (allRight_yes F A n c fd fm _ (hA.chg hN (fun k hk => ⟨hF k hk, fun f => f⟩)) (fun k hk => Nat.lt_of_lt_of_le (hF k hk) hN.size) hn hok)
  have h0 : ((n : Int) == 0) = false := by rw [beq_eq_false_iff_ne]; omega
  have hst := Has.new w 38 #[.int .i64 0, .int .i64 0]
  have HST := Lib.hid hst; clear hst
  obtain ⟨a, rfl, hab, h1, h2⟩ := hA 0 (by omega)
  have HA := Lib.hid hA; clear hA
  have HF := Lib.hid hF; clear hF
  have Hok := Lib.hid hok; clear hok
  have HNN := Lib.hid hN; clear hN
  clear h1 h2
  go_enter Try.func25, Try.ntmps25
  go_wp2_with fail
  with_reducible refine H.out.mono ?_
  rintro e w1 ⟨rfl, hN1⟩
  have hA1 := HA.out.chg (HNN.out.then_new hN1) (fun k hk => ⟨HF.out k hk, fun f => f⟩)
  obtain ⟨a', ha', _, hx0, hy0⟩ := hA1 0 (by omega)
  simp only [Option.some.injEq] at ha'
  subst ha'
  have HA1 := Lib.hid hA1; clear hA1
  have HS1 := Lib.hid (HST.out.keep hN1)
  have HN1 := Lib.hid hN1; clear hN1
  have hadd0 : a.add 0 = a := by unfold Addr.add; simp
  simp only [Nat.zero_mul, hadd0] at hx0 hy0
  clear hadd0
  have HL0 := Has.new w1 38 #[.int .i64 (fd 0), .int .i64 (fm 0)]
  have HS2 := HS1.out.alloc (.cells #[.int .i64 (fd 0), .int .i64 (fm 0)] 38)
  have hbl : w.heap.size < w1.heap.size := by have := HN1.out.size; rw [World.size_alloc] at this; omega
  have HL0 := Lib.hid HL0
  have HS2 := Lib.hid HS2
  have HNw := Lib.hid ((Chg.new_then HNN.out HN1.out).alloc (.cells #[.int .i64 (fd 0), .int .i64 (fm 0)] 38))
  have hT : Flds w F (some ⟨a.block, a.off + 2, none⟩) (n - 1) (fun i => fd (i + 1)) (fun i => fm (i + 1)) := HA.out.tail
  have HT := Lib.hid hT; clear hT
  by_cases hc1 : c = 1
  · obtain rfl : n = 1 := by omega
    subst hc1
    go_wp2
    clear hx0 hy0
    obtain ⟨bl, hble⟩ : ∃ bl, bl = w1.heap.size := ⟨_, rfl⟩
    rw [← hble] at HL0 hbl ⊢
    have Hble := Lib.hid hble; clear hble
    go_loopg [22] 1 (fun gk i wr => gk = 1 ∧ i = .int .i64 0 ∧ Has wr bl 38 #[.int .i64 (fd 0), .int .i64 (fm 0)] ∧ Has wr w.heap.size 38 #[.int .i64 0, .int .i64 0] ∧ New w wr)
    case atStart => exact ⟨rfl, rfl, HL0.out, HS2.out, HNw.out⟩
    case round =>
      clear HL0 HS2 HNw HS1 HST
      obtain ⟨_, rfl, hL, hS, hC⟩ := hrel
      have hl0 := hL.cell 0
      have hl1 := hL.cell 1
      have hc0 := hS.cell 0
      have hc1 := hS.cell 1
      have hf0 := hS.free 0
      have hf1 := hS.free 1
      simp at hl0 hl1 hc0 hc1
      have HC := Lib.hid hC; clear hC
      have HS := Lib.hid hS; clear hS hL
      go_wp2
      have hs2 := (HS.out.set 0 (.int .i64 (fd 0))).set 1 (.int .i64 (fm 0))
      have hd0 := hs2.cell 0
      have hd1 := hs2.cell 1
      simp at hd0 hd1
      refine bodyPost_ret (v := .tuple #[.agg #[.int .i64 (fd 0), .int .i64 (fm 0)], .bool true]) (by simp [results, Try.results25, go_sem, hd0, hd1]) rfl ⟨0, ?_, rfl, ?_⟩
      · exact Late.one fd fm
      · exact (HC.out.setCell (p := ⟨w.heap.size, 0, none⟩) (fun h => absurd h (Nat.lt_irrefl _)) _).setCell (p := ⟨w.heap.size, 1, none⟩) (fun h => absurd h (Nat.lt_irrefl _)) _
  · have hc2 : 2 ≤ c := by omega
    have hc2' : ¬ c = 1 := hc1
    go_wp2
    obtain ⟨bl, hble⟩ : ∃ bl, bl = w1.heap.size := ⟨_, rfl⟩
    obtain ⟨a2, ha2⟩ : ∃ a2, a2 = (⟨a.block, a.off + 2, none⟩ : Addr) := ⟨_, rfl⟩
    rw [← ha2] at HT ⊢
    rw [← hble] at HL0 hbl ⊢
    have Ha2 := Lib.hid ha2; clear ha2
    have Hble := Lib.hid hble; clear hble
    obtain ⟨m, hm⟩ : ∃ m, m = n - 1 := ⟨_, rfl⟩
    rw [← hm] at HT ⊢
    have hmn : m + 1 = n := by omega
    have hmb : m ≤ 9223372036854775806 := by omega
    have Hmn := Lib.hid hmn; clear hmn hm
    clear hx0 hy0
    go_loopg [22] m (fun gk i wr => ∃ k j : Nat, k ≤ m ∧ gk = m - k ∧ i = .int .i64 k ∧ Late fd fm (k + 1) j ∧ Has wr bl 38 #[.int .i64 (fd j), .int .i64 (fm j)] ∧ Has wr w.heap.size 38 #[.int .i64 0, .int .i64 0] ∧ New w wr)
    case atStart => exact ⟨0, 0, by omega, by omega, rfl, Late.one fd fm, HL0.out, HS2.out, HNw.out⟩
    case round =>
      clear HL0 HS2 HNw HS1 HST
      obtain ⟨k, j, hk, rfl, rfl, hLt, hL, hS, hC⟩ := hrel
      have Hlt := Lib.hid hLt; clear hLt
      by_cases hlt : k < m
      · obtain ⟨a3, ha3, hab3, h1, h2⟩ := (HT.out.chg hC (fun k hk => ⟨HF.out k hk, fun f => f⟩)) k hlt
        simp only [Option.some.injEq] at ha3
        subst ha3
        have hr1 := rightB_true (Hok.out (k + 1) (by have := Hmn.out; omega))
        have hr2 := rightB_true (Hok.out j (by have := Hmn.out; have := Hlt.out.1; omega))
        have ht1 : tm fd fm (k + 1) = fd (k + 1) * 1440 + fm (k + 1) := rfl
        have ht2 : tm fd fm j = fd j * 1440 + fm j := rfl
        obtain ⟨x, hx⟩ : ∃ x, x = fd (k + 1) := ⟨_, rfl⟩
        obtain ⟨y, hy⟩ : ∃ y, y = fm (k + 1) := ⟨_, rfl⟩
        obtain ⟨X, hX⟩ : ∃ X, X = fd j := ⟨_, rfl⟩
        obtain ⟨Y, hY⟩ : ∃ Y, Y = fm j := ⟨_, rfl⟩
        rw [← hx, ← hy] at hr1 ht1
        rw [← hX, ← hY] at hr2 ht2 hL
        simp only at h1 h2
        rw [← hx] at h1
        rw [← hy] at h2
        obtain ⟨p1, p2, p3, p4⟩ := hr1
        obtain ⟨q1, q2, q3, q4⟩ := hr2
        have Ht1 := Lib.hid ht1; clear ht1
        have Ht2 := Lib.hid ht2; clear ht2
        have Hx := Lib.hid hx; clear hx
        have Hy := Lib.hid hy; clear hy
        have HX := Lib.hid hX; clear hX
        have HY := Lib.hid hY; clear hY
        have hblt := hL.lt
        have hl0 := hL.cell 0
        have hl1 := hL.cell 1
        have hf0 := hL.free 0
        have hf1 := hL.free 1
        simp at hl0 hl1
        have HC := Lib.hid hC; clear hC
        have HS := Lib.hid hS; clear hS
        have HK := Lib.hid (fun wy (h : New wr wy) => (⟨by have := (hL.keep h).cell 0; simpa using this, by have := (hL.keep h).cell 1; simpa using this⟩ : wy.cell? ⟨bl, 0, none⟩ = some (.int .i64 X) ∧ wy.cell? ⟨bl, 1, none⟩ = some (.int .i64 Y)))
        have HL := Lib.hid hL; clear hL
        cases hcmp : decide (X * 1440 + Y < x * 1440 + y) with
        | true =>
          go_wp2
          go_region_held3 (fun w' => w'.cell? ⟨wr.heap.size, 0, none⟩ = some (.int .i64 x) ∧ w'.cell? ⟨wr.heap.size, 1, none⟩ = some (.int .i64 y) ∧ w'.cell? ⟨bl, 0, none⟩ = some (.int .i64 X) ∧ w'.cell? ⟨bl, 1, none⟩ = some (.int .i64 Y))
            (refine ⟨?_, ?_, ?_, ?_⟩ <;> first
              | exact (HK.out _ (by repeat (first | exact Chg.refl _ _ | refine Chg.alloc ?_ _ | refine Chg.drew ?_))).1
              | exact (HK.out _ (by repeat (first | exact Chg.refl _ _ | refine Chg.alloc ?_ _ | refine Chg.drew ?_))).2
              | go_keep)
            ((go_at_call 32; (with_reducible refine (timeOf_any _ _ _ (by omega) (by omega) (by omega) (by omega)).mono ?_); rintro e w' ⟨rfl, rfl⟩))
          have hz : New wr (((wr.alloc (.cells #[.int .i64 x, .int .i64 y] 38)).alloc (.cells #[.int .i64 x, .int .i64 y] 38)).alloc (.cells #[.int .i64 X, .int .i64 Y] 38)) := by repeat (first | exact Chg.refl _ _ | refine Chg.alloc ?_ _ | refine Chg.drew ?_)
          have hLz := HL.out.keep hz
          have hg0 := hLz.cell 0
          have hg1 := hLz.cell 1
          have hh0 := hLz.free 0
          have hh1 := hLz.free 1
          simp at hg0 hg1
          have HZ := Lib.hid hz; clear hz
          have HLz := Lib.hid hLz; clear hLz hl0 hl1 hf0 hf1
          go_wp2
          go_roundg (m - (k + 1))
          case measure => omega
          case rel =>
            have hbw := HC.out.size
            refine ⟨k + 1, k + 1, by omega, rfl, by go_num, ?_, ?_, ?_, ?_⟩
            · exact Hlt.out.turn (by rw [Ht1.out, Ht2.out]; exact of_decide_eq_true hcmp)
            · rw [← Hx.out, ← Hy.out]
              exact ((HLz.out.set 0 _).set 1 _).drew
            · exact (((HS.out.keep HZ.out).far (p := ⟨bl, 0, none⟩) (by dsimp only; omega) _).far (p := ⟨bl, 1, none⟩) (by dsimp only; omega) _).drew
            · exact (((HC.out.then_new HZ.out).setCell (p := ⟨bl, 0, none⟩) (fun h => by dsimp only at h; omega) _).setCell (p := ⟨bl, 1, none⟩) (fun h => by dsimp only at h; omega) _).drew
        | false =>
          go_wp2
          go_region_held3 (fun w' => w'.cell? ⟨wr.heap.size, 0, none⟩ = some (.int .i64 x) ∧ w'.cell? ⟨wr.heap.size, 1, none⟩ = some (.int .i64 y) ∧ w'.cell? ⟨bl, 0, none⟩ = some (.int .i64 X) ∧ w'.cell? ⟨bl, 1, none⟩ = some (.int .i64 Y))
            (refine ⟨?_, ?_, ?_, ?_⟩ <;> first
              | exact (HK.out _ (by repeat (first | exact Chg.refl _ _ | refine Chg.alloc ?_ _ | refine Chg.drew ?_))).1
              | exact (HK.out _ (by repeat (first | exact Chg.refl _ _ | refine Chg.alloc ?_ _ | refine Chg.drew ?_))).2
              | go_keep)
            ((go_at_call 32; (with_reducible refine (timeOf_any _ _ _ (by omega) (by omega) (by omega) (by omega)).mono ?_); rintro e w' ⟨rfl, rfl⟩))
          have hz : New wr (((wr.alloc (.cells #[.int .i64 x, .int .i64 y] 38)).alloc (.cells #[.int .i64 x, .int .i64 y] 38)).alloc (.cells #[.int .i64 X, .int .i64 Y] 38)) := by repeat (first | exact Chg.refl _ _ | refine Chg.alloc ?_ _ | refine Chg.drew ?_)
          have HZ := Lib.hid hz; clear hz hl0 hl1 hf0 hf1
          go_wp2
          go_roundg (m - (k + 1))
          case measure => omega
          case rel =>
            refine ⟨k + 1, j, by omega, rfl, by go_num, ?_, ?_, ?_, ?_⟩
            · exact Hlt.out.same (by rw [Ht1.out, Ht2.out]; exact of_decide_eq_false hcmp)
            · rw [← HX.out, ← HY.out]
              exact (HL.out.keep HZ.out).drew
            · exact (HS.out.keep HZ.out).drew
            · exact (HC.out.then_new HZ.out).drew
      · obtain rfl : m = k := by omega
        have hl0 := hL.cell 0
        have hl1 := hL.cell 1
        have hc0 := hS.cell 0
        have hc1 := hS.cell 1
        have hf0 := hS.free 0
        have hf1 := hS.free 1
        simp at hl0 hl1 hc0 hc1
        have HC := Lib.hid hC; clear hC
        have HS := Lib.hid hS; clear hS hL
        go_wp2
        have hs2 := (HS.out.set 0 (.int .i64 (fd j))).set 1 (.int .i64 (fm j))
        have hd0 := hs2.cell 0
        have hd1 := hs2.cell 1
        simp at hd0 hd1
        refine bodyPost_ret (v := .tuple #[.agg #[.int .i64 (fd j), .int .i64 (fm j)], .bool true]) (by simp [results, Try.results25, go_sem, hd0, hd1]) rfl ⟨j, ?_, rfl, ?_⟩
        · rw [← Hmn.out]; exact Hlt.out
        · exact (HC.out.setCell (p := ⟨w.heap.size, 0, none⟩) (fun h => absurd h (Nat.lt_irrefl _)) _).setCell (p := ⟨w.heap.size, 1, none⟩) (fun h => absurd h (Nat.lt_irrefl _)) _
end Go.Proofs.Ytcnnakidpnhecaa
