/-
  What the document's own Four and Unpack, and the law's own comparison of stamps, do.
-/
import Derived.Test.YtcnnakidpnhecaaStG
namespace Go.Proofs.Ytcnnakidpnhecaa
open Go.RowKit
def fourN (d m : Int) : Int := wrap64 (wrap64 (d * 65536) + wrap64 (m * 32))
def fourV (d m : Int) : List Value := [.int .u8 (wrap64 ((fourN d m).tdiv 16777216) % 256), .int .u8 (wrap64 ((fourN d m).tdiv 65536) % 256), .int .u8 (wrap64 ((fourN d m).tdiv 256) % 256), .int .u8 (fourN d m % 256)]
set_option maxHeartbeats 400000 in
theorem Four_any (d m : Int) (w : World) :
    Calls Try.prog 18 #[.agg #[.int .i64 d, .int .i64 m]] w fun e w' => e = .returned (.slice (some ⟨w.heap.size + 1, 0, none⟩) 4 4) ∧ Has w' (w.heap.size + 1) 5 (fourV d m).toArray ∧ New w w' := by
  go_enter Try.func18, Try.ntmps18
  go_wp2
  go_ret
  refine ⟨rfl, ?_, ((Chg.refl _ _).alloc _).alloc _⟩
  have h := Has.new (w.alloc (.cells #[.int .i64 d, .int .i64 m] 38)) 5 (fourV d m).toArray
  rw [World.size_alloc] at h
  exact h
theorem w64 (n : Int) (h0 : 0 ≤ n) (h1 : n ≤ 9223372036854775807) : wrap64 n = n := by unfold wrap64; omega
theorem four_right (d m : Int) (h : rightB d m = true) : fourV d m = (four d.toNat m.toNat).map bV := by
  obtain ⟨h1, h2, h3, h4⟩ := rightB_true h
  have e : fourN d m = d * 65536 + m * 32 := by
    unfold fourN
    rw [w64 (d * 65536) (by omega) (by omega), w64 (m * 32) (by omega) (by omega), w64 _ (by omega) (by omega)]
  unfold fourV
  rw [e]
  obtain ⟨D, rfl⟩ : ∃ D : Nat, d = (D : Int) := ⟨d.toNat, by omega⟩
  obtain ⟨M, rfl⟩ : ∃ M : Nat, m = (M : Int) := ⟨m.toNat, by omega⟩
  simp only [Int.toNat_natCast, four, List.map_cons, List.map_nil, bV]
  rw [Int.tdiv_eq_ediv_of_nonneg (by omega), Int.tdiv_eq_ediv_of_nonneg (by omega), Int.tdiv_eq_ediv_of_nonneg (by omega)]
  rw [w64 _ (by omega) (by omega), w64 _ (by omega) (by omega), w64 _ (by omega) (by omega)]
  have e1 : ((D : Int) * 65536 + (M : Int) * 32) / 16777216 % 256 = ((D / 256 : Nat) : Int) := by omega
  have e2 : ((D : Int) * 65536 + (M : Int) * 32) / 65536 % 256 = ((D % 256 : Nat) : Int) := by omega
  have e3 : ((D : Int) * 65536 + (M : Int) * 32) / 256 % 256 = ((M / 8 : Nat) : Int) := by omega
  have e4 : ((D : Int) * 65536 + (M : Int) * 32) % 256 = ((M % 8 * 32 : Nat) : Int) := by omega
  rw [e1, e2, e3, e4]
set_option maxHeartbeats 400000 in
theorem refUnpack_short (A : Option Addr) (n c : Nat) (w : World) (h : n % 4 ≠ 0) :
    Calls Try.prog 22 #[.slice A n c] w fun e w' => e = .returned (.tuple #[.slice none 0 0, .int .i64 10]) ∧ w = w' := by
  have h' : ((n : Int) % 4 != 0) = true := by rw [bne_iff_ne]; omega
  clear h
  go_enter Try.func22, Try.ntmps22
  go_wp2
  go_ret2
  exact ⟨rfl, rfl⟩
set_option maxHeartbeats 2000000 in
theorem refUnpack_any (A : Option Addr) (n c : Nat) (F : Nat → Prop) (bs : List Nat) (m : Nat) (w : World) (hA : Arr w F A n (fun i => bV (bs.getD i 0))) (hF : ∀ k, F k → k < w.heap.size) (hm : n = 4 * m) (hmb : m ≤ 1048576) (h256 : ∀ x ∈ bs, x < 256) :
    Calls Try.prog 22 #[.slice A n c] w (UpR bs m w) := by
  obtain ⟨i0, hi, hz0, hz1, hz2⟩ := info_parts Try.infoS
  have HA := Lib.hid hA; clear hA
  have HF := Lib.hid hF; clear hF
  have h4 : ((n : Int) % 4 != 0) = false := by rw [bne_eq_false_iff_eq]; omega
  have hnb : n ≤ 4194304 := by omega
  have Hm := Lib.hid hm; clear hm
  have H256 := Lib.hid h256; clear h256
  go_enter Try.func22, Try.ntmps22
  go_wp2
  go_loopg [2, 3, 4, 5] m (fun gk r2 r3 v i wr => ∃ (k ii : Nat) (A' : Option Addr) (c' : Nat), k ≤ m ∧ gk = m - k ∧ r2 = .slice none 0 0 ∧ r3 = .int .i64 0 ∧ v = .slice A' k c' ∧ i = .int .i64 (ii : Int) ∧ ii = 4 * k ∧ k ≤ c' ∧ wr.ownsRow w.heap.size 38 2 (.slice A' k c') k (fcells (fdI bs) (fmI bs) k) ∧ New w wr ∧ ∀ j, j < k → goodB bs j = true)
  case atStart => exact ⟨0, 0, none, 0, by omega, by omega, rfl, rfl, rfl, rfl, rfl, by omega, World.ownsRow_nil _ _ _ _, Chg.refl _ _, fun j hj => by omega⟩
  case round =>
    obtain ⟨k, ii, A', c', hk, rfl, rfl, rfl, rfl, rfl, hii, hkc, hO, hC, hgood⟩ := hrel
    have Hgood := Lib.hid hgood; clear hgood
    have Hii := Lib.hid hii
    by_cases hlt : k < m
    · have hiin : ii + 4 ≤ n := by have := Hm.out; omega
      clear hii
      have hA1 := HA.out.new hC HF.out
      obtain ⟨a, rfl, hab, hb0⟩ := hA1 ii (by omega)
      obtain ⟨a1, ha1, _, hb1⟩ := hA1 (ii + 1) (by omega)
      obtain ⟨a2, ha2, _, hb2⟩ := hA1 (ii + 2) (by omega)
      obtain ⟨a3, ha3, _, hb3⟩ := hA1 (ii + 3) (by omega)
      simp only [Option.some.injEq] at ha1 ha2 ha3
      subst ha1
      subst ha2
      subst ha3
      clear hA1
      have hday : dayOf bs k = bs.getD ii 0 * 256 + bs.getD (ii + 1) 0 := by rw [Hii.out]; rfl
      have hlow : lowOf bs k = bs.getD (ii + 2) 0 * 256 + bs.getD (ii + 3) 0 := by rw [Hii.out]; rfl
      have l0 : bs.getD ii 0 < 256 := byt_lt bs H256.out ii
      have l1 : bs.getD (ii + 1) 0 < 256 := byt_lt bs H256.out (ii + 1)
      have l2 : bs.getD (ii + 2) 0 < 256 := byt_lt bs H256.out (ii + 2)
      have l3 : bs.getD (ii + 3) 0 < 256 := byt_lt bs H256.out (ii + 3)
      simp only [bV] at hb0 hb1 hb2 hb3
      obtain ⟨b0, e0⟩ : ∃ b, b = bs.getD ii 0 := ⟨_, rfl⟩
      obtain ⟨b1, e1⟩ : ∃ b, b = bs.getD (ii + 1) 0 := ⟨_, rfl⟩
      obtain ⟨b2, e2⟩ : ∃ b, b = bs.getD (ii + 2) 0 := ⟨_, rfl⟩
      obtain ⟨b3, e3⟩ : ∃ b, b = bs.getD (ii + 3) 0 := ⟨_, rfl⟩
      rw [← e0] at hb0 l0 hday
      rw [← e1] at hb1 l1 hday
      rw [← e2] at hb2 l2 hlow
      rw [← e3] at hb3 l3 hlow
      clear e0 e1 e2 e3
      have hrt := good_right bs H256.out k
      have HGd : Hid (goodB bs k = decide (lowOf bs k / 32 ≤ 1439 ∧ lowOf bs k % 32 = 0)) := rfl
      have HFc : Hid (fcells (fdI bs) (fmI bs) (k + 1) = fcells (fdI bs) (fmI bs) k ++ [.int .i64 (fdI bs k), .int .i64 (fmI bs k)]) := rfl
      have hfd : fdI bs k = (b0 : Int) * 256 + (b1 : Int) := by unfold fdI; rw [hday]; omega
      have hfm : fmI bs k = ((b2 : Int) * 256 + (b3 : Int)) / 32 := by unfold fmI; rw [hlow]; omega
      rw [hfd, hfm, hlow] at hrt
      rw [hfd, hfm] at HFc
      rw [hlow] at HGd
      clear hfd hfm hday hlow
      have Hrt := Lib.hid hrt; clear hrt
      have HO := Lib.hid hO; clear hO
      have HC := Lib.hid hC; clear hC
      have f1 : IntKind.i64.wrap ((ii : Int) + 1) = (ii : Int) + 1 := IntWalk.i64_in _ (by omega)
      have f2 : IntKind.i64.wrap ((ii : Int) + 2) = (ii : Int) + 2 := IntWalk.i64_in _ (by omega)
      have f3 : IntKind.i64.wrap ((ii : Int) + 3) = (ii : Int) + 3 := IntWalk.i64_in _ (by omega)
      have t1 : ((ii : Int) + 1).toNat = ii + 1 := by omega
      have t2 : ((ii : Int) + 2).toNat = ii + 2 := by omega
      have t3 : ((ii : Int) + 3).toNat = ii + 3 := by omega
      have u1 : (ii : Int) + 1 < (n : Int) := by omega
      have u2 : (ii : Int) + 2 < (n : Int) := by omega
      have u3 : (ii : Int) + 3 < (n : Int) := by omega
      have c1 : wr.cell? ⟨a.block, a.off + (ii + 1), none⟩ = some (.int .u8 (b1 : Int)) := by
        have e : a.add (ii + 1) = ⟨a.block, a.off + (ii + 1), none⟩ := by unfold Addr.add; simp
        rw [e] at hb1; exact hb1
      have c2 : wr.cell? ⟨a.block, a.off + (ii + 1 + 1), none⟩ = some (.int .u8 (b2 : Int)) := by
        have e : a.add (ii + 2) = ⟨a.block, a.off + (ii + 1 + 1), none⟩ := by unfold Addr.add; simp
        rw [e] at hb2; exact hb2
      have c3 : wr.cell? ⟨a.block, a.off + (ii + 1 + 1 + 1), none⟩ = some (.int .u8 (b3 : Int)) := by
        have e : a.add (ii + 3) = ⟨a.block, a.off + (ii + 1 + 1 + 1), none⟩ := by unfold Addr.add; simp
        rw [e] at hb3; exact hb3
      have v1 : 0 ≤ (ii : Int) + 1 := by omega
      have v2 : 0 ≤ (ii : Int) + 2 := by omega
      have v3 : 0 ≤ (ii : Int) + 3 := by omega
      go_wp2
      go_quiet (fail)
      go_wp2
      have hb0' : (wr.drewN nq).cell? (a.add ii) = some (.int .u8 (b0 : Int)) := hb0
      have c1' : (wr.drewN nq).cell? ⟨a.block, a.off + (ii + 1), none⟩ = some (.int .u8 (b1 : Int)) := c1
      have HOq := Lib.hid (own_new HO.out ((Chg.refl _ _).drewN nq))
      have HCq := Lib.hid (HC.out.drewN nq)
      have habq : a.block < (wr.drewN nq).heap.size := Nat.lt_of_lt_of_le (HF.out _ hab) HCq.out.size
      have habq2 : (a.add ii).block < (wr.drewN nq).heap.size := by rw [add_block]; exact habq
      obtain ⟨wq, hwq⟩ : ∃ wq, wq = wr.drewN nq := ⟨_, rfl⟩
      rw [← hwq] at hb0' c1' HOq HCq habq habq2 ⊢
      clear hwq hb0 hb1 hb2 hb3 c1 c2 c3 HO HC
      have d1 : ((b2 : Int) * 256 + (b3 : Int)).tdiv 32 = ((b2 : Int) * 256 + (b3 : Int)) / 32 := Int.tdiv_eq_ediv_of_nonneg (by omega)
      have d2 : IntKind.i64.wrap ((b0 : Int) * 256) = (b0 : Int) * 256 := IntWalk.i64_in _ (by omega)
      have d3 : IntKind.i64.wrap ((b0 : Int) * 256 + (b1 : Int)) = (b0 : Int) * 256 + (b1 : Int) := IntWalk.i64_in _ (by omega)
      have d4 : IntKind.i64.wrap (((b2 : Int) * 256 + (b3 : Int)) / 32) = ((b2 : Int) * 256 + (b3 : Int)) / 32 := IntWalk.i64_in _ (by omega)
      have d5 : IntKind.i64.wrap (b0 : Int) = (b0 : Int) := IntWalk.i64_in _ (by omega)
      have d6 : IntKind.i64.wrap (b1 : Int) = (b1 : Int) := IntWalk.i64_in _ (by omega)
      go_cut [7] (fun s7 wc => ∃ bz, s7 = .pointer (some ⟨bz, 0, none⟩) ∧ Has wc bz 38 #[.int .i64 ((b0 : Int) * 256 + (b1 : Int)), .int .i64 (((b2 : Int) * 256 + (b3 : Int)) / 32)] ∧ New wq wc)
      case first =>
        go_region_law (fail)
        all_goals
          go_wp2
          go_meet
          case rel =>
            exact ⟨_, rfl, (Has.new wq 38 #[.int .i64 ((b0 : Int) * 256 + (b1 : Int)), .int .i64 (((b2 : Int) * 256 + (b3 : Int)) / 32)]).drew, ((Chg.refl _ _).alloc _).drew⟩
      case rest =>
        clear d1 d2 d3 d4 d5 d6 f1 f2 f3 t1 t2 t3 u1 u2 u3 v1 v2 v3 c1' hb0'
        obtain ⟨bz, rfl, hZ, hNc⟩ := hcut
        have HOc := Lib.hid (own_new HOq.out hNc)
        have HCc := Lib.hid (HCq.out.then_new hNc)
        clear HOq HCq hNc
        obtain ⟨x, hx⟩ : ∃ x, x = (b0 : Int) * 256 + (b1 : Int) := ⟨_, rfl⟩
        obtain ⟨y, hy⟩ : ∃ y, y = ((b2 : Int) * 256 + (b3 : Int)) / 32 := ⟨_, rfl⟩
        rw [← hx] at hZ Hrt HFc
        rw [← hy] at hZ Hrt HFc
        have hz0' := hZ.cell 0
        have hz1' := hZ.cell 1
        simp at hz0' hz1'
        have HZ := Lib.hid hZ; clear hZ hx hy
        by_cases hg : goodB bs k = true
        · have hgg := hg
          rw [HGd.out, decide_eq_true_eq] at hgg
          obtain ⟨g1, g2⟩ := hgg
          have hr : rightB x y = true := by rw [Hrt.out, decide_eq_true_eq]; exact g1
          have hp : (((b2 : Int) * 256 + (b3 : Int)) % 32 != 0) = false := by rw [bne_eq_false_iff_eq]; omega
          have Hg := Lib.hid hg; clear hg g2
          go_wp2_with fail
          with_reducible refine (refRight_any _ _ _).mono ?_
          rintro e w5 ⟨rfl, rfl⟩
          have hz0'' := (HZ.out.alloc (.cells #[.int .i64 x, .int .i64 y] 38)).cell 0
          have hz1'' := (HZ.out.alloc (.cells #[.int .i64 x, .int .i64 y] 38)).cell 1
          simp at hz0'' hz1''
          have hOw := HOc.out.alloc (.cells #[.int .i64 x, .int .i64 y] 38)
          have HOw := Lib.hid hOw; clear hOw
          go_wp2_with (at_builtin; refine wpList_append_one rfl _ _ 35 rfl w.heap.size 38 i0 (.agg #[.int .i64 0, .int .i64 0]) 2 16 Try.underlying35 hi hz0 hz1 hz2 rfl (by decide) _ k (fcells (fdI bs) (fmI bs) k) rfl HOw.out #[.int .i64 x, .int .i64 y] ?a0 rfl ?a1 ?a2 ?a3 ?a4 ?_)
          case a0 => show Value.slice (some ⟨wc.heap.size + 1, 0, none⟩) 1 1 = _; simp
          case a1 => exact ⟨rfl, rfl⟩
          case a2 => simp only [maxLen]; omega
          case a3 => omega
          case a4 => have := HCc.out.size; simp; omega
          intro A2 c2 w6 hO6 hC6 hF6
          have HO6 : Hid (w6.ownsRow w.heap.size 38 2 (.slice A2 (k + 1) c2) (k + 1) (fcells (fdI bs) (fmI bs) (k + 1))) := by
            rw [HFc.out]; exact hO6
          have HC6 : Hid (New w w6) := (HCc.out.alloc _).trans hC6 (fun i hi hk => by have := (HOw.out.lt i hk).1; omega)
          have hkc2 : k + 1 ≤ c2 := by
            rcases hO6.2 with ⟨_, hn⟩ | ⟨g', cap, cur, hv, _, _, hnc, _⟩
            · omega
            · simp only [Value.slice.injEq] at hv
              obtain ⟨_, _, rfl⟩ := hv
              exact hnc
          clear hO6 hC6 hF6 hz0' hz1' hz0'' hz1''
          go_wp2
          go_roundg (m - (k + 1))
          case measure => omega
          case rel => exact ⟨k + 1, ii + 4, A2, c2, by omega, rfl, rfl, rfl, rfl, by go_num, by have := Hii.out; omega, hkc2, HO6.out, HC6.out, fun j hj => by
            rcases Nat.lt_succ_iff_lt_or_eq.1 hj with h1 | rfl
            · exact Hgood.out j h1
            · exact Hg.out⟩
        · have hbad : ¬ ∀ j, j < m → goodB bs j = true := fun h => hg (h k hlt)
          have Hbad := Lib.hid hbad; clear hbad
          rw [HGd.out, decide_eq_true_eq] at hg
          by_cases hp0 : (b2 * 256 + b3) % 32 = 0
          · have hp : (((b2 : Int) * 256 + (b3 : Int)) % 32 != 0) = false := by rw [bne_eq_false_iff_eq]; omega
            have hr : rightB x y = false := by rw [Hrt.out, decide_eq_false_iff_not]; exact fun h => hg ⟨h, hp0⟩
            clear hg hp0
            go_wp2_with (go_at_call 16; (with_reducible refine (refRight_any _ _ _).mono ?_); rintro e w5 ⟨rfl, rfl⟩)
            go_ret2
            refine ⟨HCc.out.alloc _, ?_⟩
            rw [if_neg Hbad.out]
            rfl
          · have hp : (((b2 : Int) * 256 + (b3 : Int)) % 32 != 0) = true := by rw [bne_iff_ne]; omega
            clear hg hp0
            go_wp2
            go_ret2
            refine ⟨HCc.out, ?_⟩
            rw [if_neg Hbad.out]
            rfl
    · obtain rfl : k = m := by omega
      have hge : ¬ ii < n := by have := Hm.out; omega
      clear hii
      have HO := Lib.hid hO; clear hO
      have HC := Lib.hid hC; clear hC
      go_wp2
      go_ret2
      refine ⟨HC.out, ?_⟩
      rw [if_pos Hgood.out]
      exact ⟨A', c', rfl, HO.out, hkc⟩
end Go.Proofs.Ytcnnakidpnhecaa
