/-
  What stamp.Unpack does, for every input within the stated bounds.
-/
import Derived.Test.YtcnnakidpnhecaaStE
import Derived.Test.YtcnnakidpnhecaaStm
namespace Go.Proofs.Ytcnnakidpnhecaa
open Go.RowKit
theorem Try.infoS : (Try.prog.info? 38).map (fun i => (i.zero, i.size, i.bytes)) = some (some (.agg #[.int .i64 0, .int .i64 0]), 2, 16) := by kernel_rfl
def goodB (bs : List Nat) (j : Nat) : Bool := decide (lowOf bs j / 32 ≤ 1439 ∧ lowOf bs j % 32 = 0)
def fdI (bs : List Nat) (j : Nat) : Int := (dayOf bs j : Int)
def fmI (bs : List Nat) (j : Nat) : Int := ((lowOf bs j / 32 : Nat) : Int)
theorem take3 (b : Nat) (bs : List Nat) (k m : Nat) (w : World) (hh : Nat) (he : w.heap.size = hh) (h : Rd w b bs (32 * k) 0) (hm : bs.length = 4 * m) (hk : k < m) (hl : m ≤ 1048576) (h256 : ∀ x ∈ bs, x < 256) :
    Calls Try.prog 31 #[.pointer (some ⟨b, 0, none⟩), .slice (some ⟨hh, 0, none⟩) 3 3] (w.alloc (.cells #[.int .i64 16, .int .i64 11, .int .i64 5] 3)) fun e w' =>
      ∃ g c, e = .returned (.slice (some ⟨g, 0, none⟩) 3 c) ∧ w'.ownsRow hh 3 1 (.slice (some ⟨g, 0, none⟩) 3 c) 3 [.int .i64 (fdI bs k), .int .i64 (fmI bs k), .int .i64 ((lowOf bs k % 32 : Nat) : Int)] ∧ Rd w' b bs (32 * (k + 1)) 0 ∧ Chg (· = b) w w' := by
  subst he
  have hH := Has.new w 3 #[.int .i64 16, .int .i64 11, .int .i64 5]
  obtain ⟨cs, hcs⟩ := h.has
  refine (take_ok b bs (32 * k) _ (h.chg (S := fun _ => False) ((Chg.refl _ _).alloc _) (fun _ _ f => f)) (by omega) h256 (some ⟨w.heap.size, 0, none⟩) 3 3 (· = w.heap.size) (fun i => if i = 0 then 16 else if i = 1 then 11 else 5) (by omega)
    (fun i hi => by
      obtain ⟨a, ha, hb, hc⟩ := Arr.of_has hH (n := 3) (by simp) i hi
      refine ⟨a, ha, hb, ?_⟩
      rw [hc]
      match i, hi with
      | 0, _ => rfl
      | 1, _ => rfl
      | 2, _ => rfl)
    (fun k hk => by subst hk; exact ⟨by simp, by have := hcs.lt; omega⟩)
    (fun i hi => by
      match i, hi with
      | 0, _ => decide
      | 1, _ => decide
      | 2, _ => decide) (by simp [sumN]; omega)).mono ?_
  rintro e w' ⟨A, c, rfl, hO, hR, hC⟩
  rw [World.size_alloc] at hO
  have e1 : (List.range 3).map (nums bs (32 * k) (fun i => if i = 0 then 16 else if i = 1 then 11 else 5)) = [.int .i64 (fdI bs k), .int .i64 (fmI bs k), .int .i64 ((lowOf bs k % 32 : Nat) : Int)] := by
    have n0 := num_day bs h256 k (by omega)
    have n1 := num_min bs h256 k (by omega)
    have n2 := num_pad bs h256 k (by omega)
    simp only [List.range_succ, List.range_zero, List.nil_append, List.cons_append, List.map_cons, List.map_nil, nums, iV, sumN, fdI, fmI]
    simp only [if_true, Nat.zero_add, Nat.add_zero]
    rw [← n0, ← n1, ← n2]
    rfl
  rw [e1] at hO
  obtain ⟨g, rfl⟩ : ∃ g, A = some ⟨g, 0, none⟩ := by
    rcases hO.2 with ⟨_, hn⟩ | ⟨g, cap, cur, hv, _⟩
    · cases hn
    · simp only [Value.slice.injEq] at hv
      exact ⟨g, hv.1⟩
  have e2 : 32 * k + sumN (fun i => if i = 0 then 16 else if i = 1 then 11 else 5) 3 = 32 * (k + 1) := by simp [sumN]; omega
  rw [e2] at hR
  exact ⟨g, c, rfl, own_base hO (fun k hk => by have := (hO.lt k hk).1; omega), hR, Chg.new_then ((Chg.refl _ _).alloc _) hC⟩
set_option maxHeartbeats 400000 in
theorem Unpack_short (A : Option Addr) (n c : Nat) (w : World) (h : n % 4 ≠ 0) :
    Calls Try.prog 20 #[.slice A n c] w fun e w' => e = .returned (.tuple #[.slice none 0 0, .int .i64 10]) ∧ w = w' := by
  have h' : ((n : Int) % 4 != 0) = true := by rw [bne_iff_ne]; omega
  clear h
  go_enter Try.func20, Try.ntmps20
  go_wp2
  go_ret2
  exact ⟨rfl, rfl⟩
def UpR (bs : List Nat) (m : Nat) (w : World) (e : Ending) (w' : World) : Prop :=
  New w w' ∧ if ∀ j, j < m → goodB bs j = true then ∃ A cc, e = .returned (.tuple #[.slice A m cc, .int .i64 0]) ∧ w'.ownsRow w.heap.size 38 2 (.slice A m cc) m (fcells (fdI bs) (fmI bs) m) ∧ m ≤ cc
    else e = .returned (.tuple #[.slice none 0 0, .int .i64 12])
theorem good_right (bs : List Nat) (h256 : ∀ x ∈ bs, x < 256) (j : Nat) : rightB (fdI bs j) (fmI bs j) = decide (lowOf bs j / 32 ≤ 1439) := by
  have h0 := byt_lt bs h256 (4 * j)
  have h1 := byt_lt bs h256 (4 * j + 1)
  unfold rightB fdI fmI dayOf
  rw [decide_eq_decide]
  omega
set_option maxHeartbeats 2000000 in
theorem Unpack_any (A : Option Addr) (n c : Nat) (F : Nat → Prop) (bs : List Nat) (m : Nat) (w : World) (hA : Arr w F A n (fun i => bV (bs.getD i 0))) (hlen : bs.length = n) (hnil : A = none → n = 0 ∧ c = 0) (hm : n = 4 * m) (hmb : m ≤ 1048576) (h256 : ∀ x ∈ bs, x < 256) :
    Calls Try.prog 20 #[.slice A n c] w (UpR bs m w) := by
  obtain ⟨i0, hi, hz0, hz1, hz2⟩ := info_parts Try.infoS
  have HRd := Lib.hid (Read_any A n c F bs w hA hlen hnil (by omega))
  have h4 : ((n : Int) % 4 != 0) = false := by rw [bne_eq_false_iff_eq]; omega
  have hq : (n : Int) / 4 = (m : Int) := by omega
  rw [hm] at hlen
  have Hlen := Lib.hid hlen; clear hlen
  have H256 := Lib.hid h256; clear h256
  have hnb : n ≤ 4194304 := by omega
  clear hA hnil hm
  go_enter Try.func20, Try.ntmps20
  go_wp2_with fail
  with_reducible refine HRd.out.mono ?_
  rintro e w1 ⟨br, rfl, hR1, hN1, hbr⟩
  have HR1 := Lib.hid hR1; clear hR1
  have HN1 := Lib.hid hN1; clear hN1
  have hw1 := HN1.out.size
  go_wp2_with (at_make; refine wpList_make_own _ rfl _ _ 35 rfl w.heap.size 38 i0 (.agg #[.int .i64 0, .int .i64 0]) 2 Try.underlying35 hi hz0 hz1 .i64 .i64 _ m rfl ?m0 rfl ?m1 ?m2 ?m3 ?_)
  case m0 => rfl
  case m1 => rw [hz2]; omega
  case m2 => simp only [maxLen]; omega
  case m3 => exact hw1
  intro wm hom hgm
  have hNm : New w1 wm := Chg.grown (Chg.refl _ _) hgm (by intro k hk; cases hk)
  have HRm := Lib.hid (HR1.out.new hNm)
  have HCm := Lib.hid (HN1.out.then_new hNm)
  have Hom := Lib.hid hom
  clear hom hgm hNm HR1 HN1 hw1
  go_wp2
  go_loopg [5] m (fun gk v wr => ∃ (k : Nat) (A' : Option Addr) (c' : Nat), k ≤ m ∧ gk = m - k ∧ v = .slice A' k c' ∧ k ≤ c' ∧ wr.ownsRow w.heap.size 38 2 (.slice A' k c') k (fcells (fdI bs) (fmI bs) k) ∧ Rd wr br bs (32 * k) 0 ∧ New w wr ∧ ∀ j, j < k → goodB bs j = true)
  case atStart => exact ⟨0, _, _, by omega, by omega, rfl, by omega, Hom.out, HRm.out, HCm.out, fun j hj => by omega⟩
  case round =>
    clear Hom HRm HCm
    obtain ⟨k, A', c', hk, rfl, rfl, hkc, hO, hR, hC, hgood⟩ := hrel
    have Hgood := Lib.hid hgood; clear hgood
    have hLf := rd_left br bs (32 * k) 0 wr hR (by rw [Hlen.out]; omega) (by rw [Hlen.out]; omega)
    obtain ⟨lf, hlf⟩ : ∃ lf : Int, lf = 8 * (bs.length : Int) - ((32 * k : Nat) : Int) := ⟨_, rfl⟩
    rw [← hlf] at hLf
    have HLf := Lib.hid hLf; clear hLf
    rw [Hlen.out] at hlf
    have HO := Lib.hid hO; clear hO
    have HR := Lib.hid hR; clear hR
    have HC := Lib.hid hC; clear hC
    by_cases hlt : k < m
    · have hpos : decide (0 < lf) = true := by rw [decide_eq_true_eq]; omega
      clear hlf
      go_wp2_with fail
      with_reducible refine HLf.out.mono ?_
      rintro e w2 ⟨rfl, q, rfl⟩
      have HR2 : Hid (Rd (wr.drewN q) br bs (32 * k) 0) := HR.out
      have HT := Lib.hid (take3 br bs k m (wr.drewN q) wr.heap.size rfl HR2.out Hlen.out hlt hmb H256.out)
      go_wp2_with fail
      with_reducible refine HT.out.mono ?_
      rintro e w3 ⟨g, c3, rfl, hO3, hR3, hC3⟩
      have hn0 : w3.cell? ⟨g, 0, none⟩ = some (.int .i64 (fdI bs k)) := hO3.cellAt 0 (by omega)
      have hn1 : w3.cell? ⟨g, 1, none⟩ = some (.int .i64 (fmI bs k)) := hO3.cellAt 1 (by omega)
      have hn2 : w3.cell? ⟨g, 2, none⟩ = some (.int .i64 ((lowOf bs k % 32 : Nat) : Int)) := hO3.cellAt 2 (by omega)
      have hrt := good_right bs H256.out k
      have HGd : Hid (goodB bs k = decide (lowOf bs k / 32 ≤ 1439 ∧ lowOf bs k % 32 = 0)) := rfl
      have HFc : Hid (fcells (fdI bs) (fmI bs) (k + 1) = fcells (fdI bs) (fmI bs) k ++ [.int .i64 (fdI bs k), .int .i64 (fmI bs k)]) := rfl
      obtain ⟨x, hx⟩ : ∃ x, x = fdI bs k := ⟨_, rfl⟩
      obtain ⟨y, hy⟩ : ∃ y, y = fmI bs k := ⟨_, rfl⟩
      obtain ⟨z, hz⟩ : ∃ z, z = lowOf bs k % 32 := ⟨_, rfl⟩
      rw [← hx] at hn0 hrt HFc
      rw [← hy] at hn1 hrt HFc
      rw [← hz] at hn2 HGd
      clear hx hy hz
      have hgl := (hO3.lt g rfl).2
      have HR3 := Lib.hid hR3; clear hR3
      have HO3 := Lib.hid hO3; clear hO3
      have hbrw : w.heap.size ≤ br := hbr
      obtain ⟨cs, hcs⟩ := HR2.out.has
      have HO' : Hid (w3.ownsRow w.heap.size 38 2 (.slice A' k c') k (fcells (fdI bs) (fmI bs) k)) := own_chg (own_new HO.out ((Chg.refl _ _).drewN q)) hC3 (fun i hi e => own_apart (own_new HO.out ((Chg.refl _ _).drewN q)) hcs (by decide) (e ▸ hi))
      have HC3 : Hid (New w w3) := (HC.out.drewN q).trans hC3 (fun i hi e => by omega)
      clear hC3 hcs HT HR2 HR HO HC HLf
      have Hrt := Lib.hid hrt; clear hrt
      go_upto_region 7 with (fail)
      go_cut [7] (fun s7 wc => ∃ bz, s7 = .pointer (some ⟨bz, 0, none⟩) ∧ Has wc bz 38 #[.int .i64 x, .int .i64 y] ∧ New w3 wc)
      case first =>
        go_region_law (fail)
        all_goals
          go_wp2
          go_meet
          case rel =>
            refine ⟨_, rfl, (Has.new w3 38 #[.int .i64 x, .int .i64 y]).drew, ((Chg.refl _ _).alloc _).drew⟩
      case rest =>
        obtain ⟨bz, rfl, hZ, hNc⟩ := hcut
        have hz0' := hZ.cell 0
        have hz1' := hZ.cell 1
        simp at hz0' hz1'
        clear hn0 hn1
        have hn2' : wc.cell? ⟨g, 2, none⟩ = some (.int .i64 (z : Int)) := (hNc.cell (p := ⟨g, 2, none⟩) hgl (fun f => f)).trans hn2
        clear hn2
        have HOc := Lib.hid (own_new HO'.out hNc)
        have HRc := Lib.hid (HR3.out.new hNc)
        have HCc := Lib.hid (HC3.out.then_new hNc)
        have HZ := Lib.hid hZ; clear hZ
        have hglc : g < wc.heap.size := Nat.lt_of_lt_of_le hgl hNc.size
        have HNc := Lib.hid hNc; clear hNc
        clear HO' HR3 HC3 HO3
        by_cases hg : goodB bs k = true
        · have hgg := hg
          rw [HGd.out, decide_eq_true_eq] at hgg
          obtain ⟨g1, g2⟩ := hgg
          have hr : rightB x y = true := by rw [Hrt.out, decide_eq_true_eq]; exact g1
          subst g2
          have Hg := Lib.hid hg; clear hg
          go_wp2_with fail
          with_reducible refine (Right_any _ _ _).mono ?_
          rintro e w5 ⟨rfl, rfl⟩
          have hz0'' := (HZ.out.alloc (.cells #[.int .i64 x, .int .i64 y] 38)).cell 0
          have hz1'' := (HZ.out.alloc (.cells #[.int .i64 x, .int .i64 y] 38)).cell 1
          simp at hz0'' hz1''
          have hOw := HOc.out.alloc (.cells #[.int .i64 x, .int .i64 y] 38)
          have HOw := Lib.hid hOw; clear hOw
          go_wp2_with (at_builtin; refine wpList_append_one rfl _ _ 35 rfl w.heap.size 38 i0 (.agg #[.int .i64 0, .int .i64 0]) 2 16 Try.underlying35 hi hz0 hz1 hz2 rfl (by decide) _ k (fcells (fdI bs) (fmI bs) k) rfl HOw.out #[.int .i64 x, .int .i64 y] ?a0 rfl ?a1 ?a2 ?a3 ?a4 ?_)
          case a0 => show Value.slice (some ⟨wc.heap.size + 1, 0, none⟩) 1 1 = _; simp
          case a1 => exact ⟨rfl, rfl⟩
          case a2 => simp only [maxLen]; omega
          case a3 => omega
          case a4 => have := HCc.out.size; simp; omega
          intro A2 c2 w6 hO6 hC6 hF6
          have HO6 : Hid (w6.ownsRow w.heap.size 38 2 (.slice A2 (k + 1) c2) (k + 1) (fcells (fdI bs) (fmI bs) (k + 1))) := by
            rw [HFc.out]; exact hO6
          have HR6 : Hid (Rd w6 br bs (32 * (k + 1)) 0) := (HRc.out.new ((Chg.refl _ _).alloc _)).beside HOw.out (by decide) (by decide) hC6
          have HC6 : Hid (New w w6) := (HCc.out.alloc _).trans hC6 (fun i hi hk => by have := (HOw.out.lt i hk).1; omega)
          have hkc2 : k + 1 ≤ c2 := by
            rcases hO6.2 with ⟨_, hn⟩ | ⟨g', cap, cur, hv, _, _, hnc, _⟩
            · omega
            · simp only [Value.slice.injEq] at hv
              obtain ⟨_, _, rfl⟩ := hv
              exact hnc
          clear hO6 hC6 hF6 hz0' hz1' hz0'' hz1'' hn2'
          go_wp2
          go_roundg (m - (k + 1))
          case measure => omega
          case rel => exact ⟨k + 1, A2, c2, by omega, rfl, rfl, hkc2, HO6.out, HR6.out, HC6.out, fun j hj => by
            rcases Nat.lt_succ_iff_lt_or_eq.1 hj with h1 | rfl
            · exact Hgood.out j h1
            · exact Hg.out⟩
        · have hbad : ¬ ∀ j, j < m → goodB bs j = true := fun h => hg (h k hlt)
          have Hbad := Lib.hid hbad; clear hbad
          rw [HGd.out, decide_eq_true_eq] at hg
          by_cases hr0 : lowOf bs k / 32 ≤ 1439
          · have hr : rightB x y = true := by rw [Hrt.out, decide_eq_true_eq]; exact hr0
            have hzn : ((z : Int) != 0) = true := by rw [bne_iff_ne]; omega
            clear hg hr0
            go_wp2_with (go_at_call 17; (with_reducible refine (Right_any _ _ _).mono ?_); rintro e w5 ⟨rfl, rfl⟩)
            go_ret2
            refine ⟨HCc.out.alloc _, ?_⟩
            rw [if_neg Hbad.out]
            rfl
          · have hr : rightB x y = false := by rw [Hrt.out, decide_eq_false_iff_not]; exact hr0
            clear hg hr0
            go_wp2_with (go_at_call 17; (with_reducible refine (Right_any _ _ _).mono ?_); rintro e w5 ⟨rfl, rfl⟩)
            go_ret2
            refine ⟨HCc.out.alloc _, ?_⟩
            rw [if_neg Hbad.out]
            rfl
    · obtain rfl : k = m := by omega
      have hpos : decide (0 < lf) = false := by rw [decide_eq_false_iff_not]; omega
      clear hlf
      go_wp2_with fail
      with_reducible refine HLf.out.mono ?_
      rintro e w2 ⟨rfl, q, rfl⟩
      go_wp2
      go_ret2
      refine ⟨HC.out.drewN q, ?_⟩
      rw [if_pos Hgood.out]
      exact ⟨A', c', rfl, HO.out, hkc⟩
end Go.Proofs.Ytcnnakidpnhecaa
