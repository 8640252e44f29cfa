/-
  What (*bits.Writer).put does: it appends the bits of the number.
-/
import Derived.Test.YtjkpijinpfimiaaBWa
import Derived.StillTailTactics
namespace Go.Proofs.Ytjkpijinpfimiaa
open Go.RowKit
set_option maxRecDepth 100000 in
set_option maxHeartbeats 1000000 in
theorem put_any (b : Nat) (v : Value) (L : List Bool) (width value : Nat) (w : World) (h : Wrt w b v L) (hw1 : 1 ≤ width) (hw2 : width ≤ 32) (hv : value < 4294967296) (hL : L.length + 32 ≤ 562949953421312) :
    Calls Try.prog 88 #[.pointer (some ⟨b, 0, none⟩), .agg #[.int .i64 width, .int .i64 value]] w fun e w' => e = .returned (.tuple #[]) ∧ ∃ v', Wrt w' b v' (L ++ bitsOf width value) ∧ WrX w w' b v v' := by
  obtain ⟨i0, hi, hz0, hz1, hz2⟩ := info_parts Try.info5
  have H := Lib.hid h; clear h
  go_enter Try.func88, Try.ntmps88
  go_wp2
  go_loopg [4] width (fun gk i wr => ∃ (k : Nat) (z : Int) (vr : Value), k ≤ width ∧ gk = width - k ∧ i = .int .i64 z ∧ z = (width : Int) - 1 - k ∧ Mid w wr b v vr (pack (L ++ (bitsOf width value).take k)).length (L ++ (bitsOf width value).take k).length (pack (L ++ (bitsOf width value).take k)) width value)
  case atStart => 
    refine ⟨0, _, v, by omega, by simp, rfl, by simp, ?_⟩
    rw [List.take_zero, List.append_nil]
    exact ⟨H.out.1.alloc _, H.out.2.alloc _, Has.new _ _ _, (Chg.refl _ _).alloc _, Or.inl rfl⟩
  case round =>
    obtain ⟨k, z, vr, hk, rfl, rfl, hz, hM⟩ := hrel
    by_cases hlt : k < width
    · obtain ⟨pl, hpl⟩ : ∃ pl : Nat, z = (pl : Int) := ⟨z.toNat, by omega⟩
      subst hpl
      have hk2 : pl + k + 1 = width := by omega
      have Hk := Lib.hid hk2; clear hz hk2
      have hpl31 : pl ≤ 31 := by have := Hk.out; omega
      obtain ⟨L', hL'⟩ : ∃ L', L' = L ++ (bitsOf width value).take k := ⟨_, rfl⟩
      rw [← hL'] at hM
      have hl' : L'.length ≤ L.length + 32 := by rw [hL']; simp; omega
      obtain ⟨cnt, hcnt⟩ : ∃ cnt, cnt = L'.length := ⟨_, rfl⟩
      rw [← hcnt] at hl' hM
      have hB : cnt ≤ 562949953421312 := by omega
      have HL' := Lib.hid hL'; clear hL'
      obtain ⟨m, hm⟩ : ∃ m, m = (pack L').length := ⟨_, rfl⟩
      have hm1 : 8 * m ≤ cnt + 7 := by rw [hm, hcnt]; simp; omega
      have hm2 : cnt ≤ 8 * m := by rw [hm, hcnt]; simp; omega
      rw [← hm] at hM
      have Hm := Lib.hid hm; clear hm
      have Hcnt := Lib.hid hcnt; clear hcnt
      obtain ⟨A, c, rfl, _⟩ := own_form hM.2.1
      have hc0 := hM.1.cell 0
      have hc1 := hM.1.cell 1
      have hf0 := hM.1.free 0
      simp at hc0 hc1
      have HM := Lib.hid hM; clear hM
      go_upto_if 17 with (fail)
      go_cut [] (fun wc => ∃ A m c, Mid w wc b v (.slice A m c) m cnt (pack (L' ++ [false])) width value ∧ cnt / 8 < m)
      case first =>
        by_cases h8 : cnt % 8 = 0
        · have h8' : ((cnt : Int) % 8 == 0) = true := by simp; omega
          have hm3 : cnt / 8 = m := by omega
          have Hm3 := Lib.hid hm3; clear hm3
          have H8 := Lib.hid h8; clear h8
          go_wp2_with (at_builtin; refine wpList_append_one rfl _ _ 22 rfl 0 5 i0 (.int .u8 0) 1 1 Try.underlying22 hi hz0 hz1 hz2 rfl (by decide) _ m ((pack L').map bV) rfl HM.out.2.1 #[_] rfl rfl ?a1 ?a2 ?a3 ?a4 ?_)
          case a1 => first | rfl | (intro u hu; simp at hu; subst hu; rfl)
          case a2 => simp only [maxLen]; omega
          case a3 => omega
          case a4 => omega
          intro A2 c2 w2 hO2 hC2 hF2
          have HO2 := Lib.hid hO2; clear hO2
          have HC2 := Lib.hid hC2; clear hC2
          have HF2 := Lib.hid hF2; clear hF2
          have hne : ¬ (Value.slice A m c).ownBlock = some b := own_apart HM.out.2.1 HM.out.1 (by decide)
          have hb2 := HM.out.1.chg HC2.out hne
          have hf2 := hb2.free 0
          have hc2 := hb2.cell 0
          simp at hc2
          have Hb2 := Lib.hid hb2; clear hb2
          have Hne := Lib.hid hne; clear hne
          go_wp2
          go_meet
          case rel =>
            refine ⟨A2, m + 1, c2, ⟨Hb2.out.set 0 _, ?_, ?_, ?_⟩, by have := Hm3.out; omega⟩
            · have e1 : pack (L' ++ [false]) = pack L' ++ [0] := pack_false_new L' (by rw [← Hcnt.out]; exact H8.out)
              rw [e1, List.map_append]
              refine own_chg (S := (· = b)) HO2.out ((Chg.refl (· = b) _).setCell (p := ⟨b, 0, none⟩) (fun _ => rfl) _) (fun k hk e => own_apart HO2.out Hb2.out (by decide) (e ▸ hk))
            · exact (HM.out.2.2.1.chg HC2.out (own_apart HM.out.2.1 HM.out.2.2.1 (by decide))).far (HM.out.2.2.1.apart HM.out.1 (by decide)) _
            · exact (HM.out.2.2.2.append HC2.out HF2.out).step ((Chg.refl _ _).setCell (p := ⟨b, 0, none⟩) (fun _ => Or.inl rfl) _)
        · have h8' : ((cnt : Int) % 8 == 0) = false := by simp; omega
          have hm3 : cnt / 8 < m := by omega
          have Hm3 := Lib.hid hm3; clear hm3
          have H8 := Lib.hid h8; clear h8
          go_wp2
          go_meet
          case rel =>
            refine ⟨A, m, c, ⟨HM.out.1, ?_, HM.out.2.2.1, HM.out.2.2.2⟩, Hm3.out⟩
            have e1 : pack (L' ++ [false]) = pack L' := pack_false_old L' (by rw [← Hcnt.out]; exact H8.out)
            rw [e1]; exact HM.out.2.1
      case rest =>
        clear hc0 hc1 hf0 HM
        obtain ⟨A, m, c, hM, hm3⟩ := hcut
        have hc0 := hM.1.cell 0
        have hc1 := hM.1.cell 1
        have hf1 := hM.1.free 1
        have hF1 := hM.2.2.1.cell 1
        simp at hc0 hc1 hF1
        have HM := Lib.hid hM; clear hM
        go_upto_if 32 with (fail)
        go_cut [] (fun wd => Mid w wd b v (.slice A m c) m cnt (pack (L' ++ [value / 2 ^ pl % 2 == 1])) width value)
        case first =>
          have hand := and_one value pl hv
          by_cases hx : value / 2 ^ pl % 2 = 1
          · have hxb : (value / 2 ^ pl % 2 == 1) = true := by simp [hx]
            rw [hxb] at hand
            have HXB := Lib.hid hxb; clear hx hxb
            have hqd : (cnt : Int) / 8 < (m : Int) := by omega
            have hqd0 : 0 ≤ (cnt : Int) / 8 := by omega
            have hqt : ((cnt : Int) / 8).toNat = cnt / 8 := by omega
            have e1 : IntKind.i64.wrap ((cnt : Int) / 8) = (cnt : Int) / 8 := IntWalk.i64_in _ (by omega)
            obtain ⟨g, rfl, hcell, hfree⟩ : ∃ g, A = some ⟨g, 0, none⟩ ∧ wc.cell? ⟨g, cnt / 8, none⟩ = some (.int .u8 ((byteAt L' (cnt / 8) : Nat) : Int)) ∧ wc.frozen? ⟨g, cnt / 8, none⟩ = false := by
              rcases HM.out.2.1.2 with ⟨_, hn⟩ | ⟨g, c', cur, hv, _⟩
              · omega
              · simp only [Value.slice.injEq] at hv
                obtain ⟨rfl, _, rfl⟩ := hv
                refine ⟨g, rfl, ?_, HM.out.2.1.frozenAt _⟩
                rw [HM.out.2.1.cellAt (cnt / 8) (by omega), List.getElem?_map, pack_get _ _ (by rw [List.length_append, ← Hcnt.out]; simp; omega), byteAt_snoc_false]
                rfl
            have hbl := byteAt_lt L' (cnt / 8)
            obtain ⟨x, hx⟩ : ∃ x, x = byteAt L' (cnt / 8) := ⟨_, rfl⟩
            rw [← hx] at hbl hcell
            have Hx := Lib.hid hx; clear hx
            go_wp2
            refine wp_region_still_tail 18 (by kernel_rfl) (by kernel_rfl) ?_
            simp only [List.take_succ_cons, List.take_zero, List.drop_succ_cons, List.drop_zero]
            repeat (first | still_step | still_call (mask_any cnt _ (by omega)))
            refine wpStill_nil ?_
            change wpList _ _ _ _ _ wc.drew
            go_wp2
            go_meet
            case rel =>
              have hor : bits BinOp.or IntKind.u8 (x : Int) (128 / 2 ^ (cnt % 8)) = ((x ||| 128 / 2 ^ (cnt % 8) : Nat) : Int) := by rw [mask_cast, u8_or_nat x _ hbl (mask_lt cnt)]
              rw [hor, HXB.out, pack_true, ← Hcnt.out, ← Hx.out]
              have hM := HM.out
              refine ⟨(hM.1.far (p := ⟨g, cnt / 8, none⟩) (fun e => own_apart hM.2.1 hM.1 (by decide) (by rw [e]; rfl)) _).drew, ?_, (hM.2.2.1.far (p := ⟨g, cnt / 8, none⟩) (fun e => own_apart hM.2.1 hM.2.2.1 (by decide) (by rw [e]; rfl)) _).drew, hM.2.2.2.step (((Chg.refl _ _).setCell (p := ⟨g, cnt / 8, none⟩) (fun _ => Or.inr rfl) _).drew)⟩
              rw [List.map_set]
              exact (hM.2.1.stored (cnt / 8) _).1.drew
          · have hxb : (value / 2 ^ pl % 2 == 1) = false := by simp; omega
            rw [hxb] at hand
            have HXB := Lib.hid hxb; clear hx hxb
            go_wp2
            go_meet
            case rel =>
              rw [HXB.out]; exact HM.out
        case rest =>
          clear hc0 hc1 hf1 hF1 HM
          have hM := hcut
          clear hcut
          have hc1 := hM.1.cell 1
          have hf1 := hM.1.free 1
          simp at hc1
          have HM := Lib.hid hM; clear hM
          go_wp2
          go_roundg (width - (k + 1))
          case measure => omega
          case rel =>
            have hM := HM.out
            have e2 : L ++ (bitsOf width value).take (k + 1) = L' ++ [value / 2 ^ pl % 2 == 1] := by
              rw [HL'.out, List.append_assoc, List.take_add_one, bitsOf_get width value k hlt]
              have : width - 1 - k = pl := by have := Hk.out; omega
              rw [this]; rfl
            refine ⟨k + 1, _, .slice A m c, by omega, rfl, rfl, by have := Hk.out; omega, ?_⟩
            rw [e2]
            have em : (pack (L' ++ [value / 2 ^ pl % 2 == 1])).length = m := by have := hM.2.1.1; simpa using this
            have ec : (L' ++ [value / 2 ^ pl % 2 == 1]).length = cnt + 1 := by rw [List.length_append, ← Hcnt.out]; rfl
            rw [em, ec]
            refine ⟨hM.1.set 1 _, own_chg (S := (· = b)) hM.2.1 ((Chg.refl (· = b) _).setCell (p := ⟨b, 1, none⟩) (fun _ => rfl) _) (fun k hk e => own_apart hM.2.1 hM.1 (by decide) (e ▸ hk)), hM.2.2.1.far (hM.2.2.1.apart hM.1 (by decide)) _, hM.2.2.2.step ((Chg.refl _ _).setCell (p := ⟨b, 1, none⟩) (fun _ => Or.inl rfl) _)⟩
    · obtain rfl : k = width := by omega
      have hz' : z = -1 := by omega
      clear hz
      subst hz'
      have HM := Lib.hid hM; clear hM
      go_wp2
      go_end0
      have hM := HM.out
      have e2 : (bitsOf k value).take k = bitsOf k value := List.take_of_length_le (by simp)
      rw [e2] at hM
      exact ⟨rfl, vr, ⟨hM.1, hM.2.1⟩, hM.2.2.2⟩
end Go.Proofs.Ytjkpijinpfimiaa
