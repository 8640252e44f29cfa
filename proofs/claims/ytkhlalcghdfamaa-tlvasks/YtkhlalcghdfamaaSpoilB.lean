import Derived.Test.YtkhlalcghdfamaaSpoilA
namespace Go.Proofs.Ytkhlalcghdfamaa
open Go.RowKit
set_option maxRecDepth 100000 in
set_option maxHeartbeats 4000000 in
theorem spoil_any : ∀ (N : Nat) (T : Tr), T.size < N → ∀ (n : Nat) (B : Option Addr) (c : Nat) (w : World) (F : Nat → Prop), T.len = n → ShV w F B T → n * 56 ≤ 140737488351232 →
    Calls Try.prog 17 #[.slice B n c] w fun e w' => e = .returned (.tuple #[]) ∧ Spo F w w' := by
  intro N
  induction N with
  | zero => intro T hT; omega
  | succ N ih =>
    intro T hT n B c w F hn hS hs
    have IH := Lib.hid ih; clear ih
    rcases Nat.eq_zero_or_pos n with hz | hz
    · subst hz
      clear hn hS hT IH
      go_enter Try.func17, Try.ntmps17
      go_wp2_with fail
      go_loopg [2] 1 (fun gk i wr => gk = 1 ∧ i = .int .i64 0 ∧ w = wr)
      case atStart => exact ⟨rfl, rfl, rfl⟩
      case round =>
        obtain ⟨rfl, rfl, rfl⟩ := hrel
        go_wp2_with fail
        go_end0
        exact ⟨rfl, Spo.refl _ _⟩
    · obtain ⟨g, cs0, rfl, hFg, hg0, hL0⟩ := hS (by rw [hn]; exact hz)
      have HFg := Lib.hid hFg; clear hFg
      have Hg0 := Lib.hid hg0; clear hg0
      have HL0 := Lib.hid hL0; clear hL0
      have Hn := Lib.hid hn; clear hn hS
      have HT := Lib.hid hT; clear hT
      go_enter Try.func17, Try.ntmps17
      go_wp2_with fail
      go_loopg [2] n (fun gk i wr => ∃ (k : Nat) (R : Tr) (cs : Array Value), k + R.len = n ∧ gk = n - k ∧ i = .int .i64 k ∧ Has wr g 41 cs ∧ ShL wr F cs k R ∧ R.size < N + 1 ∧ Spo F w wr)
      case atStart => exact ⟨0, T, cs0, by rw [Hn.out]; omega, by omega, rfl, Hg0.out, HL0.out, HT.out, Spo.refl _ _⟩
      case round =>
        obtain ⟨k, R, cs, hk, rfl, rfl, hg, hLR, hRs, hsp⟩ := hrel
        cases R with
        | nil =>
          obtain rfl : k = n := by rw [← hk]; rfl
          have Hsp := Lib.hid hsp
          clear hk hLR hRs hsp hg
          go_wp2_with fail
          go_end0
          exact ⟨rfl, Hsp.out⟩
        | cons t bs sub rest =>
          obtain ⟨⟨u, vb, C, cc, h0, h1, h2, hb, hbl, hsl, hss⟩, hLr⟩ := hLR
          obtain ⟨Ab, cb, rfl, hbb⟩ := hb
          simp only [Tr.len] at hk
          simp only [Tr.size] at hRs
          have hlt : k < n := by omega
          have Hk := Lib.hid hk; clear hk
          have HRs := Lib.hid hRs; clear hRs
          have Hg := Lib.hid hg; clear hg
          have H0 := Lib.hid h0; clear h0
          have H1 := Lib.hid h1; clear h1
          have H2 := Lib.hid h2; clear h2
          have Hbb := Lib.hid hbb; clear hbb
          have Hss := Lib.hid hss; clear hss
          have HLr := Lib.hid hLr; clear hLr
          have Hsp := Lib.hid hsp; clear hsp
          obtain ⟨bl, hble⟩ : ∃ bl, bl = bs.length := ⟨_, rfl⟩
          obtain ⟨p, hpe⟩ : ∃ p, p = sub.len := ⟨_, rfl⟩
          rw [← hble] at H1 Hbb hbl
          rw [← hpe] at H2 Hss hsl
          have Hpe := Lib.hid hpe; clear hpe hble
          go_wp2_with fail
          go_loopg [3] bl (fun gj j wi => ∃ q : Nat, q ≤ bl ∧ gj = bl - q ∧ j = .int .i64 q ∧ Spo F wr wi)
          case atStart => exact ⟨0, by omega, by omega, rfl, Spo.refl _ _⟩
          case round =>
            obtain ⟨q, hq, rfl, rfl, hsi⟩ := hrel
            obtain ⟨csi, hgi, hri⟩ := hsi.e41 g cs Hg.out
            have hc1 := (hgi.cell (k * 3 + 1)).trans ((hri k).1.1.trans H1.out)
            have hc2 := (hgi.cell (k * 3 + 2)).trans ((hri k).1.2.trans H2.out)
            obtain ⟨u', hu'⟩ := (hri k).2 u H0.out
            have hc0 := (hgi.cell (k * 3)).trans hu'
            by_cases hql : q < bl
            · obtain ⟨g5, cs5, rfl, hF5, hg5, hx5⟩ := Hbb.out (by omega)
              obtain ⟨ds, hd5, hr5⟩ := hsi.e5 g5 cs5 hg5
              obtain ⟨x, hx, hcx⟩ := hx5 q hql
              obtain ⟨x', hx', hcx'⟩ := hr5 q x hcx hx
              have hcell := (hd5.cell q).trans hcx'
              have hfr := hd5.free q
              obtain ⟨x2, hx2, hxor⟩ := xor_byte x'
              simp only [bV] at hcell
              have Hst := Lib.hid (Spo.byte (F := F) (j := q) hd5 hF5 hx2)
              have Hsi := Lib.hid hsi; clear hsi
              clear hgi hri hu' hd5 hr5 hx5 hg5 hcx hcx' hF5
              go_upto_region 6 with (fail)
              go_region
              go_wp2_with fail
              go_roundg (bl - (q + 1))
              case measure => omega
              case rel => exact ⟨q + 1, by omega, rfl, by go_num, (Hsi.out.trans Hst.out).drew⟩
            · obtain rfl : q = bl := by omega
              have HShs : Hid (ShV wr F C sub) := fun hn => by
                obtain ⟨g', cs', hC, hF', hg', hL'⟩ := Hss.out (by rw [Hpe.out]; exact hn)
                obtain ⟨cs2, hg2, hr2⟩ := hsi.e41 g' cs' hg'
                exact ⟨g', cs2, hC, hF', hg2, ShL.spo hsi hr2 hL'⟩
              have HC := Lib.hid (IH.out sub (by have := HRs.out; omega) p C cc wr F Hpe.out.symm HShs.out hsl)
              have HLi := Lib.hid (ShL.spo hsi hri HLr.out)
              have Hgi := Lib.hid hgi
              have Hsi := Lib.hid (Hsp.out.trans hsi); clear hsi
              clear hgi hri hu'
              go_wp2_with fail
              with_reducible refine HC.out.mono ?_
              rintro e w3 ⟨rfl, hs3⟩
              obtain ⟨cs3, hg3, hr3⟩ := hs3.e41 g csi Hgi.out
              have HL3 := Lib.hid (ShL.spo hs3 hr3 HLi.out)
              have hc3 := hg3.free (k * 3)
              have hd3 : ∃ u3, w3.cell? ⟨g, k * 3, none⟩ = some (.int .i64 u3) := by
                obtain ⟨u3, hu3⟩ := (hr3 k).2 u' (by rw [← Hgi.out.cell]; exact hc0)
                exact ⟨u3, (hg3.cell _).trans hu3⟩
              obtain ⟨u3, hd3⟩ := hd3
              have Hst := Lib.hid (Spo.tag (F := F) (k := k) (u := -1) hg3 HFg.out)
              have Hs3 := Lib.hid (Hsi.out.trans hs3); clear hs3
              have Hg3 := Lib.hid hg3; clear hg3 hr3
              clear hc0 hc1 hc2
              go_wp2_with fail
              go_roundg (n - (k + 1))
              case measure => omega
              case rel =>
                obtain ⟨cs4, hg4, hr4⟩ := Hst.out.e41 g cs3 Hg3.out
                exact ⟨k + 1, rest, cs4, by have := Hk.out; omega, rfl, by go_num, hg4, ShL.spo Hst.out hr4 HL3.out, by have := HRs.out; omega, Hs3.out.trans Hst.out⟩
end Go.Proofs.Ytkhlalcghdfamaa
