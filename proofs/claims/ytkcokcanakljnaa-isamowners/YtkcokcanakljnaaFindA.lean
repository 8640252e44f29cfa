/-
  Find copies an element: copiedElem gives its tag, its bytes and all that is nested in it in new rows.
-/
import Derived.Test.YtkcokcanakljnaaLCop
import Derived.Test.YtkcokcanakljnaaGetB
import Derived.Test.YtkcokcanakljnaaPutC
import Derived.Test.YtkcokcanakljnaaTlvB
namespace Go.Proofs.Ytkcokcanakljnaa
open Go.RowKit
/-- an element in new memory -/
def ElR (w : World) (t : Int) (bs : List Nat) (sub : Tr) (e : Ending) (w' : World) : Prop := ∃ A1 c1 A2 c2, e = .returned (.agg #[.int .i64 t, .slice A1 bs.length c1, .slice A2 sub.len c2]) ∧ OwnR w' (Btw w w') 5 1 (.slice A1 bs.length c1) bs.length (bs.map bV) ∧ OwnE w' (Btw w w') (.slice A2 sub.len c2) sub
theorem Done.far {w wr wy : World} {v : Value} {k g : Nat} {D : Tr} (h : Done w wr v k D) (hC : Chg (· = g) wr wy) (hg : g < w.heap.size) : Done w wy v k D := by
  obtain ⟨hl, xs, hO, hT⟩ := h
  exact ⟨hl, xs, own_chg hO hC (fun j hj he => by have := (hO.lt j hj).1; omega), (OwnT.chg hC (fun j hj he => by have := hj.1; omega) hT).mono fun j ⟨h1, h2, h3⟩ => ⟨h1, Nat.lt_of_lt_of_le h2 hC.size, h3⟩⟩
theorem set3 {w : World} {g : Nat} {z0 z1 z2 : Value} (u0 u1 u2 : Value) (hg : Has w g 95 #[z0, z1, z2]) :
    Has (((w.setCell ⟨g, 0, none⟩ u0).setCell ⟨g, 1, none⟩ u1).setCell ⟨g, 2, none⟩ u2) g 95 #[u0, u1, u2] ∧ Chg (· = g) w (((w.setCell ⟨g, 0, none⟩ u0).setCell ⟨g, 1, none⟩ u1).setCell ⟨g, 2, none⟩ u2) :=
  ⟨((hg.set 0 u0).set 1 u1).set 2 u2, Chg.setCell (S := (· = g)) (Chg.setCell (S := (· = g)) (Chg.setCell (S := (· = g)) (Chg.refl _ w) (fun _ => rfl) u0) (fun _ => rfl) u1) (fun _ => rfl) u2⟩
set_option maxRecDepth 100000 in
set_option maxHeartbeats 8000000 in
theorem copiedElem_any : ∀ (N : Nat) (sub : Tr), sub.size < N → ∀ (t : Int) (bs : List Nat) (p bl : Nat) (Ab B : Option Addr) (cb cc : Nat) (w : World) (F : Nat → Prop), sub.len = p → Byts w F (.slice Ab bl cb) bs → Lay w F B 0 sub → (∀ k, F k → k < w.heap.size) → p * 56 ≤ 140737488351232 →
    Calls Try.prog 82 #[.agg #[.int .i64 t, .slice Ab bl cb, .slice B p cc]] w fun e w' => ElR w t bs sub e w' ∧ New w w' := by
  intro N
  induction N with
  | zero => intro sub hT; omega
  | succ N ih =>
    intro sub hT t bs p bl Ab B cb cc w F hp hB hL hF hps
    obtain ⟨hbl, hblb, hb256⟩ := hB.len
    have IH := Lib.hid ih; clear ih
    have Hp := Lib.hid hp; clear hp
    have HB := Lib.hid hB; clear hB
    have HL := Lib.hid hL; clear hL
    have HF := Lib.hid hF; clear hF
    have HT := Lib.hid hT; clear hT
    have Hbl := Lib.hid hbl; clear hbl
    have Hb256 := Lib.hid hb256; clear hb256
    have HC4 : Hid (∀ wy, New w wy → Calls Try.prog 96 #[.slice Ab bl cb] wy fun e w' => ∃ A' c', e = .returned (.slice A' bl c') ∧ w'.ownsRow wy.heap.size 5 1 (.slice A' bl c') bl (bs.map bV) ∧ New wy w') := fun wy hy => tcopied_any bs bl cb Ab wy F (HB.out.new hy HF.out) (fun k hk => Nat.lt_of_lt_of_le (HF.out k hk) hy.size)
    go_enter Try.func82, Try.ntmps82
    go_upto_region 1 with (fail)
    go_cut [3] (fun s3 wc => ∃ A1 c1 g3, s3 = .pointer (some ⟨g3, 0, none⟩) ∧ Has wc g3 95 #[.int .i64 t, .slice A1 bl c1, .slice none 0 0] ∧ w.heap.size + 1 < g3 ∧ Has wc w.heap.size 95 #[.int .i64 t, .slice Ab bl cb, .slice B p cc] ∧ Has wc (w.heap.size + 1) 95 #[.int .i64 0, .slice none 0 0, .slice none 0 0] ∧ wc.ownsRow w.heap.size 5 1 (.slice A1 bl c1) bl (bs.map bV) ∧ New w wc)
    case first =>
      have HK : Hid (∀ wy, Chg (fun k => w.heap.size < k) (w.alloc (.cells #[.int .i64 t, .slice Ab bl cb, .slice B p cc] 95)) wy → wy.cell? ⟨w.heap.size, 0, none⟩ = some (.int .i64 t) ∧ wy.cell? ⟨w.heap.size, 1, none⟩ = some (.slice Ab bl cb)) := fun wy hy => by
        have hg := (Has.new w 95 #[.int .i64 t, .slice Ab bl cb, .slice B p cc]).chg hy (by omega)
        exact ⟨hg.cell 0, hg.cell 1⟩
      go_region_held_law (fun w' => w'.cell? ⟨w.heap.size, 0, none⟩ = some (.int .i64 t) ∧ w'.cell? ⟨w.heap.size, 1, none⟩ = some (.slice Ab bl cb))
        (with_reducible refine HK.out _ ?_; with_reducible repeat (first | exact HM4.out | exact Chg.refl _ _ | refine Chg.alloc ?_ _ | refine Chg.drew ?_ | refine Chg.setCell ?_ (fun _ => by first | omega | (dsimp only; omega)) _))
        (first
          | (go_at_call 96; (with_reducible refine (HC4.out _ (by with_reducible repeat (first | exact Chg.refl _ _ | refine Chg.alloc ?_ _ | refine Chg.drew ?_))).mono ?_); rintro e w4 ⟨A1, c1, rfl, hO1, hN4⟩; have hg3 : Has w4 (w.heap.size + 2) 95 #[.int .i64 0, .slice none 0 0, .slice none 0 0] := Has.keep (by ((with_reducible repeat (first | exact Has.new_at _ _ _ _ (by simp; fail_if_success (have := True.intro)) | refine Has.drew ?_ | refine Has.alloc ?_ _)); fail_if_success (have := True.intro))) hN4; have hz0 := hg3.cell 0; have hz1 := hg3.cell 1; have hz2 := hg3.cell 2; have hzf0 := hg3.free 0; have hzf1 := hg3.free 1; have hzf2 := hg3.free 2; simp at hz0 hz1 hz2; have HG3 := Lib.hid hg3; clear hg3; have HO1 := Lib.hid hO1; have HM4 : Hid (Chg (fun k => w.heap.size < k) (w.alloc (.cells #[.int .i64 t, .slice Ab bl cb, .slice B p cc] 95)) w4) := Chg.then_new (by with_reducible repeat (first | exact Chg.refl _ _ | refine Chg.alloc ?_ _ | refine Chg.drew ?_)) hN4; have HR4 : Hid (Has w4 (w.heap.size + 1) 95 #[.int .i64 0, .slice none 0 0, .slice none 0 0]) := Has.keep (by ((with_reducible repeat (first | exact Has.new_at _ _ _ _ (by simp; fail_if_success (have := True.intro)) | refine Has.drew ?_ | refine Has.alloc ?_ _)); fail_if_success (have := True.intro))) hN4; have HS4 : Hid (Has w4 w.heap.size 95 #[.int .i64 t, .slice Ab bl cb, .slice B p cc]) := (Has.new w 95 _).chg HM4.out (by omega); have hs4 := hN4.size; simp at hs4; have HN4 : Hid (New w w4) := Chg.then_new (by with_reducible repeat (first | exact Chg.refl _ _ | refine Chg.alloc ?_ _ | refine Chg.drew ?_)) hN4; clear hN4 hO1)
          | (go_at_call 96; (with_reducible refine (HC4.out _ (by with_reducible repeat (first | exact Chg.refl _ _ | refine Chg.alloc ?_ _ | refine Chg.drew ?_))).mono ?_); rintro e w4 ⟨A1, c1, rfl, hO1, hN4⟩; have HO1 := Lib.hid hO1; have HM4 : Hid (Chg (fun k => w.heap.size < k) (w.alloc (.cells #[.int .i64 t, .slice Ab bl cb, .slice B p cc] 95)) w4) := Chg.then_new (by with_reducible repeat (first | exact Chg.refl _ _ | refine Chg.alloc ?_ _ | refine Chg.drew ?_)) hN4; have HR4 : Hid (Has w4 (w.heap.size + 1) 95 #[.int .i64 0, .slice none 0 0, .slice none 0 0]) := Has.keep (by ((with_reducible repeat (first | exact Has.new_at _ _ _ _ (by simp; fail_if_success (have := True.intro)) | refine Has.drew ?_ | refine Has.alloc ?_ _)); fail_if_success (have := True.intro))) hN4; have HS4 : Hid (Has w4 w.heap.size 95 #[.int .i64 t, .slice Ab bl cb, .slice B p cc]) := (Has.new w 95 _).chg HM4.out (by omega); have hs4 := hN4.size; simp at hs4; have HN4 : Hid (New w w4) := Chg.then_new (by with_reducible repeat (first | exact Chg.refl _ _ | refine Chg.alloc ?_ _ | refine Chg.drew ?_)) hN4; clear hN4 hO1))
      · go_wp2
        go_meet
        case rel =>
          have hG := Has.new w4 95 #[.int .i64 t, .slice A1 bl c1, .slice none 0 0]
          have hCC : New w4 (w4.alloc (.cells #[.int .i64 t, .slice A1 bl c1, .slice none 0 0] 95)) := (Chg.refl _ w4).alloc _
          revert hG hCC
          generalize w4.alloc (.cells #[.int .i64 t, .slice A1 bl c1, .slice none 0 0] 95) = w5
          intro hG hCC
          refine ⟨A1, c1, w4.heap.size, rfl, hG, by omega, HS4.out.keep hCC, HR4.out.keep hCC, ?_, HN4.out.then_new hCC⟩
          exact own_new (own_less HO1.out (by simp; omega)) hCC
      · go_wp2
        go_meet
        case rel =>
          have hx := set3 (.int .i64 t) (.slice A1 bl c1) (.slice none 0 0) (HG3.out)
          revert hx
          generalize ((World.setCell (w4) ⟨(w.heap.size + 1 + 1), 0, none⟩ (.int .i64 t)).setCell ⟨(w.heap.size + 1 + 1), 1, none⟩ (.slice A1 bl c1)).setCell ⟨(w.heap.size + 1 + 1), 2, none⟩ (.slice none 0 0) = w5
          rintro ⟨hG, hC0⟩
          have hCC : Chg (· = (w.heap.size + 1 + 1)) w4 w5 := hC0
          clear hC0
          refine ⟨A1, c1, (w.heap.size + 1 + 1), rfl, hG, by omega, ?_, ?_, ?_, ?_⟩
          · exact HS4.out.chg hCC (by omega)
          · exact HR4.out.chg hCC (by omega)
          · exact own_chg (own_less HO1.out (by simp; omega)) hCC (fun k hk he => by have := (HO1.out.lt k hk).1; simp at this; omega)
          · exact HN4.out.trans hCC (fun i hi he => by omega)
    case rest =>
      obtain ⟨A1, c1, g3, rfl, hg3, hgg, hg1, hg2, hO1, hNc⟩ := hcut
      have hfc := hg1.cell 2
      simp at hfc
      have hg3l := hg3.lt
      have Hg3 := Lib.hid hg3; clear hg3
      have Hg2 := Lib.hid hg2; clear hg2
      have HO1 := Lib.hid hO1; clear hO1
      have HNc := Lib.hid hNc; clear hNc hg1 HC4
      go_wp2_with fail
      go_loopg [15] p (fun gk i wr => ∃ (k : Nat) (D R : Tr) (A3 : Option Addr) (c3 : Nat), k + R.len = p ∧ gk = p - k ∧ i = .int .i64 k ∧ Lay w F B k R ∧ R.size < N + 1 ∧ D.app R = sub ∧ Has wr g3 95 #[.int .i64 t, .slice A1 bl c1, .slice A3 k c3] ∧ Done wc wr (.slice A3 k c3) k D ∧ Chg (· = g3) wc wr)
      case atStart => exact ⟨0, .nil, sub, none, 0, by rw [Hp.out]; omega, by omega, rfl, HL.out, HT.out, rfl, Hg3.out, Done.start wc, Chg.refl _ _⟩
      case round =>
        obtain ⟨k, D, R, A3, c3, hk, rfl, rfl, hLR, hRs, hDR, hgr, hD, hC⟩ := hrel
        have HDR := Lib.hid hDR; clear hDR
        have hz0 := hgr.cell 0
        have hz1 := hgr.cell 1
        have hz2 := hgr.cell 2
        simp at hz0 hz1 hz2
        cases R with
        | nil =>
          obtain rfl : k = p := by rw [← hk]; rfl
          have hg2r := Hg2.out.chg hC (by omega)
          have hf0 := hg2r.free 0
          have hf1 := hg2r.free 1
          have hf2 := hg2r.free 2
          have hy0 := hg2r.cell 0
          have hy1 := hg2r.cell 1
          have hy2 := hg2r.cell 2
          simp at hy0 hy1 hy2
          have Hg2r := Lib.hid hg2r; clear hg2r
          have HC := Lib.hid hC
          have HD := Lib.hid hD
          clear hk hLR hRs hC hD hgr hfc
          go_wp2_with fail
          have hx := set3 (.int .i64 t) (.slice A1 bl c1) (.slice A3 k c3) Hg2r.out
          revert hx
          generalize ((World.setCell wr ⟨w.heap.size + 1, 0, none⟩ (.int .i64 t)).setCell ⟨w.heap.size + 1, 1, none⟩ (.slice A1 bl c1)).setCell ⟨w.heap.size + 1, 2, none⟩ (.slice A3 k c3) = w5
          rintro ⟨hG, hC5⟩
          have e0 := hG.cell 0
          have e1 := hG.cell 1
          have e2 := hG.cell 2
          simp at e0 e1 e2
          (try simp only [Exit.inBlock, Exit.then])
          refine bodyPost_ret (v := .agg #[.int .i64 t, .slice A1 bl c1, .slice A3 k c3]) (by simp [results, Try.results82, go_sem, e0, e1, e2]) rfl ?_
          have h := HDR.out
          rw [Tr.app_nil] at h
          subst h
          have hN5 : New w w5 := (HNc.out.trans HC.out (fun i hi he => by omega)).trans hC5 (fun i hi he => by omega)
          refine ⟨⟨A1, c1, A3, c3, by rw [Hbl.out, Hp.out], ?_, ?_⟩, hN5⟩
          · rw [Hbl.out]
            have h1 := own_chg HO1.out HC.out (fun j hj he => own_apart HO1.out Hg3.out (by decide) (by rw [hj, he]))
            have h2 := own_chg h1 hC5 (fun j hj he => own_apart h1 Hg2r.out (by decide) (by rw [hj, he]))
            exact ⟨own_less0 h2, fun j hj => h2.lt j hj⟩
          · have h1 := HD.out.out
            rw [Hp.out]
            exact (h1.chg hC5 (fun j hj he => by have := hj.1; omega)).mono (btw_grow HNc.out.size hC5.size)
        | cons t2 bs2 sub2 rest =>
          have hN : New w wr := HNc.out.trans hC (fun i hi he => by omega)
          obtain ⟨⟨vb, B2, cb2, h3, hb, hnil, hsl, ht, hLs⟩, hLr⟩ := hLR
          obtain ⟨Ab2, bl2, cc2, rfl⟩ : ∃ Ab bl cc, vb = .slice Ab bl cc := by obtain ⟨Ab, cc, h, _⟩ := hb; exact ⟨_, _, _, h⟩
          obtain ⟨a, rfl, hab, h0, h1, h2⟩ := h3.chg hN (fun k hk => ⟨HF.out k hk, fun f => f⟩)
          simp only [Tr.len] at hk
          simp only [Tr.size] at hRs
          have hlt : k < p := by omega
          have Hk := Lib.hid hk; clear hk
          have HLr := Lib.hid hLr; clear hLr
          obtain ⟨p2, hp2⟩ : ∃ p2, p2 = sub2.len := ⟨_, rfl⟩
          rw [← hp2] at h2 hsl
          have hwsz := hC.size
          have hg3r : g3 < wr.heap.size := by omega
          have hpb : (a.add (k * 3)).block < wr.heap.size := by rw [add_block]; exact Nat.lt_of_lt_of_le (HF.out _ hab) hN.size
          have HC2 : Hid (∀ w0, New wr w0 → Calls Try.prog 82 #[.agg #[.int .i64 t2, .slice Ab2 bl2 cc2, .slice B2 p2 cb2]] w0 fun e w' => ElR w0 t2 bs2 sub2 e w' ∧ New w0 w') := fun w0 hw0 =>
            IH.out sub2 (by omega) t2 bs2 p2 bl2 Ab2 B2 cc2 cb2 w0 F hp2.symm (hb.new (hN.then_new hw0) HF.out) (hLs.new (hN.then_new hw0) HF.out) (fun k hk => Nat.lt_of_lt_of_le (HF.out k hk) (hN.then_new hw0).size) hsl
          obtain ⟨hb256, hbl2⟩ : (∀ x ∈ bs2, x < 256) ∧ bs2.length ≤ 140737488355328 := ⟨hb.len.2.2, by have := hb.len; omega⟩
          have Hb2 := Lib.hid hb256; clear hb256
          have Hbl2 := Lib.hid hbl2; clear hbl2
          have HRs := Lib.hid hRs; clear hRs
          have HN := Lib.hid hN; clear hN
          obtain ⟨hDl, xs, hOx, hTx⟩ := hD
          have HDl := Lib.hid hDl; clear hDl
          have HOx := Lib.hid hOx; clear hOx
          have HTx := Lib.hid hTx; clear hTx
          have Hp2 := Lib.hid hp2; clear hp2
          have HC := Lib.hid hC; clear hC
          have Hgr := Lib.hid hgr; clear hgr
          have Ht := Lib.hid ht; clear ht
          clear hLs h3 hb hab hnil hfc
          go_upto_region 5 with (fail)
          have HNa : Hid (New wr (wr.alloc (.cells #[.int .i64 t2, .slice Ab2 bl2 cc2, .slice B2 p2 cb2] 95)).drew) := ((Chg.refl _ _).alloc _).drew
          go_region_law (first
            | (go_simp; go_at_call 82; (with_reducible refine (HC2.out _ HNa.out).mono ?_); rintro e w7 ⟨hE7, hN7⟩; obtain ⟨A7, c7, A8, c8, rfl, hO7, hO8⟩ := hE7; have HO7 := Lib.hid hO7; have HO8 := Lib.hid hO8; have HM7 := Lib.hid hN7; have HN7 := Lib.hid (HNa.out.then_new hN7); have hg7 := Hgr.out.keep HN7.out; have hq2 := hg7.cell 2; simp at hq2; have hg7l := hg7.lt; have hs7 := HN7.out.size; have Hg7 := Lib.hid hg7; clear hO7 hO8 hN7 hg7)
            | (refine step_push (wX := wc) (by kernel_rfl) (by simp; omega) (.tmp 20) (.tmp 23) rfl (.slice A3 k c3) k xs rfl (own_new HOx.out (by ((with_reducible repeat (first | exact HN7.out | refine Chg.alloc ?_ _ | refine Chg.drew ?_)); fail_if_success (have := True.intro)))) _ _ _ _ rfl (by ((with_reducible repeat (first | exact Has.new_at _ _ _ _ rfl | refine Has.drew ?_ | refine Has.alloc ?_ _)); fail_if_success (have := True.intro))) rfl rfl rfl (by omega) ?_
               intro A9 c9 w9 hO9 hC9 hf9
               have hg9 := (Hg7.out.alloc _).chg hC9 (fun hk => by have := (HOx.out.lt _ hk).1; omega)
               have hr2 := hg9.cell 2
               simp at hr2
               have hrf := hg9.free 2
               have HO9 := Lib.hid hO9
               have HC9 := Lib.hid hC9
               have Hf9 := Lib.hid hf9
               have Hg9 := Lib.hid hg9
               clear hO9 hC9 hf9 hg9))
          all_goals
            have HD9 : Hid (Done wc w9 (.slice A9 (k + 1) c9) (k + 1) (D.app (.cons t2 bs2 sub2 .nil))) := by
              refine Done.push HDl.out HOx.out HTx.out hwsz (HN7.out.alloc _) (vb := .slice A7 bs2.length c7) (vs := .slice A8 sub2.len c8) ?_ Hb2.out Hbl2.out (by rw [← Hp2.out]; exact hsl) Ht.out ?_ HO9.out HC9.out Hf9.out
              · exact ⟨own_new HO7.out.1 ((Chg.refl _ _).alloc _), fun j hj => btw_grow HNa.out.size (by simp) j (HO7.out.2 j hj)⟩
              · exact (HO8.out.new ((Chg.refl _ _).alloc _)).mono (btw_grow HNa.out.size (by simp))
            have HCs : Hid (Chg (· = g3) w9 (w9.setCell ⟨g3, 2, none⟩ (.slice A9 (k + 1) c9))) := (Chg.refl (· = g3) w9).setCell (fun _ => rfl) _
            have HCt : Hid (Chg (· = g3) wc w9) := (HC.out.then_new (HN7.out.alloc _)).trans HC9.out (fun i hi hk => by have := (HOx.out.lt i hk).1; omega)
            have Hgs := Lib.hid (Hg9.out.set 2 (.slice A9 (k + 1) c9))
            clear hq2 hr2 hrf
            go_wp2_with fail
            go_roundg (p - (k + 1))
            case measure => omega
            case rel => exact ⟨k + 1, D.app (.cons t2 bs2 sub2 .nil), rest, A9, c9, by have := Hk.out; omega, rfl, by go_num, HLr.out, by have := HRs.out; omega, by rw [Tr.app_app]; exact HDR.out, Hgs.out, HD9.out.far HCs.out (by omega), HCt.out.trans HCs.out (fun _ _ h => h)⟩
end Go.Proofs.Ytkcokcanakljnaa
