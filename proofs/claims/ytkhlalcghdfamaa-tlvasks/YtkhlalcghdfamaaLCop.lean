import Derived.Test.YtkhlalcghdfamaaPush
namespace Go.Proofs.Ytkhlalcghdfamaa
open Go.RowKit
theorem btw_grow {w w1 w2 w3 : World} (h1 : w.heap.size ≤ w1.heap.size) (h2 : w2.heap.size ≤ w3.heap.size) : ∀ j, Btw w1 w2 j → Btw w w3 j := fun j ⟨a, b⟩ => ⟨by omega, by omega⟩
theorem cells3 {w : World} {F : Nat → Prop} {a : Addr} {i : Nat} {t : Int} {vb vs : Value} (h : Three w F (some a) i t vb vs) : w.cell? (a.add (i * 3)) = some (.int .i64 t) ∧ w.cell? ⟨(a.add (i * 3)).block, (a.add (i * 3)).off + 1, none⟩ = some vb ∧ w.cell? ⟨(a.add (i * 3)).block, (a.add (i * 3)).off + 2, none⟩ = some vs := by
  obtain ⟨a', h, _, h0⟩ := h
  simp only [Option.some.injEq] at h
  subst h
  exact h0
set_option maxRecDepth 100000 in
set_option maxHeartbeats 4000000 in
theorem lcopied_any : ∀ (N : Nat) (T : Tr), T.size < N → ∀ (n : Nat) (A : Option Addr) (c : Nat) (w : World) (F : Nat → Prop), T.len = n → Lay w F A 0 T → (∀ k, F k → k < w.heap.size) → n * 56 ≤ 140737488351232 →
    Calls Try.prog 11 #[.slice A n c] w fun e w' => ∃ A' c', e = .returned (.slice A' n c') ∧ OwnE w' (Btw w w') (.slice A' n c') T ∧ New w w' := by
  intro N
  induction N with
  | zero => intro T hT; omega
  | succ N ih =>
    intro T hT n A c w F hn hL hF hs
    have IH := Lib.hid ih; clear ih
    have Hn := Lib.hid hn; clear hn
    have HL := Lib.hid hL; clear hL
    have HT := Lib.hid hT; clear hT
    have HF := Lib.hid hF; clear hF
    go_enter Try.func11, Try.ntmps11
    go_wp2_with fail
    go_loopg [3, 4] n (fun gk o i wr => ∃ (k : Nat) (D R : Tr) (A3 : Option Addr) (c3 : Nat), k + R.len = n ∧ gk = n - k ∧ o = .slice A3 k c3 ∧ i = .int .i64 k ∧ Lay w F A k R ∧ R.size < N + 1 ∧ D.app R = T ∧ Done w wr (.slice A3 k c3) k D ∧ New w wr)
    case atStart => exact ⟨0, .nil, T, none, 0, by rw [Hn.out]; omega, by omega, rfl, rfl, HL.out, HT.out, rfl, Done.start w, Chg.refl _ _⟩
    case round =>
      obtain ⟨k, D, R, A3, c3, hk, rfl, rfl, rfl, hLR, hRs, hDR, hD, hN⟩ := hrel
      have HDR := Lib.hid hDR; clear hDR
      cases R with
      | nil =>
        obtain rfl : k = n := by rw [← hk]; rfl
        have HN := Lib.hid hN
        have HD := Lib.hid hD.out
        clear hk hLR hRs hN hD
        go_wp2_with fail
        go_ret
        refine ⟨A3, c3, rfl, ?_, HN.out⟩
        have h := HDR.out
        rw [Tr.app_nil] at h
        rw [← h]; exact HD.out
      | cons t bs sub rest =>
        obtain ⟨⟨vb, B, cb, h3, hb, hnil, hsl, ht, hLs⟩, hLr⟩ := hLR
        obtain ⟨Ab, cc, rfl, hAb, hbnil, hb256, hbb⟩ := hb.new hN HF.out
        have h3' := h3.chg hN (fun k hk => ⟨HF.out k hk, fun f => f⟩)
        obtain ⟨a, rfl, hab, h0, h1, h2⟩ := h3'
        simp only [Tr.len] at hk
        simp only [Tr.size] at hRs
        have hlt : k < n := by omega
        have Hk := Lib.hid hk; clear hk
        have HLr := Lib.hid hLr; clear hLr
        obtain ⟨p, hp⟩ : ∃ p, p = sub.len := ⟨_, rfl⟩
        obtain ⟨bl, hbl⟩ : ∃ bl, bl = bs.length := ⟨_, rfl⟩
        rw [← hp] at h2 hsl h3
        rw [← hbl] at h1 hAb hbb hbnil h3
        have hwsz := hN.size
        have hpb : (a.add (k * 3)).block < wr.heap.size := by rw [add_block]; exact Nat.lt_of_lt_of_le (HF.out _ hab) hwsz
        have HC : Hid (∀ w0, New wr w0 → Calls Try.prog 11 #[.slice B p cb] w0 fun e w' => ∃ A' c', e = .returned (.slice A' p c') ∧ OwnE w' (Btw w0 w') (.slice A' p c') sub ∧ New w0 w') := fun w0 hw0 =>
          IH.out sub (by omega) p B cb w0 F hp.symm (hLs.new (hN.then_new hw0) HF.out) (fun k hk => Nat.lt_of_lt_of_le (HF.out k hk) (hN.then_new hw0).size) hsl
        have HK : Hid (∀ wy, New w wy → wy.cell? (a.add (k * 3)) = some (.int .i64 t) ∧ wy.cell? ⟨(a.add (k * 3)).block, (a.add (k * 3)).off + 1, none⟩ = some (.slice Ab bl cc) ∧ wy.cell? ⟨(a.add (k * 3)).block, (a.add (k * 3)).off + 2, none⟩ = some (.slice B p cb)) := fun wy hy =>
          cells3 (h3.chg hy (fun k hk => ⟨HF.out k hk, fun f => f⟩))
        have HAb : Hid (∀ wy, New wr wy → Arr wy F Ab bl (fun i => bV (bs.getD i 0))) := fun wy hy => hAb.new hy (fun j hj => Nat.lt_of_lt_of_le (HF.out j hj) hwsz)
        have HRs := Lib.hid hRs; clear hRs
        have HN := Lib.hid hN; clear hN
        obtain ⟨hDl, xs, hOx, hTx⟩ := hD
        have HDl := Lib.hid hDl; clear hDl
        have HOx := Lib.hid hOx; clear hOx
        have HTx := Lib.hid hTx; clear hTx
        have Hbnil := Lib.hid hbnil; clear hbnil
        have Hb256 := Lib.hid hb256; clear hb256
        have Hp := Lib.hid hp; clear hp
        have Hbl := Lib.hid hbl; clear hbl
        have hHsl := Lib.hid hsl
        clear hLs h3 hb hab hAb hnil
        go_upto_region 5 with (fail)
        go_region_held_law (fun w' => w'.cell? (a.add (k * 3)) = some (.int .i64 t) ∧ w'.cell? ⟨(a.add (k * 3)).block, (a.add (k * 3)).off + 1, none⟩ = some (.slice Ab bl cc) ∧ w'.cell? ⟨(a.add (k * 3)).block, (a.add (k * 3)).off + 2, none⟩ = some (.slice B p cb))
            (exact HK.out _ (by repeat (first | exact HW8.out | exact HW7.out | exact HW6.out | exact HN.out | refine Chg.alloc ?_ _ | refine Chg.drew ?_)))
            (first
              | (go_at_call 11; (with_reducible refine (HC.out _ (by ((with_reducible repeat (first | exact HN6.out | exact Chg.refl _ _ | refine Chg.alloc ?_ _ | refine Chg.drew ?_)); fail_if_success (have := True.intro)))).mono ?_); rintro e w7 ⟨A7, c7, rfl, hO7, hN7⟩; have HO7 := Lib.hid hO7; have HM7 := Lib.hid hN7; have HN7 := Lib.hid (Chg.then_new (S := fun _ => False) (by ((with_reducible repeat (first | exact HN6.out | exact Chg.refl _ _ | refine Chg.alloc ?_ _ | refine Chg.drew ?_)); fail_if_success (have := True.intro))) hN7 : New wr w7); clear hO7 hN7; have HW7 := Lib.hid (HN.out.then_new HN7.out))
              | (refine step_copy (wX := wr) (by kernel_rfl) (by ((with_reducible repeat (first | exact HN7.out | exact Chg.refl _ _ | refine Chg.alloc ?_ _ | refine Chg.drew ?_)); fail_if_success (have := True.intro))) (.tmp 17) (.tmp 22) rfl _ rfl (by ((with_reducible repeat (first | exact Has.new_at _ _ _ _ rfl | refine Has.drew ?_ | refine Has.alloc ?_ _ | refine Has.keep ?_ HM7.out)); fail_if_success (have := True.intro))) (by first | omega | (have := HN7.out.size; omega)) Ab bl cc bs F rfl (HAb.out _ (by ((with_reducible repeat (first | exact HN7.out | exact Chg.refl _ _ | refine Chg.alloc ?_ _ | refine Chg.drew ?_)); fail_if_success (have := True.intro)))) Hbl.out.symm Hbnil.out hbb ?_
                 intro A6 c6 w6 hO6 hN6 hC6
                 have HO6 := Lib.hid hO6
                 have HN6 := Lib.hid hN6
                 have HC6 := Lib.hid hC6
                 clear hO6 hN6 hC6
                 have HW6 := Lib.hid (HN.out.then_new HN6.out))
              | (refine step_push (wX := w) (by kernel_rfl) (by first | (have := HN6.out.size; have := HN.out.size; simp; omega) | (have := HN7.out.size; have := HN.out.size; simp; omega)) (.tmp 11) (.tmp 31) rfl (.slice A3 k c3) k xs rfl (own_new HOx.out (by ((with_reducible repeat (first | exact HN6.out | exact HN7.out | exact Chg.refl _ _ | refine Chg.alloc ?_ _ | refine Chg.drew ?_)); fail_if_success (have := True.intro)))) _ _ _ _ rfl (by ((with_reducible repeat (first | exact Has.new_at _ _ _ _ rfl | refine Has.drew ?_ | refine Has.alloc ?_ _)); fail_if_success (have := True.intro))) rfl rfl rfl (by omega) ?_
                 intro A8 c8 w8 hO8 hC8 hf8
                 have HO8 := Lib.hid hO8
                 have HC8 := Lib.hid hC8
                 have Hf8 := Lib.hid hf8
                 clear hO8 hC8 hf8
                 have HW8 : Hid (New w w8) := Chg.trans (S := fun _ => False) (by ((with_reducible repeat (first | exact HW6.out | exact HW7.out | refine Chg.alloc ?_ _ | refine Chg.drew ?_)); fail_if_success (have := True.intro))) HC8.out (fun i hi hk => by have := (HOx.out.lt i hk).1; omega)))
        have HD8 : Hid (Done w w8 (.slice A8 (k + 1) c8) (k + 1) (D.app (.cons t bs sub .nil))) := by
          have h6 := HO6.out
          rw [Hbl.out] at h6
          refine Done.push HDl.out HOx.out HTx.out hwsz (HN7.out.alloc _) (vb := .slice A6 bl c6) (vs := .slice A7 p c7) ?_ Hb256.out (by rw [← Hbl.out]; exact hbb) (by rw [← Hp.out]; exact hsl) ht ?_ HO8.out HC8.out Hf8.out
          · rw [Hbl.out]
            exact ⟨own_new (own_less0 h6) (HM7.out.alloc _), fun j hj => ⟨(h6.lt j hj).1, Nat.lt_of_lt_of_le (h6.lt j hj).2 (HM7.out.alloc _).size⟩⟩
          · exact (HO7.out.new ((Chg.refl _ _).alloc _)).mono (btw_grow HN6.out.size (by simp))
        clear HK HAb HC
        go_wp2_with fail
        go_roundg (n - (k + 1))
        case measure => omega
        case rel => exact ⟨k + 1, D.app (.cons t bs sub .nil), rest, A8, c8, by have := Hk.out; omega, rfl, rfl, by go_num, HLr.out, by have := HRs.out; omega, by rw [Tr.app_app]; exact HDR.out, HD8.out, HW8.out⟩
end Go.Proofs.Ytkhlalcghdfamaa
