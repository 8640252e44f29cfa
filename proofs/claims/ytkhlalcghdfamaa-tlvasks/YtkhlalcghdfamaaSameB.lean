import Derived.Test.YtkhlalcghdfamaaSameA
namespace Go.Proofs.Ytkhlalcghdfamaa
open Go.RowKit
set_option maxRecDepth 100000 in
set_option maxHeartbeats 4000000 in
theorem Same_any : ∀ (N : Nat) (T U : Tr), T.size < N → ∀ (n m : Nat) (A B : Option Addr) (c d : Nat) (w : World) (F G : Nat → Prop), T.len = n → U.len = m → Lay w F A 0 T → Lay w G B 0 U → n * 56 ≤ 140737488351232 → m * 56 ≤ 140737488351232 → (∀ k, F k → k < w.heap.size) → (∀ k, G k → k < w.heap.size) →
    Calls Try.prog 18 #[.slice A n c, .slice B m d] w fun e w' => e = .returned (.bool (decide (T = U))) ∧ New w w' := by
  intro N
  induction N with
  | zero => intro T U hT; omega
  | succ N ih =>
    intro T U hT n m A B c d w F G hn hm hL hM hs hsm hF hG
    have IH := Lib.hid ih; clear ih
    have HEF : Hid (Calls Try.prog 31 #[.slice A n c, .slice B m d, .func (.func 32) #[] #[]] w fun e w' => e = .returned (.bool (decide (T = U))) ∧ New w w') := by
      by_cases hnm : n = m
      · subst hnm
        have Hn := Lib.hid hn; clear hn
        have Hm := Lib.hid hm; clear hm
        have HL := Lib.hid hL; clear hL
        have HM := Lib.hid hM; clear hM
        have HT := Lib.hid hT; clear hT
        have HF := Lib.hid hF; clear hF
        have HG := Lib.hid hG; clear hG
        go_enter Try.func31, Try.ntmps31
        go_wp2_with fail
        go_loopg [17] n (fun gk i wr => ∃ (k : Nat) (R S : Tr), k + R.len = n ∧ k + S.len = n ∧ gk = n - k ∧ i = .int .i64 k ∧ Lay w F A k R ∧ Lay w G B k S ∧ R.size < N + 1 ∧ (R = S ↔ T = U) ∧ New w wr)
        case atStart => exact ⟨0, T, U, by rw [Hn.out]; omega, by rw [Hm.out]; omega, by omega, rfl, HL.out, HM.out, HT.out, Iff.rfl, Chg.refl _ _⟩
        case round =>
          obtain ⟨k, R, S, hk, hk2, rfl, rfl, hLR, hLS, hRs, hRS, hN⟩ := hrel
          cases R with
          | nil =>
            obtain rfl : k = n := by rw [← hk]; rfl
            obtain rfl : S = .nil := Tr.len_zero (by omega)
            have HTU : Hid (decide (T = U) = true) := decide_eq_true (hRS.1 rfl)
            have HN := Lib.hid hN; clear hN
            clear hk hk2 hLR hLS hRs hRS
            go_wp2_with fail
            go_ret
            refine ⟨?_, HN.out⟩
            rw [HTU.out]; rfl
          | cons t bs sub rest =>
            cases S with
            | nil => simp only [Tr.len] at hk hk2; omega
            | cons t' bs' sub' rest' =>
              obtain ⟨⟨vb, B1, cb, h3, hb, hnil, hsl, ht, hLs⟩, hLr⟩ := hLR
              obtain ⟨⟨vb', B1', cb', h3', hb', hnil', hsl', ht', hLs'⟩, hLr'⟩ := hLS
              obtain ⟨Ab, bl, cc, rfl⟩ : ∃ Ab bl cc, vb = .slice Ab bl cc := by obtain ⟨Ab, cc, h, _⟩ := hb; exact ⟨_, _, _, h⟩
              obtain ⟨Ab', bl', cc', rfl⟩ : ∃ Ab bl cc, vb' = .slice Ab bl cc := by obtain ⟨Ab, cc, h, _⟩ := hb'; exact ⟨_, _, _, h⟩
              obtain ⟨a, rfl, hab, h0, h1, h2⟩ := h3.chg hN (fun k hk => ⟨HF.out k hk, fun f => f⟩)
              obtain ⟨a', rfl, hab', h0', h1', h2'⟩ := h3'.chg hN (fun k hk => ⟨HG.out k hk, fun f => f⟩)
              have hpb : (a.add (k * 3)).block < wr.heap.size := by rw [add_block]; exact Nat.lt_of_lt_of_le (HF.out _ hab) hN.size
              have hpb' : (a'.add (k * 3)).block < wr.heap.size := by rw [add_block]; exact Nat.lt_of_lt_of_le (HG.out _ hab') hN.size
              simp only [Tr.len] at hk hk2
              simp only [Tr.size] at hRs
              have hlt : k < n := by omega
              have Hk := Lib.hid hk; clear hk
              have Hk2 := Lib.hid hk2; clear hk2
              have HLr := Lib.hid hLr; clear hLr
              have HLr' := Lib.hid hLr'; clear hLr'
              have HC : Hid (∀ w0, New wr w0 → Calls Try.prog 32 #[.agg #[.int .i64 t, .slice Ab bl cc, .slice B1 sub.len cb], .agg #[.int .i64 t', .slice Ab' bl' cc', .slice B1' sub'.len cb']] w0 fun e w' => e = .returned (.bool (decide (t = t' ∧ bs = bs' ∧ sub = sub'))) ∧ New w0 w') := fun w0 hw0 =>
                Same1_any t t' bs bs' sub sub' Ab Ab' B1 B1' bl bl' cc cc' _ _ cb cb' w0 F G (hb.new (hN.then_new hw0) HF.out) (hb'.new (hN.then_new hw0) HG.out) (fun j hj => Nat.lt_of_lt_of_le (HF.out j hj) (hN.then_new hw0).size) (fun j hj => Nat.lt_of_lt_of_le (HG.out j hj) (hN.then_new hw0).size) (fun w1 hw1 =>
                  IH.out sub sub' (by omega) _ _ B1 B1' cb cb' w1 F G rfl rfl (hLs.new ((hN.then_new hw0).then_new hw1) HF.out) (hLs'.new ((hN.then_new hw0).then_new hw1) HG.out) hsl hsl' (fun j hj => Nat.lt_of_lt_of_le (HF.out j hj) ((hN.then_new hw0).then_new hw1).size) (fun j hj => Nat.lt_of_lt_of_le (HG.out j hj) ((hN.then_new hw0).then_new hw1).size))
              have HRs := Lib.hid hRs; clear hRs
              have HN := Lib.hid hN; clear hN
              have Hit : Hid ((t = t' ∧ bs = bs' ∧ sub = sub') → (rest = rest' ↔ T = U)) := fun ⟨e1, e2, e3⟩ => by rw [← hRS, e1, e2, e3]; simp
              have Hif : Hid (¬ (t = t' ∧ bs = bs' ∧ sub = sub') → ¬ (T = U)) := fun h hTU => h (by
                have := hRS.2 hTU
                simp only [Tr.cons.injEq] at this
                exact ⟨this.1, this.2.1, this.2.2.1⟩)
              clear hRS hLs hLs' hb hb' hnil hnil' hsl hsl' ht ht' hab hab' h3 h3'
              obtain ⟨p, hp⟩ : ∃ p, p = sub.len := ⟨_, rfl⟩
              obtain ⟨p', hp'⟩ : ∃ p, p = sub'.len := ⟨_, rfl⟩
              rw [← hp] at h2 HC
              rw [← hp'] at h2' HC
              clear hp hp'
              go_wp2_with fail
              with_reducible refine (HC.out _ (by with_reducible repeat (first | exact Chg.refl _ _ | refine Chg.alloc ?_ _ | refine Chg.drew ?_))).mono ?_
              rintro e w2 ⟨rfl, hN2⟩
              have HN2 : Hid (New w w2) := Chg.then_new (S := fun _ => False) (by with_reducible repeat (first | exact HN.out | refine Chg.alloc ?_ _ | refine Chg.drew ?_)) hN2
              clear hN2
              by_cases hd : t = t' ∧ bs = bs' ∧ sub = sub'
              · rw [decide_eq_true hd]
                have Hr := Lib.hid (Hit.out hd)
                clear hd
                go_wp2_with fail
                go_roundg (n - (k + 1))
                case measure => omega
                case rel => exact ⟨k + 1, rest, rest', by have := Hk.out; omega, by have := Hk2.out; omega, rfl, by go_num, HLr.out, HLr'.out, by have := HRs.out; omega, Hr.out, HN2.out⟩
              · rw [decide_eq_false hd]
                have Hr : Hid (decide (T = U) = false) := decide_eq_false (Hif.out hd)
                clear hd
                go_wp2_with fail
                go_ret
                exact ⟨by rw [Hr.out]; rfl, HN2.out⟩
      · have hne : ((n : Int) == (m : Int)) = false := by simp; omega
        have Hne : Hid (decide (T = U) = false) := decide_eq_false (fun h => hnm (by rw [← hn, ← hm, h]))
        clear hn hm hL hM hT hF hG hnm IH
        go_enter Try.func31, Try.ntmps31
        go_wp2_with fail
        go_ret
        exact ⟨by rw [Hne.out]; rfl, Chg.refl _ _⟩
    clear hn hm hL hM hT hF hG IH
    go_enter Try.func18, Try.ntmps18
    go_wp2_with fail
    with_reducible refine HEF.out.mono ?_
    rintro e w2 ⟨rfl, hN2⟩
    have HN2 := Lib.hid hN2; clear hN2
    go_wp2_with fail
    go_ret
    exact ⟨rfl, HN2.out⟩
end Go.Proofs.Ytkhlalcghdfamaa
