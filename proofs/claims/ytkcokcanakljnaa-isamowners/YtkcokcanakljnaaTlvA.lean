import Derived.Test.YtkcokcanakljnaaTRefB
namespace Go.Proofs.Ytkcokcanakljnaa
open Go.RowKit
set_option maxRecDepth 100000 in
set_option maxHeartbeats 1000000 in
theorem primitive_any (t : Int) (w : World) : Calls Try.prog 95 #[.int .i64 t] w fun e w' => e = .returned (.bool (decide (t ≤ 127))) ∧ w' = w := by
  go_enter Try.func95, Try.ntmps95
  go_wp2_with fail
  go_ret
  exact ⟨rfl, rfl⟩
set_option maxRecDepth 100000 in
set_option maxHeartbeats 2000000 in
theorem rightC_any (t : Int) (bs : List Nat) (sub : Tr) (Ab B : Option Addr) (bl cc p cb : Nat) (w : World) (hbl : bl = bs.length) (hp : p = sub.len) (hb : bl ≤ 140737488355328) (hpb : p * 56 ≤ 140737488351232)
    (hC : ∀ w1, New w w1 → Calls Try.prog 73 #[.slice B p cb] w1 fun e w' => e = .returned (.bool (Tr.right 0 sub)) ∧ New w1 w') :
    Calls Try.prog 90 #[.agg #[.int .i64 t, .slice Ab bl cc, .slice B p cb]] w fun e w' => e = .returned (.bool (okC t bs sub)) ∧ New w w' := by
  have Hbl := Lib.hid hbl; clear hbl
  have Hp := Lib.hid hp; clear hp
  have HC := Lib.hid hC; clear hC
  go_enter Try.func90, Try.ntmps90
  go_wp2_with fail
  with_reducible refine (primitive_any t _).mono ?_
  rintro e w1 ⟨rfl, rfl⟩
  rcases Int.lt_or_le 127 t with h7 | h7
  · have Hok : Hid (okC t bs sub = (bs.length == 0 && Tr.right 0 sub)) := by unfold okC; rw [Hid, if_neg (by omega)]
    rcases Nat.eq_zero_or_pos bl with hz | hz
    · subst hz
      go_wp2_with fail
      with_reducible refine (HC.out _ ((Chg.refl _ _).alloc _)).mono ?_
      rintro e w2 ⟨rfl, hN⟩
      have HN := Lib.hid hN; clear hN
      go_wp2_with fail
      go_ret
      refine ⟨?_, ((Chg.refl _ _).alloc _).then_new HN.out⟩
      rw [Hok.out, ← Hbl.out]; rfl
    · go_wp2_with fail
      go_ret
      refine ⟨?_, (Chg.refl _ _).alloc _⟩
      rw [Hok.out, show (bs.length == 0) = false by rw [← Hbl.out]; simp; omega]; rfl
  · have Hok : Hid (okC t bs sub = (sub.len == 0)) := by unfold okC; rw [Hid, if_pos (by omega)]
    rcases Nat.eq_zero_or_pos p with hz | hz
    · subst hz
      go_wp2_with fail
      go_ret
      refine ⟨?_, (Chg.refl _ _).alloc _⟩
      rw [Hok.out, ← Hp.out]; rfl
    · have hpe : ((p : Int) == 0) = false := by simp; omega
      go_wp2_with fail
      go_ret
      refine ⟨?_, (Chg.refl _ _).alloc _⟩
      rw [Hok.out, show (sub.len == 0) = false by rw [← Hp.out]; simp; omega]; rfl
set_option maxRecDepth 100000 in
set_option maxHeartbeats 2000000 in
/-- right -/
theorem right_any : ∀ (N : Nat) (T : Tr), T.size < N → ∀ (n : Nat) (A : Option Addr) (c : Nat) (w : World) (F : Nat → Prop), T.len = n → Lay w F A 0 T → (∀ k, F k → k < w.heap.size) → n * 56 ≤ 140737488351232 →
    Calls Try.prog 73 #[.slice A n c] w fun e w' => e = .returned (.bool (Tr.right 0 T)) ∧ New w w' := by
  intro N
  induction N with
  | zero => intro T hT; omega
  | succ N ih =>
    intro T hT n A c w F hn hL hF hs
    have IH := Lib.hid ih; clear ih
    have Hn := Lib.hid hn; clear hn
    have HL := Lib.hid hL; clear hL
    have HT := Lib.hid hT; clear hT
    have HF := Lib.hid hF; clear hF
    go_enter Try.func73, Try.ntmps73
    go_wp2_with fail
    go_loopg [3, 8] n (fun gk la i wr => ∃ (k : Nat) (R : Tr) (l : Int), k + R.len = n ∧ gk = n - k ∧ la = .int .i64 l ∧ i = .int .i64 k ∧ Lay w F A k R ∧ R.size < N + 1 ∧ Tr.right l R = Tr.right 0 T ∧ New w wr)
    case atStart => exact ⟨0, T, 0, by rw [Hn.out]; omega, by omega, rfl, rfl, HL.out, HT.out, rfl, Chg.refl _ _⟩
    case round =>
      obtain ⟨k, R, l, hk, rfl, rfl, rfl, hLR, hRs, hR, hN⟩ := hrel
      have HR := Lib.hid hR; clear hR
      cases R with
      | nil =>
        obtain rfl : k = n := by rw [← hk]; rfl
        have HN := Lib.hid hN
        clear hk hLR hRs hN
        go_wp2_with fail
        go_ret
        exact ⟨by rw [← HR.out]; rfl, HN.out⟩
      | cons t bs sub rest =>
        obtain ⟨⟨vb, B, cb, h3, ⟨Ab, cc, rfl, _, _, _, hbb⟩, hnil, hsl, ht, hLs⟩, hLr⟩ := hLR
        obtain ⟨a, rfl, hab, h0, h1, h2⟩ := h3.chg hN (fun k hk => ⟨HF.out k hk, fun f => f⟩)
        simp only [Tr.len] at hk
        simp only [Tr.size] at hRs
        have hlt : k < n := by omega
        have Hk := Lib.hid hk; clear hk
        have HLr := Lib.hid hLr; clear hLr
        obtain ⟨p, hp⟩ : ∃ p, p = sub.len := ⟨_, rfl⟩
        rw [← hp] at h2 hsl
        obtain ⟨bl, hbl⟩ : ∃ bl, bl = bs.length := ⟨_, rfl⟩
        rw [← hbl] at h1 hbb
        have HC : Hid (∀ w0, New wr w0 → Calls Try.prog 90 #[.agg #[.int .i64 t, .slice Ab bl cc, .slice B p cb]] w0 fun e w' => e = .returned (.bool (okC t bs sub)) ∧ New w0 w') := fun w0 hw0 =>
          rightC_any t bs sub Ab B bl cc p cb w0 hbl hp hbb hsl (fun w1 hw1 => IH.out sub (by omega) p B cb w1 F hp.symm (hLs.new ((hN.then_new hw0).then_new hw1) HF.out) (fun k hk => Nat.lt_of_lt_of_le (HF.out k hk) ((hN.then_new hw0).then_new hw1).size) hsl)
        have HRs := Lib.hid hRs; clear hRs
        have HN := Lib.hid hN; clear hN
        clear hab hnil hLs h3
        have Hp := Lib.hid hp; clear hp
        have Hbl := Lib.hid hbl; clear hbl
        rcases Int.lt_or_le l t with hb1 | hb1
        · rcases Int.lt_or_le 255 t with hb2 | hb2
          · go_wp2_with fail
            go_ret
            refine ⟨?_, HN.out.alloc _⟩
            rw [← HR.out, right_cons, show decide (t ≤ 255) = false by simp only [decide_eq_false_iff_not]; omega, Bool.and_false]; rfl
          · have Hlt : Hid (decide (l < t) = true) := by rw [Hid]; simpa using hb1
            have Hle : Hid (decide (t ≤ 255) = true) := by rw [Hid]; simpa using hb2
            go_wp2_with fail
            with_reducible refine (HC.out _ ((Chg.refl _ _).alloc _)).mono ?_
            rintro e w' ⟨rfl, hN2⟩
            have HN2 := Lib.hid hN2; clear hN2
            cases hd : okC t bs sub with
            | false =>
              go_wp2_with fail
              go_ret
              refine ⟨?_, (HN.out.alloc _).then_new HN2.out⟩
              rw [← HR.out, right_cons, hd, Bool.and_false]; rfl
            | true =>
              have hg := (Has.new wr 95 #[.int .i64 t, .slice Ab bl cc, .slice B p cb]).keep HN2.out
              have hg0 := hg.cell 0
              simp at hg0
              clear hg
              go_wp2_with fail
              go_roundg (n - (k + 1))
              case measure => omega
              case rel => exact ⟨k + 1, rest, t, by have := Hk.out; omega, rfl, rfl, by go_num, HLr.out, by have := HRs.out; omega, by rw [← HR.out, right_cons, hd, Hlt.out, Hle.out]; rfl, (HN.out.alloc _).then_new HN2.out⟩
        · go_wp2_with fail
          go_ret
          refine ⟨?_, HN.out.alloc _⟩
          rw [← HR.out, right_cons, show decide (l < t) = false by simp only [decide_eq_false_iff_not]; omega]; rfl
end Go.Proofs.Ytkcokcanakljnaa
