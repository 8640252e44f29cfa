import Derived.Test.YtkhlalcghdfamaaTreeMem
namespace Go.Proofs.Ytkhlalcghdfamaa
open Go.RowKit
theorem deeper_nil (k : Nat) : Tr.deeper k .nil = false := by cases k <;> rfl
theorem deeper_cons (k : Nat) (t : Int) (bs : List Nat) (s r : Tr) : Tr.deeper (k + 1) (.cons t bs s r) = (Tr.deeper k s || Tr.deeper (k + 1) r) := rfl
set_option maxRecDepth 100000 in
set_option maxHeartbeats 1000000 in
/-- the document's Deep -/
theorem Deep_any : ∀ (N : Nat) (T : Tr), T.size < N → ∀ (n m : Nat) (A : Option Addr) (c : Nat) (w : World) (F : Nat → Prop), T.len = n → m ≤ 4 → Lay w F A 0 T → n * 56 ≤ 140737488351232 →
    Calls Try.prog 27 #[.slice A n c, .int .i64 m] w fun e w' => e = .returned (.bool (Tr.deeper (4 - m) T)) ∧ w' = w := by
  intro N
  induction N with
  | zero => intro T hT; omega
  | succ N ih =>
    intro T hT n m A c w F hn hm hL hs
    have IH := Lib.hid ih; clear ih
    rcases Nat.eq_zero_or_pos n with hz | hz
    · subst hz
      obtain rfl := Tr.len_zero hn
      clear hn hL hT IH
      rw [deeper_nil]
      go_enter Try.func27, Try.ntmps27
      go_wp2_with fail
      go_loopg [5] 1 (fun gk i wr => gk = 1 ∧ i = .int .i64 0 ∧ w = wr)
      case atStart => exact ⟨rfl, rfl, rfl⟩
      case round =>
        obtain ⟨rfl, rfl, rfl⟩ := hrel
        go_wp2_with fail
        go_ret
        exact ⟨rfl, rfl⟩
    rcases Nat.lt_or_ge 3 m with h4 | h4
    · obtain rfl : m = 4 := by omega
      cases T with
      | nil => simp [Tr.len] at hn; omega
      | cons t bs sub rest =>
        clear hn hL hT IH
        go_enter Try.func27, Try.ntmps27
        go_wp2_with fail
        go_ret
        exact ⟨rfl, rfl⟩
    · obtain ⟨q, hq⟩ : ∃ q, 4 - m = q + 1 := ⟨3 - m, by omega⟩
      have Hq := Lib.hid hq
      rw [hq]; clear hq
      have Hn := Lib.hid hn; clear hn
      have HL := Lib.hid hL; clear hL
      have HT := Lib.hid hT; clear hT
      go_enter Try.func27, Try.ntmps27
      go_wp2_with fail
      go_loopg [5] n (fun gk i wr => ∃ (k : Nat) (R : Tr), k + R.len = n ∧ gk = n - k ∧ i = .int .i64 k ∧ Lay w F A k R ∧ R.size < N + 1 ∧ Tr.deeper (q + 1) R = Tr.deeper (q + 1) T ∧ w = wr)
      case atStart => exact ⟨0, T, by rw [Hn.out]; omega, by omega, rfl, HL.out, HT.out, rfl, rfl⟩
      case round =>
        obtain ⟨k, R, hk, rfl, rfl, hLR, hRs, hR, rfl⟩ := hrel
        have HR := Lib.hid hR; clear hR
        cases R with
        | nil =>
          obtain rfl : k = n := by rw [← hk]; rfl
          clear hk hLR hRs
          go_wp2_with fail
          go_ret
          exact ⟨by rw [← HR.out]; rfl, rfl⟩
        | cons t bs sub rest =>
          obtain ⟨⟨vb, B, cb, ⟨a, rfl, hab, h0, h1, h2⟩, hb, hnil, hsl, _, hLs⟩, hLr⟩ := hLR
          simp only [Tr.len] at hk
          simp only [Tr.size] at hRs
          have hlt : k < n := by omega
          have Hk := Lib.hid hk; clear hk
          have HLr := Lib.hid hLr; clear hLr
          obtain ⟨p, hp⟩ : ∃ p, p = sub.len := ⟨_, rfl⟩
          rw [← hp] at h2 hsl
          have HC := Lib.hid (IH.out sub (by omega) p (m + 1) B cb w F hp.symm (by omega) hLs hsl)
          have Hp := Lib.hid hp; clear hp
          have HRs := Lib.hid hRs; clear hRs
          clear h0 h1 hb hnil hLs
          go_wp2_with fail
          have HCo := HC.out
          rw [show 4 - (m + 1) = q by have := Hq.out; omega, show ((m + 1 : Nat) : Int) = (m : Int) + 1 from rfl] at HCo
          with_reducible refine HCo.mono ?_
          rintro e w' ⟨rfl, rfl⟩
          cases hd : Tr.deeper q sub with
          | true =>
            go_wp2_with fail
            go_ret
            exact ⟨by rw [← HR.out, deeper_cons, hd]; rfl, rfl⟩
          | false =>
            go_wp2_with fail
            go_roundg (n - (k + 1))
            case measure => omega
            case rel => exact ⟨k + 1, rest, by have := Hk.out; omega, rfl, by go_num, HLr.out, by have := HRs.out; omega, by rw [← HR.out, deeper_cons, hd]; rfl, rfl⟩
end Go.Proofs.Ytkhlalcghdfamaa
