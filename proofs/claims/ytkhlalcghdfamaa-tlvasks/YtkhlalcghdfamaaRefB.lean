import Derived.Test.YtkhlalcghdfamaaRefA
namespace Go.Proofs.Ytkhlalcghdfamaa
open Go.RowKit
/-- the content of one element is right -/
def okC (t : Int) (bs : List Nat) (s : Tr) : Bool := if t ≤ 127 then s.len == 0 else bs.length == 0 && Tr.right 0 s
theorem right_cons (l t : Int) (bs : List Nat) (s r : Tr) : Tr.right l (.cons t bs s r) = (decide (l < t) && decide (t ≤ 255) && okC t bs s && Tr.right t r) := rfl
set_option maxRecDepth 100000 in
set_option maxHeartbeats 2000000 in
/-- the document's Right -/
theorem Right_any : ∀ (N : Nat) (T : Tr), T.size < N → ∀ (n : Nat) (A : Option Addr) (c : Nat) (w : World) (F : Nat → Prop), T.len = n → Lay w F A 0 T → n * 56 ≤ 140737488351232 →
    Calls Try.prog 28 #[.slice A n c] w fun e w' => e = .returned (.bool (Tr.right 0 T)) ∧ w' = w := by
  intro N
  induction N with
  | zero => intro T hT; omega
  | succ N ih =>
    intro T hT n A c w F hn hL hs
    have IH := Lib.hid ih; clear ih
    have Hn := Lib.hid hn; clear hn
    have HL := Lib.hid hL; clear hL
    have HT := Lib.hid hT; clear hT
    go_enter Try.func28, Try.ntmps28
    go_wp2_with fail
    go_loopg [3] n (fun gk i wr => ∃ (k : Nat) (R : Tr) (l : Int), k + R.len = n ∧ gk = n - k ∧ i = .int .i64 k ∧ Lay w F A k R ∧ R.size < N + 1 ∧ Tr.right l R = Tr.right 0 T ∧ (k = 0 ∧ l = 0 ∨ ∃ j a, k = j + 1 ∧ A = some a ∧ w.cell? (a.add (j * 3)) = some (.int .i64 l) ∧ 1 ≤ l) ∧ w = wr)
    case atStart => exact ⟨0, T, 0, by rw [Hn.out]; omega, by omega, rfl, HL.out, HT.out, rfl, Or.inl ⟨rfl, rfl⟩, rfl⟩
    case round =>
      obtain ⟨k, R, l, hk, rfl, rfl, hLR, hRs, hR, hkl, rfl⟩ := hrel
      have HR := Lib.hid hR; clear hR
      cases R with
      | nil =>
        obtain rfl : k = n := by rw [← hk]; rfl
        clear hk hLR hRs hkl
        go_wp2_with fail
        go_ret
        exact ⟨by rw [← HR.out]; rfl, rfl⟩
      | cons t bs sub rest =>
        obtain ⟨⟨vb, B, cb, ⟨a, rfl, hab, h0, h1, h2⟩, ⟨Ab, cc, rfl, _⟩, hnil, hsl, ht, hLs⟩, hLr⟩ := hLR
        simp only [Tr.len] at hk
        simp only [Tr.size] at hRs
        have hlt : k < n := by omega
        have Hk := Lib.hid hk; clear hk
        have HLr := Lib.hid hLr; clear hLr
        obtain ⟨p, hp⟩ : ∃ p, p = sub.len := ⟨_, rfl⟩
        rw [← hp] at h2 hsl
        obtain ⟨bl, hbl⟩ : ∃ bl, bl = bs.length := ⟨_, rfl⟩
        rw [← hbl] at h1
        have HC := Lib.hid (IH.out sub (by omega) p B cb w F hp.symm hLs hsl)
        have HRs := Lib.hid hRs; clear hRs
        clear hab hnil hLs
        have Hp := Lib.hid hp; clear hp
        have Hbl := Lib.hid hbl; clear hbl
        have hH0 := Lib.hid h0
        have hkl' : (k = 0 ∧ l = 0) ∨ (∃ j, k = j + 1 ∧ w.cell? (a.add (j * 3)) = some (.int .i64 l) ∧ 1 ≤ l) := by
          rcases hkl with h | ⟨j, a', h, ha, h'⟩
          · exact Or.inl h
          · simp only [Option.some.injEq] at ha; subst ha; exact Or.inr ⟨j, h, h'⟩
        clear hkl
        have hl0 : 0 ≤ l := by rcases hkl' with h | ⟨j, h, h', h''⟩ <;> omega
        rcases Int.lt_or_le t 1 with hb1 | hb1
        · -- too small
          clear hkl'
          go_wp2_with fail
          go_ret
          refine ⟨?_, rfl⟩
          rw [← HR.out, right_cons, show decide (l < t) = false by simp only [decide_eq_false_iff_not]; omega]; rfl
        rcases Int.lt_or_le 255 t with hb2 | hb2
        · clear hkl'
          go_wp2_with fail
          go_ret
          refine ⟨?_, rfl⟩
          rw [← HR.out, right_cons, show decide (t ≤ 255) = false by simp only [decide_eq_false_iff_not]; omega, Bool.and_false]; rfl
        have hcase : (∃ j, k = j + 1 ∧ w.cell? (a.add (j * 3)) = some (.int .i64 l) ∧ t ≤ l) ∨ ((decide (0 < k) = false ∨ ∃ j, k = j + 1 ∧ w.cell? (a.add (j * 3)) = some (.int .i64 l)) ∧ l < t) := by
          rcases hkl' with ⟨h, h'⟩ | ⟨j, h, h', h''⟩
          · exact Or.inr ⟨Or.inl (by rw [h]; rfl), by omega⟩
          · rcases Int.lt_or_le l t with h3 | h3
            · exact Or.inr ⟨Or.inr ⟨j, h, h'⟩, h3⟩
            · exact Or.inl ⟨j, h, h', h3⟩
        clear hkl'
        rcases hcase with ⟨j, rfl, hcj, hb3⟩ | ⟨hcase, hb3⟩
        · go_wp2_with fail
          go_ret
          refine ⟨?_, rfl⟩
          rw [← HR.out, right_cons, show decide (l < t) = false by simp only [decide_eq_false_iff_not]; omega]; rfl
        have hlt' : decide (l < t) = true := by simpa using hb3
        have hle' : decide (t ≤ 255) = true := by simpa using hb2
        have Hlt := Lib.hid hlt'
        have Hle := Lib.hid hle'
        clear hlt' hle'
        rcases Int.lt_or_le 127 t with h7 | h7
        · have Hok : Hid (okC t bs sub = (bs.length == 0 && Tr.right 0 sub)) := by unfold okC; rw [Hid, if_neg (by omega)]
          rcases Nat.eq_zero_or_pos bl with hz | hz
          · subst hz
            rcases hcase with hk0 | ⟨j, rfl, hcj⟩
            all_goals
              go_wp2_with fail
              with_reducible refine HC.out.mono ?_
              rintro e w' ⟨rfl, rfl⟩
              cases hd : Tr.right 0 sub
              case false =>
                go_wp2_with fail
                go_ret
                refine ⟨?_, rfl⟩
                rw [← HR.out, right_cons, Hok.out, hd, Bool.and_false, Bool.and_false]; rfl
              go_wp2_with fail
            · go_roundg (n - (k + 1))
              case measure => omega
              case rel => exact ⟨k + 1, rest, t, by have := Hk.out; omega, rfl, by go_num, HLr.out, by have := HRs.out; omega, by rw [← HR.out, right_cons, Hok.out, hd, ← Hbl.out, Hlt.out, Hle.out]; rfl, Or.inr ⟨k, a, rfl, rfl, hH0.out, hb1⟩, rfl⟩
            · go_roundg (n - (j + 1 + 1))
              case measure => omega
              case rel => exact ⟨j + 1 + 1, rest, t, by have := Hk.out; omega, rfl, by go_num, HLr.out, by have := HRs.out; omega, by rw [← HR.out, right_cons, Hok.out, hd, ← Hbl.out, Hlt.out, Hle.out]; rfl, Or.inr ⟨j + 1, a, rfl, rfl, hH0.out, hb1⟩, rfl⟩
          · rcases hcase with hk0 | ⟨j, rfl, hcj⟩
            all_goals
              go_wp2_with fail
              go_ret
              refine ⟨?_, rfl⟩
              rw [← HR.out, right_cons, Hok.out, show (bs.length == 0) = false by rw [← Hbl.out]; simp; omega, Bool.false_and, Bool.and_false]; rfl
        · have Hok : Hid (okC t bs sub = (sub.len == 0)) := by unfold okC; rw [Hid, if_pos (by omega)]
          rcases Nat.eq_zero_or_pos p with hz | hz
          · subst hz
            have hsn : sub = .nil := Tr.len_zero Hp.out.symm
            have hd : Tr.right 0 sub = true := by rw [hsn]; rfl
            have HCo := HC.out
            rw [hd] at HCo
            have HCo' := Lib.hid HCo; clear HCo
            have Hsn := Lib.hid hsn; clear hsn hd
            rcases hcase with hk0 | ⟨j, rfl, hcj⟩
            all_goals
              go_wp2_with fail
              with_reducible refine HCo'.out.mono ?_
              rintro e w' ⟨rfl, rfl⟩
              go_wp2_with fail
            · go_roundg (n - (k + 1))
              case measure => omega
              case rel => exact ⟨k + 1, rest, t, by have := Hk.out; omega, rfl, by go_num, HLr.out, by have := HRs.out; omega, by rw [← HR.out, right_cons, Hok.out, Hlt.out, Hle.out, Hsn.out]; rfl, Or.inr ⟨k, a, rfl, rfl, hH0.out, hb1⟩, rfl⟩
            · go_roundg (n - (j + 1 + 1))
              case measure => omega
              case rel => exact ⟨j + 1 + 1, rest, t, by have := Hk.out; omega, rfl, by go_num, HLr.out, by have := HRs.out; omega, by rw [← HR.out, right_cons, Hok.out, Hlt.out, Hle.out, Hsn.out]; rfl, Or.inr ⟨j + 1, a, rfl, rfl, hH0.out, hb1⟩, rfl⟩
          · rcases hcase with hk0 | ⟨j, rfl, hcj⟩
            all_goals
              go_wp2_with fail
              go_ret
              refine ⟨?_, rfl⟩
              rw [← HR.out, right_cons, Hok.out, show (sub.len == 0) = false by rw [← Hp.out]; simp; omega, Bool.and_false]; rfl
end Go.Proofs.Ytkhlalcghdfamaa
