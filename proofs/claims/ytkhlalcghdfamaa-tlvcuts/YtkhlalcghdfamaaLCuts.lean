import Derived.Test.YtkhlalcghdfamaaCuts
namespace Go.Proofs.Ytkhlalcghdfamaa
open Go.RowKit
theorem rem_two (cut : Int) (q : Nat) (hq : 0 < q) : ∃ (r1 : Int) (r2 : Nat), Int.tmod cut q = r1 ∧ -(q : Int) < r1 ∧ r1 < q ∧ Int.tmod (r1 + q) q = r2 ∧ r2 < q := by
  have h1 : -(q : Int) < Int.tmod cut q ∧ Int.tmod cut q < q := by
    have ha := Int.tmod_lt_of_pos cut (b := (q : Int)) (by omega)
    have hb := Int.tmod_lt_of_pos (-cut) (b := (q : Int)) (by omega)
    rw [Int.neg_tmod] at hb
    omega
  have h2 : 0 ≤ Int.tmod (Int.tmod cut q + q) q := Int.tmod_nonneg _ (by omega)
  have h3 := Int.tmod_lt_of_pos (Int.tmod cut q + q) (b := (q : Int)) (by omega)
  exact ⟨_, (Int.tmod (Int.tmod cut q + q) q).toNat, rfl, h1.1, h1.2, by omega, by omega⟩
set_option maxRecDepth 100000 in
set_option maxHeartbeats 4000000 in
theorem cuts_law {W : World} (A : Option Addr) (n c : Nat) (z : (∃ T : Tr, T.len = n ∧ Els W (· < W.heap.size) (.slice A n c) T) ∧ n ≤ c ∧ c ≤ maxLen) (cut : Int) (wcut : (Lit.int .i64 cut).wf = true) :
    Calls Try.prog 8 #[.slice A n c, .int .i64 cut] W fun e w' => e = .returned (.bool true) ∧ New W w' := by
  obtain ⟨⟨T, hn, hE⟩, hnc, hcm⟩ := z
  have hcut := i64_wf wcut
  clear wcut
  have hnb := (hE.out (Chg.refl _ _) (fun _ h => h)).2
  have HL : Hid (∀ wy, New W wy → Lay wy (· < W.heap.size) A 0 T) := fun wy hy => (hE.out hy (fun _ h => h)).1
  have Hn := Lib.hid hn; clear hn hE
  go_enter Try.func8, Try.ntmps8
  go_wp2_with fail
  with_reducible refine (awake_any W).mono ?_
  rintro e w1 ⟨rfl, hN1⟩
  have HN1 := Lib.hid hN1; clear hN1
  go_wp2_with fail
  with_reducible refine (lcopied_any (T.size + 1) T (Nat.lt_succ_self _) n A c w1 _ Hn.out (HL.out w1 HN1.out) (fun k hk => Nat.lt_of_lt_of_le hk HN1.out.size) hnb).mono ?_
  rintro e w2 ⟨A2, c2, rfl, hO2, hN2⟩
  have HO2 := Lib.hid (hO2.lay hnb Hn.out (Chg.refl _ _))
  have HN2 := Lib.hid (HN1.out.then_new hN2); clear hN2 hO2
  go_wp2_with fail
  with_reducible refine (Put_any T n A2 c2 w2 _ Hn.out HO2.out (fun k hk => hk.2) hnb).mono ?_
  rintro e w3 ⟨hE3, hN3⟩
  have HN3 := Lib.hid (HN2.out.then_new hN3); clear hN3
  cases hp : T.put with
  | err zz =>
    rw [hp] at hE3
    simp only [PutR] at hE3
    subst hE3
    obtain ⟨hz1, hz2⟩ := put_err hp
    clear hp
    go_wp2_with fail
    go_ret
    exact ⟨rfl, HN3.out⟩
  | ok x =>
    rw [hp] at hE3
    obtain ⟨A3, c3, rfl, hO3, hx256, hxl⟩ := hE3
    rcases Nat.eq_zero_or_pos n with hz | hz
    · subst hz
      obtain ⟨xl, hxe⟩ : ∃ xl, xl = x.length := ⟨_, rfl⟩
      rw [← hxe]
      clear hxe hp hxl hO3 hx256
      go_wp2_with fail
      go_ret
      exact ⟨rfl, HN3.out⟩
    · obtain ⟨T0, t, bs, s, x0, y, hT, hpy, hxy, hyl, hcutd⟩ := cut_parts hp (by rw [Hn.out]; exact hz)
      clear hp
      have hne : ((n : Int) == 0) = false := by simp; omega
      have hT0 : T0.len = n - 1 := by have := Hn.out; rw [hT, Tr.len_app] at this; simp only [Tr.len] at this; omega
      have hLT := HL.out w3 HN3.out
      rw [hT] at hLT
      have hLl := hLT.behind
      rw [hT0, Nat.zero_add] at hLl
      obtain ⟨a, ha⟩ : ∃ a, A = some a := by obtain ⟨⟨_, _, _, ⟨a, ha, _⟩, _⟩, _⟩ := hLl; exact ⟨a, ha⟩
      subst ha
      have HLl := Lib.hid hLl.shift
      clear hLT hLl hT0
      have HT := Lib.hid hT; clear hT
      have Hxy := Lib.hid hxy; clear hxy
      have Hcd := Lib.hid hcutd; clear hcutd
      have Hpy := Lib.hid hpy; clear hpy
      have Hx256 := Lib.hid hx256; clear hx256
      have HO3 := Lib.hid hO3; clear hO3
      obtain ⟨xl, hxe⟩ : ∃ xl, xl = x.length := ⟨_, rfl⟩
      have Hxe := Lib.hid hxe
      rw [← hxe] at hxl ⊢
      clear hxe
      go_wp2_with fail
      rw [show n - (n - 1) = 1 by omega]
      with_reducible refine (lcopied_any ((Tr.cons t bs s .nil).size + 1) (.cons t bs s .nil) (Nat.lt_succ_self _) 1 _ _ w3 _ rfl HLl.out (fun k hk => Nat.lt_of_lt_of_le hk HN3.out.size) (by decide)).mono ?_
      rintro e w4 ⟨A4, c4, rfl, hO4, hN4⟩
      have HO4 := Lib.hid (hO4.lay (by decide) rfl (Chg.refl _ _))
      have HM4 := Lib.hid hN4
      have HN4 := Lib.hid (HN3.out.then_new hN4); clear hN4 hO4
      have HP4 := Lib.hid (Put_any (.cons t bs s .nil) 1 A4 c4 w4 _ rfl HO4.out (fun k hk => hk.2) (by decide))
      rw [Hpy.out] at HP4
      go_wp2_with fail
      with_reducible refine HP4.out.mono ?_
      rintro e w5 ⟨hE5, hN5⟩
      obtain ⟨A5, c5, rfl, _, _, hy7⟩ := hE5
      have HM5 := Lib.hid (HM4.out.then_new hN5)
      have HN5 := Lib.hid (HN4.out.then_new hN5); clear hN5
      have hxyl : x0.length + y.length = xl := by rw [Hxe.out, Hxy.out, List.length_append]
      obtain ⟨yl, hye⟩ : ∃ yl, yl = y.length := ⟨_, rfl⟩
      obtain ⟨q, hq⟩ : ∃ q, y.length = q + 1 := ⟨y.length - 1, by omega⟩
      obtain ⟨r1, r2, hr1, hr1a, hr1b, hr2, hr2b⟩ := rem_two cut q (by omega)
      rw [hq] at hxyl hy7 ⊢
      obtain ⟨kk, hkk⟩ : ∃ kk : Nat, kk = xl - 1 - r2 := ⟨_, rfl⟩
      have hkk1 : 1 ≤ kk := by omega
      have hkk2 : kk ≤ xl := by omega
      have hkk3 : (xl : Int) - 1 - r2 = kk := by omega
      have hdec : decd 4 0 (x.take kk) = .err 10 := by
        have hj := Hcd.out (kk - x0.length) (by omega) (by rw [hq]; omega)
        rw [Hxy.out, List.take_append, List.take_of_length_le (show x0.length ≤ kk by omega)]
        exact hj
      have h3 := own_new HO3.out HM5.out
      rw [← Hxe.out] at h3
      obtain ⟨a3, ha3⟩ : ∃ a3, A3 = some a3 := by
        obtain ⟨g, hg, _⟩ := own_some h3 (i := 0) (by omega)
        exact ⟨_, hg⟩
      subst ha3
      have hcap := own_cap h3
      have hmx := own_max h3
      have hBk := (Byts.own_any h3 (Chg.refl _ _) Hx256.out (by omega)).cut 0 kk kk (by omega)
      rw [add_zero, List.drop_zero] at hBk
      have HG := Lib.hid (Get_any (x.take kk) kk _ kk w5 _ hBk (Nat.le_refl _) (by omega) (fun _ h => h))
      rw [hdec] at HG
      clear hdec hBk h3 hye hkk
      have hr3 : (r1 + ((q : Int) + 1) - 1) % (q : Int) = r2 := by
        rw [show r1 + ((q : Int) + 1) - 1 = r1 + q by omega, ← Int.tmod_eq_emod_of_nonneg (by omega), hr2]
      clear hr2
      have hq0 : ((q : Int) == 0) = false := by simp; omega
      have hqz : ¬ ((q : Int) = 0) := by omega
      go_wp2_with fail
      with_reducible refine HG.out.mono ?_
      rintro e w6 ⟨hE6, hN6⟩
      simp only [AnsR] at hE6
      subst hE6
      have HN6 := Lib.hid (HN5.out.then_new hN6); clear hN6
      go_wp2_with fail
      go_ret
      exact ⟨rfl, HN6.out⟩
end Go.Proofs.Ytkhlalcghdfamaa
