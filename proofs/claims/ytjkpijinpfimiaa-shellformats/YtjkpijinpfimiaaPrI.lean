/-
  What the program's readCopy does: a copy of the directory, if it is valid.
-/
import Derived.Test.YtjkpijinpfimiaaPrH
namespace Go.Proofs.Ytjkpijinpfimiaa
open Go.RowKit
/-- what readCopy tells of a sector -/
def CpR (S : List Nat) (w : World) (e : Ending) (w' : World) : Prop :=
  (dirB S = false ∧ e = .returned (.tuple #[.int .i64 0, .slice none 0 0, .bool false])) ∨
  (dirB S = true ∧ ∃ A c, e = .returned (.tuple #[.int .i64 (seqN S : Nat), .slice A (S.getD 2 0) c, .bool true]) ∧ w'.ownsRow w.heap.size 60 4 (.slice A (S.getD 2 0) c) (S.getD 2 0) (enRow (ens S (S.getD 2 0))))
theorem ens_take {S P : List Nat} (h : ∀ i, i < 30 → P.getD i 0 = S.getD i 0) {n : Nat} (hn : n ≤ 5) : ens P n = ens S n := by
  unfold ens
  apply List.map_congr_left
  intro j hj
  have hj : j < n := by simpa using hj
  unfold enAt
  rw [h (3 + 5 * j) (by omega), h (4 + 5 * j) (by omega), h (5 + 5 * j) (by omega), h (6 + 5 * j) (by omega), h (7 + 5 * j) (by omega)]
theorem enRow_step (b : List Nat) (k : Nat) : enRow (ens b (k + 1)) = enRow (ens b k) ++ [.int .i64 (enAt b k).k, .int .i64 (enAt b k).o, .int .i64 (enAt b k).i, .int .i64 (enAt b k).s] := by
  rw [ens_step, enRow, List.flatMap_append]
  rfl
theorem listS_small {q : Nat} {l : List En} (hq : q ≤ 65535) (hl : l.length ≤ 5) (h : Sound l) : ∀ x ∈ sectorB (listB q l), x < 256 := sector_small _ (listB_small q l hq hl h.1)
set_option maxRecDepth 100000 in
set_option maxHeartbeats 8000000 in
theorem readCopy_any (g : Nat) (i : Int) (B : List Nat) (p : Int) (w : World) (hC : Cd w g B p) (hi : 0 ≤ i ∧ i < 16) :
    Calls Try.prog 35 #[.pointer (some ⟨g, 0, none⟩), .int .i64 i] w fun e w' => CpR (sec B i.toNat) w e w' ∧ New w w' := by
  have HO := Lib.hid (opened_any g i B p w hC hi)
  obtain ⟨S, hS⟩ : ∃ S, S = sec B i.toNat := ⟨_, rfl⟩
  have hSl : S.length = 32 := by rw [hS]; exact sec_len hC.len (by omega)
  have hSs : ∀ x ∈ S, x < 256 := by rw [hS]; exact sec_small hC.small
  rw [← hS] at HO ⊢
  clear hS hC hi
  obtain ⟨oE, oB⟩ := open_sum hSl hSs
  obtain ⟨i0, hi, hz0, hz1, hz2⟩ := info_parts Try.info60
  go_enter Try.func35, Try.ntmps35
  go_wp2_with fail
  with_reducible refine HO.out.mono ?_
  rintro e w2 ⟨A, c, A', q, c', rfl, hq, hO1, hO2, hN2⟩
  rw [oB] at hq hO2
  rw [oE]
  have HN2 := Lib.hid hN2
  have HO1 := Lib.hid hO1
  clear hN2 hO1 HO
  cases hsum : sumOk S with
  | false =>
    have Hd := Lib.hid (dir_sum hsum)
    simp only [Bool.false_eq_true, if_false]
    clear oE oB hq hO2
    go_wp2_with fail
    go_ret3
    exact ⟨Or.inl ⟨Hd.out, rfl⟩, HN2.out⟩
  | true =>
  have Hdir := Lib.hid (dir_test hSl hSs hsum)
  rw [hsum] at hq hO2
  simp only [if_true] at hq hO2 ⊢
  obtain rfl : q = 30 := by rw [hq, List.length_take]; omega
  obtain ⟨P, hP⟩ : ∃ P, P = S.take 30 := ⟨_, rfl⟩
  rw [← hP] at hO2
  have hPl : P.length = 30 := by rw [hP, List.length_take]; omega
  have hPs : ∀ x ∈ P, x < 256 := by rw [hP]; exact fun x hx => hSs x (List.mem_of_mem_take hx)
  have hPg : ∀ i, i < 30 → P.getD i 0 = S.getD i 0 := by
    intro i hi
    rw [hP, List.getD_eq_getElem?_getD, List.getD_eq_getElem?_getD, List.getElem?_take, if_pos hi]
  have HPl := Lib.hid hPl
  have HPs := Lib.hid hPs
  have HPg := Lib.hid hPg
  obtain ⟨s, hs⟩ : ∃ s, s = seqN S := ⟨_, rfl⟩
  obtain ⟨n, hn⟩ : ∃ n, n = S.getD 2 0 := ⟨_, rfl⟩
  have hn2 : n ≤ 255 := by rw [hn]; have := getD_lt S hSs 2; omega
  have hs2 : s ≤ 65535 := by rw [hs]; exact seqN_le hSs
  have n1 : numAt P 0 16 = s := by rw [show (0 : Nat) = 8 * 0 from rfl, numAt16 P 0 (by omega) hPs, hPg 0 (by omega), hPg (0 + 1) (by omega), hs]; rfl
  have n2 : numAt P 16 8 = n := by rw [show (16 : Nat) = 8 * 2 from rfl, numAt8 P 2 (by omega) hPs, hPg 2 (by omega), hn]
  rw [← hs, ← hn] at Hdir
  have HRd : Hid (Calls Try.prog 63 #[.slice A' 30 c'] w2 fun e w' => ∃ b, e = .returned (.pointer (some ⟨b, 0, none⟩)) ∧ Rd w' b P 0 0 ∧ New w2 w' ∧ w2.heap.size ≤ b) := bRead_any A' 30 c' _ P w2 (own_arr_bs hPl hO2) hPl (own_nil hO2) (by omega)
  have HT : Hid (∀ (wx : World) (b g : Nat), Rd wx b P 0 0 → Has wx g 3 #[.int .i64 16, .int .i64 8] → g ≠ b → Calls Try.prog 64 #[.pointer (some ⟨b, 0, none⟩), .slice (some ⟨g, 0, none⟩) 2 2] wx fun e w' => ∃ A c, e = .returned (.slice (some ⟨A, 0, none⟩) 2 c) ∧ wx.heap.size ≤ A ∧ A < w'.heap.size ∧ (w'.cell? ⟨A, 0, none⟩ = some (.int .i64 (s : Int)) ∧ w'.cell? ⟨A, 1, none⟩ = some (.int .i64 (n : Int))) ∧ Rd w' b P (8 * (3 + 5 * 0)) 0 ∧ Chg (· = b) wx w') := by
    intro wx b g hR hg hne
    refine (Take_row b P 0 wx hR (by omega) hPs g [16, 8] hg hne (by decide) 2 rfl (by omega) (by omega) (by simp; omega)).mono ?_
    rintro e w' ⟨A, c, rfl, h1, h2, h3, h4, h5⟩
    refine ⟨A, c, rfl, h1, h2, ⟨?_, ?_⟩, h4, h5⟩
    · rw [h3 0 (by omega), ← n1]; rfl
    · rw [h3 1 (by omega), ← n2]; rfl
  have Hsn : Hid (s = seqN S ∧ n = S.getD 2 0) := ⟨hs, hn⟩
  have HSl := Lib.hid hSl
  have HSs := Lib.hid hSs
  clear hPl hPs hPg hP hs hn n1 n2 hO2 hq oE oB hSl hSs hsum
  go_wp2_with fail
  with_reducible refine HRd.out.mono ?_
  rintro e w3 ⟨b, rfl, hR3, hN3, hb3⟩
  have HN3 := Lib.hid (HN2.out.then_new hN3)
  have HO3 := Lib.hid (own_new HO1.out hN3)
  have Hbb : Hid (w.heap.size ≤ b) := by have := HN2.out.size; show _ ≤ _; omega
  have Hbl := Lib.hid hR3.lt
  have HR3 := Lib.hid hR3
  clear hN3 hR3 hb3 HO1 HRd
  go_wp2_with fail
  obtain ⟨w4, hw4⟩ : ∃ w4, w4 = w3.alloc (.cells #[.int .i64 16, .int .i64 8] 3) := ⟨_, rfl⟩
  obtain ⟨gb, hgb⟩ : ∃ gb, gb = w3.heap.size := ⟨_, rfl⟩
  have hN4 : New w3 w4 := by rw [hw4]; exact (Chg.refl _ _).alloc _
  have HG4 : Hid (Has w4 gb 3 #[.int .i64 16, .int .i64 8]) := by rw [hw4, hgb]; exact Has.new w3 3 _
  have Hgb : Hid (gb ≠ b) := by have := Hbl.out; show _ ≠ _; omega
  have HN4 := Lib.hid (HN3.out.then_new hN4)
  have HO4 := Lib.hid (own_new HO3.out hN4)
  have HR4 := Lib.hid (HR3.out.new hN4)
  rw [← hw4, ← hgb]
  clear hw4 hgb hN4 HO3 HR3
  with_reducible refine (HT.out w4 b gb HR4.out HG4.out Hgb.out).mono ?_
  rintro e w5 ⟨A5, c5, rfl, hA5, hA5l, ⟨d1, d2⟩, hR5, hG5⟩
  have HN5 : Hid (New w w5) := HN4.out.trans hG5 (fun i hi h => by have := Hbb.out; omega)
  have HO5 := Lib.hid (own_chg HO4.out hG5 (fun k hk h => by
    obtain ⟨cs, hcs⟩ := HR4.out.has
    exact own_apart HO4.out hcs (by decide) (h ▸ hk)))
  have HR5 := Lib.hid hR5
  clear hG5 hA5 HO4 HT hR5
  go_upto_region 6 with (fail)
  go_quiet (fail)
  obtain ⟨w6, hw6⟩ : ∃ w6, w6 = w5.drewN nq := ⟨_, rfl⟩
  have hN6 : New w5 w6 := by rw [hw6]; exact (Chg.refl _ _).drewN _
  have HN6 := Lib.hid (HN5.out.then_new hN6)
  have HO6 := Lib.hid (own_new HO5.out hN6)
  have HR6 := Lib.hid (HR5.out.new hN6)
  rw [← hw6]
  clear hw6 hN6 d1 d2 hA5l HO5 HR5
  go_wp2_with fail
  with_reducible refine (rightNumber_any (s : Int) w6).mono ?_
  rintro e w7 ⟨rfl, hw7⟩
  obtain rfl : w6 = w7 := hw7.symm
  clear hw7
  by_cases hs1 : 1 ≤ s
  case neg =>
    have Hf : Hid (dirB S = false) := by show _ = _; rw [Hdir.out, decide_eq_false hs1]; rfl
    rw [decide_eq_false (show ¬ (1 ≤ (s : Int) ∧ (s : Int) ≤ 65535) by omega)]
    go_wp2_with fail
    go_ret3
    exact ⟨Or.inl ⟨Hf.out, rfl⟩, HN6.out⟩
  rw [decide_eq_true (show 1 ≤ (s : Int) ∧ (s : Int) ≤ 65535 by omega)]
  have Hs1 := Lib.hid hs1; clear hs1
  by_cases hn5 : n ≤ 5
  case neg =>
    have Hf : Hid (dirB S = false) := by show _ = _; rw [Hdir.out, decide_eq_false hn5]; simp
    have t5 : decide (5 < (n : Int)) = true := by simp; omega
    go_wp2_with fail
    go_ret3
    exact ⟨Or.inl ⟨Hf.out, rfl⟩, HN6.out⟩
  have t5 : decide (5 < (n : Int)) = false := by simp; omega
  have Hd2 : Hid (dirB S = (decide (Sound (ens S n)) && decide (S = sectorB (listB s (ens S n))))) := by
    show _ = _
    rw [Hdir.out, decide_eq_true Hs1.out, decide_eq_true hn5]; simp
  clear Hdir
  go_wp2_with fail
  clear t5
  go_loopg [14, 43] n (fun gk v x wr => ∃ (k : Nat) (E : Option Addr) (ec : Nat), k ≤ n ∧ gk = n - k ∧ v = .slice E k ec ∧ x = .int .i64 k ∧ wr.ownsRow w.heap.size 60 4 (.slice E k ec) k (enRow (ens P k)) ∧ Rd wr b P (8 * (3 + 5 * k)) 0 ∧ wr.ownsRow w.heap.size 5 1 (.slice A 32 c) 32 (S.map bV) ∧ New w wr)
  case atStart => exact ⟨0, none, 0, by omega, by omega, rfl, rfl, World.ownsRow_nil _ _ _ _, HR6.out, HO6.out, HN6.out⟩
  case round =>
    clear HR6 HO6 HN6
    obtain ⟨k, E, ec, hk, rfl, rfl, rfl, hE, hR, hO, hN⟩ := hrel
    have HE := Lib.hid hE
    have HR := Lib.hid hR
    have HO := Lib.hid hO
    have HN := Lib.hid hN
    clear hE hR hO hN
    by_cases hlt : k < n
    · go_wp2_with fail
      with_reducible refine (takeEntry_any b P k wr HR.out (by rw [HPl.out]; omega) HPs.out (by rw [HPl.out]; omega)).mono ?_
      rintro e w7 ⟨rfl, hR7, hG7⟩
      have HEs := Lib.hid (enRow_step P k)
      obtain ⟨x0, hx0⟩ : ∃ x, x = (enAt P k).k := ⟨_, rfl⟩
      obtain ⟨x1, hx1⟩ : ∃ x, x = (enAt P k).o := ⟨_, rfl⟩
      obtain ⟨x2, hx2⟩ : ∃ x, x = (enAt P k).i := ⟨_, rfl⟩
      obtain ⟨x3, hx3⟩ : ∃ x, x = (enAt P k).s := ⟨_, rfl⟩
      rw [← hx0, ← hx1, ← hx2, ← hx3] at HEs ⊢
      clear hx0 hx1 hx2 hx3
      have HN7 : Hid (New w w7) := HN.out.trans hG7 (fun i hi h => by have := Hbb.out; omega)
      have HE7 := Lib.hid (own_chg HE.out hG7 (fun x hx h => by
        obtain ⟨cs, hcs⟩ := HR.out.has
        exact own_apart HE.out hcs (by decide) (h ▸ hx)))
      have HO7 := Lib.hid (own_chg HO.out hG7 (fun x hx h => by
        obtain ⟨cs, hcs⟩ := HR.out.has
        exact own_apart HO.out hcs (by decide) (h ▸ hx)))
      have HR7 := Lib.hid hR7
      clear hR7 hG7
      go_wp2_with (at_builtin; refine wpList_append_one rfl _ _ 28 rfl w.heap.size 60 i0 (.agg #[.int .i64 0, .int .i64 0, .int .i64 0, .int .i64 0]) 4 32 Try.underlying28 hi hz0 hz1 hz2 rfl (by decide) (.slice E k ec) k (enRow (ens P k)) rfl HE7.out #[.int .i64 x0, .int .i64 x1, .int .i64 x2, .int .i64 x3] rfl rfl (by simp [Value.oneCell']) (by simp only [maxLen]; omega) (by omega) HN7.out.size ?_)
      intro A8 c8 w8 hE8 hC8 hf8
      have HN8 : Hid (New w w8) := HN7.out.trans hC8 (fun x hx h => by have := (HE7.out.lt x h).1; omega)
      have HR8 := Lib.hid (HR7.out.beside HE7.out (by decide) (by decide) hC8)
      have HO8 := Lib.hid (own_chg HO7.out hC8 (fun x hx h => own_own_apart HO7.out HE7.out (by decide) x hx h))
      have HE8 := Lib.hid hE8
      clear hE8 hC8 hf8
      go_wp2_with fail
      go_roundg (n - (k + 1))
      case measure => omega
      case rel => exact ⟨k + 1, A8, c8, by omega, rfl, rfl, by go_num, by rw [HEs.out]; exact HE8.out, HR8.out, HO8.out, HN8.out⟩
    · obtain rfl : k = n := by omega
      have HEn := Lib.hid (ens_take HPg.out hn5)
      have HE' : Hid (wr.ownsRow w.heap.size 60 4 (.slice E k ec) k (enRow (ens S k))) := by rw [← HEn.out]; exact HE.out
      obtain ⟨l, hl⟩ : ∃ l, l = ens S k := ⟨_, rfl⟩
      have Hll : Hid (l.length = k) := by rw [hl]; exact ens_len _ _
      rw [← hl] at HE' Hd2
      have Hl := Lib.hid hl; clear hl HE HEn
      have HEn : Hid (∀ wx, New wr wx → Ents wx (fun x => Value.ownBlock (.slice E k ec) = some x) E l) := fun wx hx => (Ents.of_own HE'.out).new hx (own_below HE'.out)
      go_wp2_with fail
      with_reducible refine (rightEntries_any E k ec _ l wr (HEn.out wr (Chg.refl _ _)) (own_below HE'.out) Hll.out (by omega) (own_cap HE'.out)).mono ?_
      rintro e w7 ⟨rfl, hN7⟩
      have HM7 := Lib.hid hN7
      have HO7 := Lib.hid (own_new HO.out hN7)
      have HE7 := Lib.hid (own_new HE'.out hN7)
      have HN7 := Lib.hid (HN.out.then_new hN7)
      clear hN7
      by_cases hsd : Sound l
      case neg =>
        have Hf : Hid (dirB S = false) := by show _ = _; rw [Hd2.out, decide_eq_false hsd]; rfl
        rw [decide_eq_false hsd]
        go_wp2_with fail
        go_ret3
        exact ⟨Or.inl ⟨Hf.out, rfl⟩, HN7.out⟩
      rw [decide_eq_true hsd] at Hd2 ⊢
      have Hsd := Lib.hid hsd; clear hsd
      go_wp2_with fail
      with_reducible refine (laidCopy_any s E k ec _ l w7 (HEn.out w7 HM7.out) (own_below HE7.out) Hll.out hn5 hs2 Hsd.out.1).mono ?_
      rintro e w8 ⟨A8, c8, rfl, hO8, hN8⟩
      have HX8 := Lib.hid (own_new HO7.out hN8)
      have HE8 := Lib.hid (own_new HE7.out hN8)
      have HN8 := Lib.hid (HN7.out.then_new hN8)
      have HO8 := Lib.hid hO8
      clear hO8 hN8
      have HEq : Hid (Calls Try.prog 65 #[.slice A 32 c, .slice A8 32 c8] w8 fun e w' => e = .returned (.bool (decide (S = sectorB (listB s l)))) ∧ New w8 w') :=
        Equal_any A A8 32 c c8 (· < w8.heap.size) S _ w8 ((own_arr_bs HSl.out HX8.out).mono (own_below HX8.out)) ((own_arr_bs (sector_len _) HO8.out).mono (own_below HO8.out)) (fun k hk => hk) HSl.out (sector_len _) (by omega) HSs.out (listS_small hs2 (by rw [Hll.out]; exact hn5) Hsd.out)
      go_wp2_with fail
      with_reducible refine HEq.out.mono ?_
      rintro e w9 ⟨rfl, hN9⟩
      have HE9 := Lib.hid (own_new HE8.out hN9)
      have HN9 := Lib.hid (HN8.out.then_new hN9)
      clear hN9 HEq
      rw [Bool.true_and] at Hd2
      rw [← Hd2.out]
      cases hf : dirB S with
      | false =>
        go_wp2_with fail
        go_ret3
        exact ⟨Or.inl ⟨hf, rfl⟩, HN9.out⟩
      | true =>
        go_wp2_with fail
        go_ret3
        refine ⟨Or.inr ⟨hf, ?_⟩, HN9.out⟩
        rw [← Hsn.out.1, ← Hsn.out.2, ← Hl.out]
        exact ⟨E, ec, rfl, HE9.out⟩
end Go.Proofs.Ytjkpijinpfimiaa
