import Derived.Test.YtkhlalcghdfamaaJoins
namespace Go.Proofs.Ytkhlalcghdfamaa
open Go.RowKit
theorem bstr_cat (x v : List Nat) : bstr x ++ bstr v = bstr (x ++ v) := by
  apply ByteArray.ext
  simp [bstr, ByteArray.data_append]
theorem bstr_size (x : List Nat) : (bstr x).size = x.length := by simp [bstr, ByteArray.size]
set_option maxRecDepth 100000 in
set_option maxHeartbeats 8000000 in
theorem joins_law {W : World} (A : Option Addr) (n c : Nat) (z : ∃ T : Tr, T.len = n ∧ Els W (· < W.heap.size) (.slice A n c) T) (bn : n ≤ 1048576)
    (B : Option Addr) (m d : Nat) (y : ∃ T : Tr, T.len = m ∧ Els W (· < W.heap.size) (.slice B m d) T) (bm : m ≤ 1048576) :
    Calls Try.prog 9 #[.slice A n c, .slice B m d] W fun e w' => e = .returned (.bool true) ∧ New W w' := by
  obtain ⟨T, hn, hE⟩ := z
  obtain ⟨U, hm, hEU⟩ := y
  have hnb := (hE.out (Chg.refl _ _) (fun _ h => h)).2
  have hmb := (hEU.out (Chg.refl _ _) (fun _ h => h)).2
  have HL : Hid (∀ wy, New W wy → Lay wy (· < W.heap.size) A 0 T) := fun wy hy => (hE.out hy (fun _ h => h)).1
  have HM : Hid (∀ wy, New W wy → Lay wy (· < W.heap.size) B 0 U) := fun wy hy => (hEU.out hy (fun _ h => h)).1
  have Hn := Lib.hid hn; clear hn hE
  have Hm := Lib.hid hm; clear hm hEU
  have HCa : Hid (∀ wy, New W wy → Calls Try.prog 11 #[.slice A n c] wy fun e w' => ∃ A' c', e = .returned (.slice A' n c') ∧ Done wy w' (.slice A' n c') n T ∧ New wy w') := fun wy hy =>
    lcopied_done T.size T (Nat.lt_succ_self _) n A c wy _ Hn.out (HL.out wy hy) (fun k hk => Nat.lt_of_lt_of_le hk hy.size) hnb
  have HCb : Hid (∀ wy, New W wy → Calls Try.prog 11 #[.slice B m d] wy fun e w' => ∃ A' c', e = .returned (.slice A' m c') ∧ Done wy w' (.slice A' m c') m U ∧ New wy w') := fun wy hy =>
    lcopied_done U.size U (Nat.lt_succ_self _) m B d wy _ Hm.out (HM.out wy hy) (fun k hk => Nat.lt_of_lt_of_le hk hy.size) hmb
  go_enter Try.func9, Try.ntmps9
  go_wp2_with fail
  with_reducible refine (awake_any W).mono ?_
  rintro e w1 ⟨rfl, hN1⟩
  have HN1 := Lib.hid hN1; clear hN1
  go_wp2_with fail
  with_reducible refine (HCa.out w1 HN1.out).mono ?_
  rintro e w2 ⟨A2, c2, rfl, hO2, hN2⟩
  have HP2 := Lib.hid (Put_any T n A2 c2 w2 _ Hn.out (hO2.out.lay hnb Hn.out (Chg.refl _ _)) (fun k hk => hk.2) hnb)
  have HN2 := Lib.hid (HN1.out.then_new hN2); clear hN2 hO2
  go_wp2_with fail
  with_reducible refine HP2.out.mono ?_
  rintro e w3 ⟨hE3, hN3⟩
  obtain ⟨A3, k3, c3, z3, rfl, hk3, hF3⟩ := put_tells hE3 (fun z hz => put_err hz)
  have HF3 := Lib.hid hF3; clear hF3 hE3
  have HN3 := Lib.hid (HN2.out.then_new hN3); clear hN3
  go_wp2_with fail
  with_reducible refine (HCb.out w3 HN3.out).mono ?_
  rintro e w4 ⟨A4, c4, rfl, hO4, hN4⟩
  have HP4 := Lib.hid (Put_any U m A4 c4 w4 _ Hm.out (hO4.out.lay hmb Hm.out (Chg.refl _ _)) (fun k hk => hk.2) hmb)
  have HM4 := Lib.hid hN4
  have HN4 := Lib.hid (HN3.out.then_new hN4); clear hN4 hO4
  go_wp2_with fail
  with_reducible refine HP4.out.mono ?_
  rintro e w5 ⟨hE5, hN5⟩
  obtain ⟨A5, k5, c5, z5, rfl, hk5, hF5⟩ := put_tells hE5 (fun z hz => put_err hz)
  have HF5 := Lib.hid hF5; clear hF5 hE5
  have HM5 := Lib.hid (HM4.out.then_new hN5)
  have HN5 := Lib.hid (HN4.out.then_new hN5); clear hN5
  go_wp2_with fail
  with_reducible refine (HCa.out w5 HN5.out).mono ?_
  rintro e w6 ⟨A6, c6, rfl, hO6, hN6⟩
  obtain ⟨_, xa, hOa, hTa⟩ := hO6
  have HOa := Lib.hid hOa; clear hOa
  have HTa := Lib.hid hTa; clear hTa
  have HM6 := Lib.hid hN6
  have HN6 := Lib.hid (HN5.out.then_new hN6); clear hN6
  go_wp2_with fail
  with_reducible refine (HCb.out w6 HN6.out).mono ?_
  rintro e w7 ⟨A7, c7, rfl, hO7, hN7⟩
  obtain ⟨_, xb, hOb, hTb⟩ := hO7
  have HOb := Lib.hid hOb; clear hOb
  have HTb := Lib.hid hTb; clear hTb
  have HM7 := Lib.hid hN7
  have HN7 := Lib.hid (HN6.out.then_new hN7); clear hN7
  go_wp2_with (first | (at_builtin; refine wpList_appendE rfl (wX := w5) (Nat.le_trans HM6.out.size HM7.out.size) _ _ rfl (.slice A6 n c6) n xa rfl (own_new HOa.out HM7.out) w6.heap.size A7 m c7 xb rfl HOb.out HTb.out.ones (by omega) ?_; intro A8 c8 w8 hO8 hC8; have HE8 := Lib.hid (two_rows Hn.out Hm.out HTa.out HOa.out HM6.out.size HM7.out HTb.out hO8 hC8); have HN8 : Hid (New W w8) := HN7.out.trans hC8 (fun i hi hk => by have := (HOa.out.lt i hk).1; have := HN5.out.size; omega); have HM8 : Hid (New w5 w8) := (HM6.out.then_new HM7.out).trans hC8 (fun i hi hk => by have := (HOa.out.lt i hk).1; omega); clear hO8 hC8) | fail)
  have HP8 := Lib.hid (Put_any (T.app U) (n + m) A8 c8 w8 _ (by rw [Tr.len_app, Hn.out, Hm.out]) (HE8.out.lay (by omega) (by rw [Tr.len_app, Hn.out, Hm.out]) (Chg.refl _ _)) (fun k hk => hk.2) (by omega))
  with_reducible refine HP8.out.mono ?_
  rintro e w9 ⟨hE9, hN9⟩
  obtain ⟨A9, k9, c9, z9, rfl, hk9, hF9⟩ := put_tells hE9 (fun z hz => put_err hz)
  have HF9 := Lib.hid hF9; clear hF9 hE9
  have HM9 := Lib.hid (HM8.out.then_new hN9)
  have HN9 := Lib.hid (HN8.out.then_new hN9); clear hN9
  have tail : ((z3 != 0) = true ∨ (z3 = 0 ∧ (z5 != 0) = true)) ∨ (z3 = 0 ∧ z5 = 0) := by
    rcases HF3.out with ⟨x, _, h, _⟩ | ⟨_, _, h, _⟩
    · rcases HF5.out with ⟨y, _, h', _⟩ | ⟨_, _, h', _⟩
      · exact Or.inr ⟨h, h'⟩
      · exact Or.inl (Or.inr ⟨h, h'⟩)
    · exact Or.inl (Or.inl h)
  rcases tail with hbad | ⟨h30, h50⟩
  · have hz9 : (z9 != 0) = true ∧ k9 = 0 := by
      have hj : ∃ z, (T.app U).put = .err z := join_err (by
        rcases hbad with h | ⟨_, h⟩
        · rcases HF3.out with ⟨x, _, h', _⟩ | ⟨h', _⟩
          · rw [h'] at h; cases h
          · exact Or.inl ⟨_, h'⟩
        · rcases HF5.out with ⟨x, _, h', _⟩ | ⟨h', _⟩
          · rw [h'] at h; cases h
          · exact Or.inr ⟨_, h'⟩)
      obtain ⟨z, hz⟩ := hj
      rcases HF9.out with ⟨x, h, _⟩ | ⟨_, _, h, h'⟩
      · rw [hz] at h; cases h
      · exact ⟨h, h'⟩
    obtain ⟨hz9, rfl⟩ := hz9
    rcases hbad with h3 | ⟨rfl, h3⟩
    all_goals
      go_wp2_with fail
      go_ret
      exact ⟨rfl, HN9.out⟩
  · subst h30 h50
    obtain ⟨x, hpx, hkx, hOx, hx256⟩ : ∃ x, T.put = .ok x ∧ k3 = x.length ∧ w3.ownsRow w2.heap.size 5 1 (.slice A3 k3 c3) k3 (x.map bV) ∧ ∀ y ∈ x, y < 256 := by
      rcases HF3.out with ⟨x, h1, _, h3, h4, h5⟩ | ⟨_, h, _⟩
      · exact ⟨x, h1, h3, h4, h5⟩
      · cases h
    obtain ⟨v, hpv, hkv, hOv, hv256⟩ : ∃ y, U.put = .ok y ∧ k5 = y.length ∧ w5.ownsRow w4.heap.size 5 1 (.slice A5 k5 c5) k5 (y.map bV) ∧ ∀ x ∈ y, x < 256 := by
      rcases HF5.out with ⟨x, h1, _, h3, h4, h5⟩ | ⟨_, h, _⟩
      · exact ⟨x, h1, h3, h4, h5⟩
      · cases h
    have Hpx := Lib.hid hpx; clear hpx
    have Hpv := Lib.hid hpv; clear hpv
    have Hkx := Lib.hid hkx; clear hkx
    have Hkv := Lib.hid hkv; clear hkv
    have HOx := Lib.hid (own_new hOx (HM5.out.then_new HM9.out)); clear hOx
    have HOv := Lib.hid (own_new hOv HM9.out); clear hOv
    have Hx256 := Lib.hid hx256; clear hx256
    have Hv256 := Lib.hid hv256; clear hv256
    clear HF3 HF5 HP2 HP4 HP8
    have fin : (∃ t1 t2 : Int, 0 < n ∧ 0 < m ∧ (∃ a b, A = some a ∧ B = some b ∧ w9.cell? (a.add ((n - 1) * 3)) = some (.int .i64 t1) ∧ w9.cell? b = some (.int .i64 t2)) ∧
        ((t2 ≤ t1 ∧ z9 = 2 ∧ decd 4 0 (x ++ v) = .err 12) ∨ (t1 < t2 ∧ z9 = 0 ∧ k9 = (x ++ v).length ∧ w9.ownsRow w8.heap.size 5 1 (.slice A9 k9 c9) k9 ((x ++ v).map bV)))) ∨
        ((n = 0 ∨ m = 0) ∧ z9 = 0 ∧ k9 = (x ++ v).length ∧ w9.ownsRow w8.heap.size 5 1 (.slice A9 k9 c9) k9 ((x ++ v).map bV)) := by
      have hgood : Tr.right (lastT 0 T) U = true → z9 = 0 ∧ k9 = (x ++ v).length ∧ w9.ownsRow w8.heap.size 5 1 (.slice A9 k9 c9) k9 ((x ++ v).map bV) := fun h => by
        have hj := join_both Hpx.out Hpv.out h
        rcases HF9.out with ⟨q, h1, h2, h3, h4, _⟩ | ⟨h1, _⟩
        · rw [hj] at h1
          simp only [PutA.ok.injEq] at h1
          subst h1
          exact ⟨h2, h3, h4⟩
        · rw [hj] at h1; cases h1
      rcases Nat.eq_zero_or_pos n with hz | hz
      · refine Or.inr ⟨Or.inl hz, hgood ?_⟩
        rw [Tr.len_zero (Hn.out.trans hz)]
        exact (put_ok Hpv.out).1
      rcases Nat.eq_zero_or_pos m with hz' | hz'
      · refine Or.inr ⟨Or.inr hz', hgood ?_⟩
        rw [Tr.len_zero (Hm.out.trans hz')]; rfl
      left
      obtain ⟨T0, t1, bs1, s1, hT⟩ := Tr.last T (by rw [Hn.out]; exact hz)
      have hT0 : T0.len = n - 1 := by have := Hn.out; rw [hT, Tr.len_app] at this; simp only [Tr.len] at this; omega
      have hLT := HL.out w9 HN9.out
      rw [hT] at hLT
      have hLl := hLT.behind
      rw [hT0, Nat.zero_add] at hLl
      obtain ⟨⟨_, _, _, ⟨a, ha, _, hca, _⟩, _⟩, _⟩ := hLl
      have hMU := HM.out w9 HN9.out
      cases hU : U with
      | nil => have := Hm.out; rw [hU] at this; simp [Tr.len] at this; omega
      | cons t2 bs2 s2 r2 =>
        rw [hU] at hMU
        obtain ⟨⟨_, _, _, ⟨b, hb, _, hcb, _⟩, _⟩, _⟩ := hMU
        rw [Nat.zero_mul, add_zero] at hcb
        have hla : lastT 0 T = t1 := by rw [hT]; exact lastT_app 0 T0 t1 bs1 s1
        refine ⟨t1, t2, hz, hz', ⟨a, b, ha, hb, hca, hcb⟩, ?_⟩
        rcases Int.lt_or_le t1 t2 with h | h
        · exact Or.inr ⟨h, hgood (join_fit Hpv.out hU (by rw [hla]; exact h))⟩
        · obtain ⟨h1, h2⟩ := join_bad Hpx.out Hpv.out hU (by rw [hla]; exact h)
          refine Or.inl ⟨h, ?_, h2⟩
          rcases HF9.out with ⟨q, h3, _⟩ | ⟨h3, _⟩
          · rw [h1] at h3; cases h3
          · rw [h1] at h3; simp only [PutA.err.injEq] at h3; exact h3.symm
    clear HF9
    have hcvx : ∀ nq, (convert 25 9 (.slice A3 k3 c3)).run Try.prog (w9.drewN nq) = .ok (.string (bstr x)) (w9.drewN nq) := fun nq => own_string Try.underlying25 Try.underlying5 Try.underlying9 (own_new HOx.out ((Chg.refl _ _).drewN nq))
    have hcvv : ∀ nq, (convert 25 9 (.slice A5 k5 c5)).run Try.prog (w9.drewN nq) = .ok (.string (bstr v)) (w9.drewN nq) := fun nq => own_string Try.underlying25 Try.underlying5 Try.underlying9 (own_new HOv.out ((Chg.refl _ _).drewN nq))
    rcases fin with ⟨t1, t2, hn0, hm0, ⟨a, b, rfl, rfl, hca, hcb⟩, ⟨hle, rfl, hdec⟩ | ⟨hlt, rfl, hk9, hO9⟩⟩ | ⟨hnm, rfl, hk9, hO9⟩
    · have Hdec := Lib.hid hdec; clear hdec hcvx hcvv
      go_upto_region 8 with (fail)
      go_quiet (fail)
      have HN10 : Hid (New w9 (w9.drewN nq)) := (Chg.refl _ _).drewN nq
      obtain ⟨w10, hw10⟩ : ∃ w10, w10 = w9.drewN nq := ⟨_, rfl⟩
      rw [← hw10] at HN10 ⊢
      clear hw10
      have HAx := Lib.hid (own_arr_bs Hkx.out.symm (own_new HOx.out HN10.out))
      have Hlx := Lib.hid (own_below (own_new HOx.out HN10.out))
      have Hnx := Lib.hid (own_nil HOx.out)
      have HAv : Hid (∀ wy, New w10 wy → Arr wy (fun k => Value.ownBlock (.slice A5 k5 c5) = some k) A5 k5 (fun i => bV (v.getD i 0))) := fun wy hy => own_arr_bs Hkv.out.symm (own_new (own_new HOv.out HN10.out) hy)
      have Hnv := Lib.hid (own_nil HOv.out)
      go_wp2_with (first | (at_builtin; refine wpList_copy rfl _ _ rfl rfl A3 k3 c3 x _ rfl HAx.out Hlx.out Hkx.out.symm Hnx.out (by omega) ?_; intro A11 c11 w11 hO11 hN11; have HO11 := Lib.hid hO11; have HN11 := Lib.hid hN11; clear hO11 hN11) | (at_builtin; refine wpList_app (wX := w10) rfl HN11.out _ _ rfl _ k3 x rfl HO11.out A5 k5 c5 v _ rfl (HAv.out _ HN11.out) Hkv.out.symm Hnv.out (by omega) ?_; intro A12 c12 w12 hO12 hN12; have HG12 := Lib.hid (Get_own hO12 (fun y hy => (List.mem_append.1 hy).elim (Hx256.out y) (Hv256.out y)) (by omega) (Chg.refl _ _)); have HN12 := Lib.hid (HN9.out.then_new (HN10.out.then_new hN12)); clear hO12 hN12) | fail)
      rw [Hdec.out] at HG12
      with_reducible refine HG12.out.mono ?_
      rintro e w13 ⟨hE13, hN13⟩
      simp only [AnsR] at hE13
      subst hE13
      have HN13 := Lib.hid (HN12.out.then_new hN13); clear hN13
      go_wp2_with fail
      go_ret
      exact ⟨rfl, HN13.out⟩
    · have hcv9 : ∀ nq, (convert 25 9 (.slice A9 k9 c9)).run Try.prog (w9.drewN nq) = .ok (.string (bstr (x ++ v))) (w9.drewN nq) := fun nq => own_string Try.underlying25 Try.underlying5 Try.underlying9 (own_new hO9 ((Chg.refl _ _).drewN nq))
      clear hO9 hk9
      go_upto_region 8 with (fail)
      have hcat := bstr_cat x v
      have hsx : (bstr x).size = k3 := by rw [bstr_size, Hkx.out]
      have hsv : (bstr v).size = k5 := by rw [bstr_size, Hkv.out]
      go_quiet (fail)
      go_wp2_with fail
      go_ret
      exact ⟨rfl, HN9.out.drewN nq⟩
    · have hcv9 : ∀ nq, (convert 25 9 (.slice A9 k9 c9)).run Try.prog (w9.drewN nq) = .ok (.string (bstr (x ++ v))) (w9.drewN nq) := fun nq => own_string Try.underlying25 Try.underlying5 Try.underlying9 (own_new hO9 ((Chg.refl _ _).drewN nq))
      have hcat := bstr_cat x v
      have hsx : (bstr x).size = k3 := by rw [bstr_size, Hkx.out]
      have hsv : (bstr v).size = k5 := by rw [bstr_size, Hkv.out]
      clear hO9 hk9
      have hnm' : n = 0 ∨ (0 < n ∧ m = 0) := by omega
      clear hnm
      rcases hnm' with rfl | ⟨hn0, rfl⟩
      all_goals
        go_upto_region 8 with (fail)
        go_quiet (fail)
        go_wp2_with fail
        go_ret
        exact ⟨rfl, HN9.out.drewN nq⟩
end Go.Proofs.Ytkhlalcghdfamaa
