import Derived.Test.YtkhlalcghdfamaaLPuts
import Derived.Test.YtkhlalcghdfamaaSameB
import Derived.Test.YtkhlalcghdfamaaTreeB
namespace Go.Proofs.Ytkhlalcghdfamaa
open Go.RowKit
theorem put_err {T : Tr} {z : Int} (h : T.put = .err z) : (z == 0) = false ∧ (z != 0) = true := by
  unfold Tr.put at h
  split at h
  · simp only [PutA.err.injEq] at h; subst h; decide
  split at h
  · split at h
    · simp only [PutA.err.injEq] at h; subst h; decide
    · cases h
  · simp only [PutA.err.injEq] at h; subst h; decide
theorem put_ok {T : Tr} {x : List Nat} (h : T.put = .ok x) : Tr.right 0 T = true ∧ Tr.deeper 4 T = false ∧ T.enc = some x := by
  unfold Tr.put at h
  cases hd : Tr.deeper 4 T with
  | true => rw [hd] at h; cases h
  | false =>
    rw [hd] at h
    cases hr : Tr.right 0 T with
    | false => rw [hr] at h; cases h
    | true =>
      rw [hr] at h
      cases he : T.enc with
      | none => rw [he] at h; cases h
      | some y => rw [he] at h; simp at h; subst h; exact ⟨rfl, rfl, rfl⟩
theorem put_of {T : Tr} {x : List Nat} (h1 : Tr.right 0 T = true) (h2 : Tr.deeper 4 T = false) (h3 : T.enc = some x) : T.put = .ok x := by
  unfold Tr.put
  rw [h2, h1, h3]; rfl
theorem own_max {w : World} {base e size n c : Nat} {A : Option Addr} {xs : List Value} (h : w.ownsRow base e size (.slice A n c) n xs) : c ≤ maxLen := by
  rcases h.2 with ⟨hv, hn⟩ | ⟨g', cap, cur, hv, _, _, hnc, hcm, _⟩
  · simp only [Value.slice.injEq] at hv; omega
  · simp only [Value.slice.injEq] at hv
    obtain ⟨_, _, rfl⟩ := hv
    exact hcm
/-- Get of bytes that were made -/
theorem Get_own {x : List Nat} {A : Option Addr} {n c b : Nat} {w w' : World} (hO : w.ownsRow b 5 1 (.slice A n c) n (x.map bV)) (h256 : ∀ y ∈ x, y < 256) (hn : n ≤ 140737488355328) (hN : New w w') :
    Calls Try.prog 15 #[.slice A n c] w' fun e w'' => AnsR w' (decd 4 0 x) e w'' ∧ New w' w'' :=
  Get_any x n A c w' _ (Byts.own_any hO hN h256 hn) (own_cap hO) (own_max hO) (fun _ h => h)
set_option maxRecDepth 100000 in
set_option maxHeartbeats 4000000 in
theorem back_law {W : World} (A : Option Addr) (n c : Nat) (z : ∃ T : Tr, T.len = n ∧ Els W (· < W.heap.size) (.slice A n c) T)
    (B : Option Addr) (m d : Nat) (y : (∃ bs : List Nat, bs.length = m ∧ Arr W (· < W.heap.size) B m (fun i => bV (bs.getD i 0)) ∧ (∀ x ∈ bs, x < 256) ∧ m ≤ d ∧ d ≤ maxLen ∧ (B = none → m = 0 ∧ d = 0)) ∧ m ≤ 140737488351232) :
    Calls Try.prog 5 #[.slice A n c, .slice B m d] W fun e w' => e = .returned (.bool true) ∧ New W w' := by
  obtain ⟨T, hn, hE⟩ := z
  obtain ⟨⟨bs, hbl, hBA, hb256, hmd, hdm, hBn⟩, hmb⟩ := y
  have hnb := (hE.out (Chg.refl _ _) (fun _ h => h)).2
  have HL : Hid (∀ wy, New W wy → Lay wy (· < W.heap.size) A 0 T) := fun wy hy => (hE.out hy (fun _ h => h)).1
  have HB : Hid (Byts W (· < W.heap.size) (.slice B m d) bs) := ⟨B, d, by rw [hbl], by rw [hbl]; exact hBA, by rw [hbl]; exact hBn, hb256, by omega⟩
  have HG : Hid (∀ wy, New W wy → Calls Try.prog 15 #[.slice B m d] wy fun e w' => AnsR wy (decd 4 0 bs) e w' ∧ New wy w') := fun wy hy =>
    Get_any bs m B d wy _ (HB.out.new hy (fun _ h => h)) hmd hdm (fun k hk => Nat.lt_of_lt_of_le hk hy.size)
  have Hn := Lib.hid hn; clear hn hE hBA hBn
  have Hb256 := Lib.hid hb256; clear hb256 hbl
  go_enter Try.func5, Try.ntmps5
  go_wp2_with fail
  with_reducible refine (awake_any W).mono ?_
  rintro e w1 ⟨rfl, hN1⟩
  have HN1 := Lib.hid hN1; clear hN1
  go_wp2_with fail
  with_reducible refine (lcopied_any (T.size + 1) T (Nat.lt_succ_self _) n A c w1 _ Hn.out (HL.out w1 HN1.out) (fun k hk => Nat.lt_of_lt_of_le hk HN1.out.size) hnb).mono ?_
  rintro e w2 ⟨A2, c2, rfl, hO2, hN2⟩
  have HO2 := Lib.hid (hO2.lay hnb Hn.out (Chg.refl _ _))
  have HN2 := Lib.hid (HN1.out.then_new hN2); clear hN2 hO2
  go_wp2_with fail
  with_reducible refine (Put_any T n A2 c2 w2 _ Hn.out HO2.out (fun k hk => hk.2) hnb).mono ?_
  rintro e w3 ⟨hE3, hN3⟩
  have HN3 := Lib.hid (HN2.out.then_new hN3); clear hN3
  cases hp : T.put
  case' err zz =>
    rw [hp] at hE3
    simp only [PutR] at hE3
    subst hE3
    obtain ⟨hz1, hz2⟩ := put_err hp
    have HNq := HN3
    clear hp
    go_wp2_with fail
  case' ok x =>
    rw [hp] at hE3
    obtain ⟨A3, c3, rfl, hO3, hx256, hxl⟩ := hE3
    obtain ⟨hr, hd, he⟩ := put_ok hp
    have hde := dec_enc hr hd he
    clear hp hr hd he
    have HG3 := Lib.hid (Get_own hO3 hx256 (by omega) (Chg.refl _ _)); clear hO3 hx256
    rw [hde] at HG3
    obtain ⟨xl, hxe⟩ : ∃ xl, xl = x.length := ⟨_, rfl⟩
    rw [← hxe] at hxl HG3 ⊢
    clear hxe hde
    go_wp2_with fail
    with_reducible refine HG3.out.mono ?_
    rintro e w4 ⟨hE4, hN4⟩
    obtain ⟨A4, c4, rfl, hO4, hl4⟩ := hE4
    have HN4 := Lib.hid (HN3.out.then_new hN4); clear hN4
    rw [Hn.out] at hO4 hl4 ⊢
    have HSa : Hid (Calls Try.prog 18 #[.slice A4 n c4, .slice A n c] w4 fun e w' => e = .returned (.bool true) ∧ New w4 w') :=
      (Same_any (T.size + 1) T T (Nat.lt_succ_self _) n n A4 A c4 c w4 _ _ Hn.out Hn.out (hO4.lay hnb Hn.out (Chg.refl _ _)) (HL.out w4 HN4.out) hnb hnb (fun k hk => hk.2) (fun k hk => Nat.lt_of_lt_of_le hk HN4.out.size)).mono (by
        rintro e w' ⟨rfl, h⟩
        exact ⟨by simp, h⟩)
    clear hO4
    go_wp2_with fail
    with_reducible refine HSa.out.mono ?_
    rintro e wq ⟨rfl, hNq⟩
    have HNq := Lib.hid (HN4.out.then_new hNq); clear hNq
    go_wp2_with fail
  all_goals
    with_reducible refine (HG.out _ HNq.out).mono ?_
    rintro e w6 ⟨hE6, hN6⟩
    have HN6 := Lib.hid (HNq.out.then_new hN6); clear hN6
    cases hd : decd 4 0 bs with
    | err zd =>
      rw [hd] at hE6
      simp only [AnsR] at hE6
      subst hE6
      have hzd := err_zero 4 _ 0 bs (Nat.le_refl _) zd hd
      have hz3 : ((zd : Int) == 0) = false := by simp; omega
      have hz4 : ((zd : Int) != 0) = true := by simp; omega
      clear hd
      go_wp2_with fail
      go_ret
      exact ⟨rfl, HN6.out⟩
    | ok M =>
      rw [hd] at hE6
      obtain ⟨A6, c6, rfl, hO6, hl6⟩ := hE6
      obtain ⟨h1, h2, h3⟩ := enc_dec bs.length 4 0 bs M (Nat.le_refl _) Hb256.out hd
      have hpu := put_of h1 h2 h3
      clear hd h1 h2 h3
      have HLM := Lib.hid (hO6.lay (by omega) rfl (Chg.refl _ _)); clear hO6
      have HPu : Hid (Calls Try.prog 12 #[.slice A6 M.len c6] w6 fun e w' => PutR w6 M.put e w' ∧ New w6 w') := Put_any M M.len A6 c6 w6 _ rfl HLM.out (fun k hk => hk.2) (by omega)
      rw [hpu] at HPu
      clear hpu
      obtain ⟨ml, hml⟩ : ∃ ml, ml = M.len := ⟨_, rfl⟩
      rw [← hml] at hl6 HPu ⊢
      clear hml
      go_wp2_with fail
      with_reducible refine HPu.out.mono ?_
      rintro e w7 ⟨hE7, hN7⟩
      obtain ⟨A7, c7, rfl, hO7, _, _⟩ := hE7
      have hc7 : (convert 25 9 (.slice A7 bs.length c7)).run Try.prog w7 = .ok (.string (bstr bs)) w7 := own_string Try.underlying25 Try.underlying5 Try.underlying9 hO7
      have hcb := byts_conv HB.out (HN6.out.then_new hN7) (fun _ h => h)
      have HN7 := Lib.hid (HN6.out.then_new hN7); clear hN7 hO7
      obtain ⟨bl, hbl⟩ : ∃ bl, bl = bs.length := ⟨_, rfl⟩
      rw [← hbl] at hc7 ⊢
      clear hbl
      go_wp2_with fail
      go_ret
      exact ⟨rfl, HN7.out⟩
end Go.Proofs.Ytkhlalcghdfamaa
