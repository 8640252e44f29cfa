import Derived.Test.YtkhlalcghdfamaaRefG
import Derived.Test.YtkhlalcghdfamaaSpoilB
namespace Go.Proofs.Ytkhlalcghdfamaa
open Go.RowKit
set_option maxRecDepth 100000 in
set_option maxHeartbeats 8000000 in
theorem gets_law {W : World} (B : Option Addr) (m d : Nat) (y : (∃ bs : List Nat, bs.length = m ∧ Arr W (· < W.heap.size) B m (fun i => bV (bs.getD i 0)) ∧ (∀ x ∈ bs, x < 256) ∧ m ≤ d ∧ d ≤ maxLen ∧ (B = none → m = 0 ∧ d = 0)) ∧ m ≤ 140737488351232) :
    Calls Try.prog 4 #[.slice B m d] W fun e w' => e = .returned (.bool true) ∧ New W w' := by
  obtain ⟨⟨bs, hbl, hBA, hb256, hmd, hdm, hBn⟩, hmb⟩ := y
  have HB : Hid (Byts W (· < W.heap.size) (.slice B m d) bs) := ⟨B, d, by rw [hbl], by rw [hbl]; exact hBA, by rw [hbl]; exact hBn, hb256, by omega⟩
  have Hbl := Lib.hid hbl; clear hbl
  have Hb256 := Lib.hid hb256; clear hb256
  have HBn := Lib.hid hBn; clear hBn
  have HBA := Lib.hid hBA; clear hBA
  go_enter Try.func4, Try.ntmps4
  go_wp2_with fail
  with_reducible refine (awake_any W).mono ?_
  rintro e w1 ⟨rfl, hN1⟩
  have HA1 := Lib.hid (HBA.out.new hN1 (fun _ h => h))
  have HF1 : Hid (∀ k, k < W.heap.size → k < w1.heap.size) := fun k hk => Nat.lt_of_lt_of_le hk hN1.size
  have HN1 := Lib.hid hN1; clear hN1
  go_wp2_with (first | (at_builtin; refine wpList_copy rfl _ _ rfl rfl B m d bs _ rfl HA1.out HF1.out Hbl.out HBn.out (by omega) ?_; intro A2 c2 w2 hO2 hN2; have HO2 := Lib.hid hO2; have HN2 := Lib.hid (HN1.out.then_new hN2); clear hO2 hN2) | fail)
  have HG2 := Lib.hid (Get_own HO2.out Hb256.out (by omega) (Chg.refl _ _))
  have HR : Hid (∀ wy, New W wy → Calls Try.prog 16 #[.slice B m d, .int .i64 0] wy fun e w' => AnsR wy (decd 4 0 bs) e w' ∧ New wy w') := fun wy hy =>
    RGet_any (bs.length + 1) bs (Nat.lt_succ_self _) m B d 0 wy _ (HB.out.new hy (fun _ h => h)) hmd hdm (by decide) (fun k hk => Nat.lt_of_lt_of_le hk hy.size)
  with_reducible refine HG2.out.mono ?_
  rintro e w3 ⟨hE3, hN3⟩
  have HM3 := Lib.hid hN3
  have HN3 := Lib.hid (HN2.out.then_new hN3); clear hN3
  have HRo := Lib.hid (HR.out w3 HN3.out)
  have Hend : Hid (∀ w5 w6, New w3 w5 → Spo (Btw w2 w3) w5 w6 → ((convert 25 9 (.slice A2 m c2)).run Try.prog w6 = .ok (.string (bstr bs)) w6 ∧ (convert 25 9 (.slice B m d)).run Try.prog w6 = .ok (.string (bstr bs)) w6 ∧ New W w6)) := fun w5 w6 h5 h6 => by
    have hC : Chg (Btw w2 w3) w2 w6 := (Chg.of_new (HM3.out.then_new h5)).trans h6.chg (fun _ _ h => h)
    refine ⟨own_string Try.underlying25 Try.underlying5 Try.underlying9 (own_chg HO2.out hC (fun k hk he => ?_)), ?_, ?_⟩
    · have := (HO2.out.lt k hk).2; have := he.1; omega
    · have hB2 := HB.out.new HN2.out (fun _ h => h)
      have hs := HN2.out.size
      obtain ⟨A', c', he, hA, hnil, h256, _⟩ := hB2.chg hC (fun k hk => ⟨Nat.lt_of_lt_of_le hk hs, fun he => by have := he.1; omega⟩)
      simp only [Value.slice.injEq] at he
      obtain ⟨rfl, rfl, rfl⟩ := he
      exact arr_string Try.underlying25 Try.underlying5 Try.underlying9 hA rfl h256 hnil
    · exact HN2.out.trans hC (fun i hi he => by have := he.1; have := HN2.out.size; omega)
  cases hd : decd 4 0 bs with
  | err z =>
    rw [hd] at hE3 HRo
    simp only [AnsR] at hE3
    subst hE3
    clear hd
    go_wp2_with fail
    with_reducible refine HRo.out.mono ?_
    rintro e w4 ⟨hE4, hN4⟩
    simp only [AnsR] at hE4
    subst hE4
    have HN4 := Lib.hid hN4; clear hN4
    have HSa : Hid (Calls Try.prog 14 #[.slice none 0 0, .slice none 0 0] w4 fun e w' => e = .returned (.bool true) ∧ New w4 w') :=
      (RSame_any 1 .nil .nil (by decide) 0 0 none none 0 0 w4 (fun _ => False) (fun _ => False) rfl rfl trivial trivial (by decide) (by decide) (fun _ h => h.elim) (fun _ h => h.elim)).mono (by
        rintro e w' ⟨rfl, q, rfl⟩
        exact ⟨by simp, (Chg.refl _ _).drewN q⟩)
    go_wp2_with fail
    with_reducible refine HSa.out.mono ?_
    rintro e w5 ⟨rfl, hN5⟩
    have HN5 := Lib.hid (HN4.out.then_new hN5); clear hN5
    have HSp := Lib.hid (spoil_any 1 .nil (by decide) 0 none 0 w5 (Btw w2 w3) rfl (fun h => by simp [Tr.len] at h) (by decide))
    go_wp2_with fail
    with_reducible refine HSp.out.mono ?_
    rintro e w6 ⟨rfl, hs6⟩
    obtain ⟨hv1, hv2, hv3⟩ := Hend.out w5 w6 HN5.out hs6
    have Hv3 := Lib.hid hv3; clear hv3 hs6
    go_wp2_with fail
    go_ret
    exact ⟨rfl, Hv3.out⟩
  | ok T =>
    rw [hd] at hE3 HRo
    obtain ⟨A3, c3, rfl, hO3, hl3⟩ := hE3
    clear hd
    obtain ⟨p, hp⟩ : ∃ p, p = T.len := ⟨_, rfl⟩
    have Hp := Lib.hid hp
    rw [← hp] at hO3 hl3 ⊢
    clear hp
    have HO3 := Lib.hid hO3; clear hO3
    go_wp2_with fail
    with_reducible refine HRo.out.mono ?_
    rintro e w4 ⟨hE4, hN4⟩
    obtain ⟨A4, c4, rfl, hO4, _⟩ := hE4
    rw [← Hp.out] at hO4 ⊢
    have HO4 := Lib.hid hO4; clear hO4
    have HN4 := Lib.hid hN4; clear hN4
    have HSa : Hid (Calls Try.prog 14 #[.slice A3 p c3, .slice A4 p c4] w4 fun e w' => e = .returned (.bool true) ∧ New w4 w') :=
      (RSame_any (T.size + 1) T T (Nat.lt_succ_self _) p p A3 A4 c3 c4 w4 _ _ Hp.out.symm Hp.out.symm (HO3.out.lay (by omega) Hp.out.symm HN4.out) (HO4.out.lay (by omega) Hp.out.symm (Chg.refl _ _)) (by omega) (by omega) (fun k hk => Nat.lt_of_lt_of_le hk.2 HN4.out.size) (fun k hk => hk.2)).mono (by
        rintro e w' ⟨rfl, q, rfl⟩
        exact ⟨by simp, (Chg.refl _ _).drewN q⟩)
    go_wp2_with fail
    with_reducible refine HSa.out.mono ?_
    rintro e w5 ⟨rfl, hN5⟩
    have HN5 := Lib.hid (HN4.out.then_new hN5); clear hN5
    have HSp := Lib.hid (spoil_any (T.size + 1) T (Nat.lt_succ_self _) p A3 c3 w5 (Btw w2 w3) Hp.out.symm ((HO3.out.new HN5.out).shape Hp.out.symm) (by omega))
    go_wp2_with fail
    with_reducible refine HSp.out.mono ?_
    rintro e w6 ⟨rfl, hs6⟩
    obtain ⟨hv1, hv2, hv3⟩ := Hend.out w5 w6 HN5.out hs6
    have Hv3 := Lib.hid hv3; clear hv3 hs6
    go_wp2_with fail
    go_ret
    exact ⟨rfl, Hv3.out⟩
end Go.Proofs.Ytkhlalcghdfamaa
