import Derived.Test.YtkhlalcghdfamaaAwake
import Derived.Test.YtkhlalcghdfamaaLCop
import Derived.Test.YtkhlalcghdfamaaRefS
namespace Go.Proofs.Ytkhlalcghdfamaa
open Go.RowKit
theorem conv_nil (w : World) : (convert 25 9 (.slice none 0 0)).run Try.prog w = .ok (.string (bstr [])) w :=
  arr_string (bs := []) (F := fun _ => True) Try.underlying25 Try.underlying5 Try.underlying9 (fun i hi => by simp at hi) rfl (by simp) (fun _ => ⟨rfl, rfl⟩)
theorem btw_lt {w w' : World} : ∀ k, Btw w w' k ∧ k < w'.heap.size → k < w'.heap.size := fun _ h => h.2
/-- the elements of a new slice, for reading -/
theorem OwnE.lay {w w' : World} {F : Nat → Prop} {A : Option Addr} {n c : Nat} {T : Tr} (h : OwnE w F (.slice A n c) T) (hl : n * 56 ≤ 140737488351232) (hn : T.len = n) (hN : New w w') : Lay w' (fun k => F k ∧ k < w.heap.size) A 0 T := by
  subst hn
  obtain ⟨A', c', he, _, _, hL⟩ := h.els hl
  simp only [Value.slice.injEq, true_and] at he
  obtain ⟨rfl, rfl⟩ := he
  exact hL.new hN (fun k hk => hk.2)
theorem Els.out {w w' : World} {F : Nat → Prop} {A : Option Addr} {n c : Nat} {T : Tr} (h : Els w F (.slice A n c) T) (hN : New w w') (hF : ∀ k, F k → k < w.heap.size) : Lay w' F A 0 T ∧ n * 56 ≤ 140737488351232 := by
  obtain ⟨A', c', he, _, hl, hL⟩ := h
  simp only [Value.slice.injEq] at he
  obtain ⟨rfl, rfl, rfl⟩ := he
  exact ⟨hL.new hN hF, hl⟩
set_option maxRecDepth 100000 in
set_option maxHeartbeats 4000000 in
theorem puts_law {W : World} (A : Option Addr) (n c : Nat) (z : ∃ T : Tr, T.len = n ∧ Els W (· < W.heap.size) (.slice A n c) T) : Calls Try.prog 3 #[.slice A n c] W fun e w' => e = .returned (.bool true) ∧ New W w' := by
  obtain ⟨T, hn, hE⟩ := z
  have hnb := (hE.out (Chg.refl _ _) (fun _ h => h)).2
  have HL : Hid (∀ wy, New W wy → Lay wy (· < W.heap.size) A 0 T) := fun wy hy => (hE.out hy (fun _ h => h)).1
  have Hn := Lib.hid hn; clear hn hE
  go_enter Try.func3, Try.ntmps3
  go_wp2_with fail
  with_reducible refine (awake_any W).mono ?_
  rintro e w1 ⟨rfl, hN1⟩
  have HN1 := Lib.hid hN1; clear hN1
  go_wp2_with fail
  with_reducible refine (lcopied_any (T.size + 1) T (Nat.lt_succ_self _) n A c w1 _ Hn.out (HL.out w1 HN1.out) (fun k hk => Nat.lt_of_lt_of_le hk HN1.out.size) hnb).mono ?_
  rintro e w2 ⟨A2, c2, rfl, hO2, hN2⟩
  have HO2 : Hid (∀ wy, New w2 wy → Lay wy (fun k => Btw w1 w2 k ∧ k < w2.heap.size) A2 0 T) := fun wy hy => hO2.lay hnb Hn.out hy
  have HN2 := Lib.hid (HN1.out.then_new hN2); clear hN2 hO2
  go_wp2_with fail
  with_reducible refine (Put_any T n A2 c2 w2 _ Hn.out (HO2.out w2 (Chg.refl _ _)) (fun k hk => hk.2) hnb).mono ?_
  rintro e w3 ⟨hE3, hN3⟩
  have hM3 := Lib.hid hN3
  have HN3 := Lib.hid (HN2.out.then_new hN3); clear hN3
  have HR : Hid (∀ wy, New w3 wy → Calls Try.prog 13 #[.slice A n c] wy fun e w' => PutR wy T.put e w' ∧ New wy w') := fun wy hy =>
    RPut_any T n A c wy _ Hn.out (HL.out wy (HN3.out.then_new hy)) (fun k hk => Nat.lt_of_lt_of_le hk (HN3.out.then_new hy).size) hnb
  have HSa : Hid (∀ wy, New w3 wy → Calls Try.prog 14 #[.slice A2 n c2, .slice A n c] wy fun e w' => e = .returned (.bool true) ∧ New wy w') := fun wy hy =>
    (RSame_any (T.size + 1) T T (Nat.lt_succ_self _) n n A2 A c2 c wy _ _ Hn.out Hn.out (HO2.out wy (hM3.out.then_new hy)) (HL.out wy (HN3.out.then_new hy)) hnb hnb (fun k hk => Nat.lt_of_lt_of_le hk.2 (hM3.out.then_new hy).size) (fun k hk => Nat.lt_of_lt_of_le hk (HN3.out.then_new hy).size)).mono (by
      rintro e w' ⟨rfl, q, rfl⟩
      exact ⟨by simp, (Chg.refl _ _).drewN q⟩)
  cases hp : T.put with
  | err zz =>
    rw [hp] at hE3 HR
    simp only [PutR] at hE3
    subst hE3
    clear hp
    go_wp2_with fail
    with_reducible refine (HR.out w3 (Chg.refl _ _)).mono ?_
    rintro e w4 ⟨hE4, hN4⟩
    simp only [PutR] at hE4
    subst hE4
    have hcn := conv_nil w4
    have HN4 := Lib.hid hN4; clear hN4
    go_wp2_with fail
    with_reducible refine (HSa.out _ HN4.out).mono ?_
    rintro e w5 ⟨rfl, hN5⟩
    have HN5 := Lib.hid ((HN3.out.then_new HN4.out).then_new hN5); clear hN5
    go_wp2_with fail
    go_ret
    exact ⟨rfl, HN5.out⟩
  | ok x =>
    rw [hp] at hE3 HR
    obtain ⟨A3, c3, rfl, hO3, _, hxl⟩ := hE3
    clear hp
    obtain ⟨xl, hxe⟩ : ∃ xl, xl = x.length := ⟨_, rfl⟩
    have Hxe := Lib.hid hxe
    rw [← hxe] at hxl hO3 ⊢
    clear hxe
    have HO3 := Lib.hid hO3; clear hO3
    go_wp2_with fail
    with_reducible refine (HR.out w3 (Chg.refl _ _)).mono ?_
    rintro e w4 ⟨hE4, hN4⟩
    obtain ⟨A4, c4, rfl, hO4, _, _⟩ := hE4
    rw [← Hxe.out] at hO4 ⊢
    have hc3 : (convert 25 9 (.slice A3 xl c3)).run Try.prog w4 = .ok (.string (bstr x)) w4 := own_string Try.underlying25 Try.underlying5 Try.underlying9 (own_new HO3.out hN4)
    have hc4 : (convert 25 9 (.slice A4 xl c4)).run Try.prog w4 = .ok (.string (bstr x)) w4 := own_string Try.underlying25 Try.underlying5 Try.underlying9 hO4
    clear hO4
    have HN4 := Lib.hid hN4; clear hN4
    go_wp2_with fail
    with_reducible refine (HSa.out _ HN4.out).mono ?_
    rintro e w5 ⟨rfl, hN5⟩
    have HN5 := Lib.hid ((HN3.out.then_new HN4.out).then_new hN5); clear hN5
    go_wp2_with fail
    go_ret
    exact ⟨rfl, HN5.out⟩
end Go.Proofs.Ytkhlalcghdfamaa
