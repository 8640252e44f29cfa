import Derived.Test.YtkhlalcghdfamaaRefS
import Derived.Test.YtkhlalcghdfamaaGetA
namespace Go.Proofs.Ytkhlalcghdfamaa
open Go.RowKit
theorem bstr_dec {a b : List Nat} (ha : ∀ x ∈ a, x < 256) (hb : ∀ x ∈ b, x < 256) : ((bstr a).toList == (bstr b).toList) = decide (a = b) := by
  by_cases h : a = b
  · subst h; simp
  · rw [bstr_ne ha hb h, decide_eq_false h]
theorem byts_conv {w w' : World} {F : Nat → Prop} {A : Option Addr} {n c : Nat} {bs : List Nat} (h : Byts w F (.slice A n c) bs) (hN : New w w') (hF : ∀ k, F k → k < w.heap.size) : (convert 25 9 (.slice A n c)).run Try.prog w' = .ok (.string (bstr bs)) w' := by
  obtain ⟨A', c', he, hA, hnil, h256, _⟩ := h.new hN hF
  simp only [Value.slice.injEq] at he
  obtain ⟨rfl, rfl, rfl⟩ := he
  exact arr_string Try.underlying25 Try.underlying5 Try.underlying9 hA rfl h256 hnil
set_option maxRecDepth 100000 in
set_option maxHeartbeats 1000000 in
theorem Equal_any (bs bs' : List Nat) (A A' : Option Addr) (n n' c c' : Nat) (w : World) (h1 : (convert 25 9 (.slice A n c)).run Try.prog w = .ok (.string (bstr bs)) w) (h2 : (convert 25 9 (.slice A' n' c')).run Try.prog w = .ok (.string (bstr bs')) w) (h3 : ((bstr bs).toList == (bstr bs').toList) = decide (bs = bs')) :
    Calls Try.prog 33 #[.slice A n c, .slice A' n' c'] w fun e w' => e = .returned (.bool (decide (bs = bs'))) ∧ w' = w := by
  have H3 := Lib.hid h3; clear h3
  go_enter Try.func33, Try.ntmps33
  go_wp2_with fail
  go_ret
  refine ⟨?_, rfl⟩
  rw [← H3.out]; rfl
set_option maxRecDepth 100000 in
set_option maxHeartbeats 1000000 in
theorem Same1_any (t t' : Int) (bs bs' : List Nat) (sub sub' : Tr) (Ab Ab' B B' : Option Addr) (bl bl' cc cc' p p' cb cb' : Nat) (w : World) (F G : Nat → Prop) (hb : Byts w F (.slice Ab bl cc) bs) (hb' : Byts w G (.slice Ab' bl' cc') bs') (hF : ∀ k, F k → k < w.heap.size) (hG : ∀ k, G k → k < w.heap.size)
    (hC : ∀ w1, New w w1 → Calls Try.prog 18 #[.slice B p cb, .slice B' p' cb'] w1 fun e w' => e = .returned (.bool (decide (sub = sub'))) ∧ New w1 w') :
    Calls Try.prog 32 #[.agg #[.int .i64 t, .slice Ab bl cc, .slice B p cb], .agg #[.int .i64 t', .slice Ab' bl' cc', .slice B' p' cb']] w fun e w' => e = .returned (.bool (decide (t = t' ∧ bs = bs' ∧ sub = sub'))) ∧ New w w' := by
  have HE : Hid (∀ w1, New w w1 → Calls Try.prog 33 #[.slice Ab bl cc, .slice Ab' bl' cc'] w1 fun e w' => e = .returned (.bool (decide (bs = bs'))) ∧ w' = w1) := fun w1 h1 =>
    Equal_any bs bs' Ab Ab' bl bl' cc cc' w1 (byts_conv hb h1 hF) (byts_conv hb' h1 hG) (bstr_dec hb.len.2.2 hb'.len.2.2)
  have HC := Lib.hid hC; clear hC hb hb' hF hG
  by_cases htt : t = t'
  · subst htt
    by_cases hbe : bs = bs'
    · have Hd : Hid (decide (t = t ∧ bs = bs' ∧ sub = sub') = decide (sub = sub')) := by rw [Hid]; simp [hbe]
      have hE1 : decide (bs = bs') = true := decide_eq_true hbe
      rw [hE1] at HE
      clear hbe hE1
      go_enter Try.func32, Try.ntmps32
      go_wp2_with fail
      with_reducible refine (HE.out _ (by with_reducible repeat (first | exact Chg.refl _ _ | refine Chg.alloc ?_ _ | refine Chg.drew ?_))).mono ?_
      rintro e w1 ⟨rfl, rfl⟩
      go_wp2_with fail
      with_reducible refine (HC.out _ (by with_reducible repeat (first | exact Chg.refl _ _ | refine Chg.alloc ?_ _ | refine Chg.drew ?_))).mono ?_
      rintro e w2 ⟨rfl, hN2⟩
      have HN2 : Hid (New w w2) := Chg.then_new (S := fun _ => False) (by with_reducible repeat (first | exact Chg.refl _ _ | refine Chg.alloc ?_ _ | refine Chg.drew ?_)) hN2
      clear hN2
      go_wp2_with fail
      go_ret
      exact ⟨by rw [Hd.out]; rfl, HN2.out⟩
    · have Hd : Hid (decide (t = t ∧ bs = bs' ∧ sub = sub') = false) := by rw [Hid]; simp [hbe]
      have hE1 : decide (bs = bs') = false := decide_eq_false hbe
      rw [hE1] at HE
      clear hbe hE1
      go_enter Try.func32, Try.ntmps32
      go_wp2_with fail
      with_reducible refine (HE.out _ (by with_reducible repeat (first | exact Chg.refl _ _ | refine Chg.alloc ?_ _ | refine Chg.drew ?_))).mono ?_
      rintro e w1 ⟨rfl, rfl⟩
      go_wp2_with fail
      go_ret
      exact ⟨by rw [Hd.out]; rfl, by with_reducible repeat (first | exact Chg.refl _ _ | refine Chg.alloc ?_ _ | refine Chg.drew ?_)⟩
  · have Hd : Hid (decide (t = t' ∧ bs = bs' ∧ sub = sub') = false) := by rw [Hid]; simp [htt]
    have htne : (t == t') = false := by simpa using htt
    clear htt
    go_enter Try.func32, Try.ntmps32
    go_wp2_with fail
    go_ret
    exact ⟨by rw [Hd.out]; rfl, by with_reducible repeat (first | exact Chg.refl _ _ | refine Chg.alloc ?_ _ | refine Chg.drew ?_)⟩
end Go.Proofs.Ytkhlalcghdfamaa
