/-
  Closures of package lists, layable, changed, Clone; the document's In.
-/
import Derived.Test.YtficopkjpdfilaaLiC
namespace Go.Proofs.Ytficopkjpdfilaa
open Go.RowKit
theorem New.set {w w' wX : World} {g : Nat} (hN : New w w') (hG : Chg (· = g) w' wX) (hg : w.heap.size ≤ g) : New w wX := hN.trans hG fun i hi h => by omega
set_option maxRecDepth 100000 in
set_option maxHeartbeats 4000000 in
/-- the closure in Has: three boxes -/
theorem has1_any (x : It) (card owner id : Int) (g1 g2 g3 : Nat) (w : World) (h1 : Has w g1 3 #[.int .i64 card]) (h2 : Has w g2 3 #[.int .i64 owner]) (h3 : Has w g3 3 #[.int .i64 id]) :
    Calls Try.prog 34 #[x.V, .pointer (some ⟨g1, 0, none⟩), .pointer (some ⟨g2, 0, none⟩), .pointer (some ⟨g3, 0, none⟩)] w fun e w' => e = .returned (.bool (hasB x card owner id)) ∧ New w w' := by
  have HI := Lib.hid (isOf_any x card owner id)
  obtain ⟨b, hb⟩ : ∃ b, b = isB x card owner id := ⟨_, rfl⟩
  obtain ⟨R, hQ⟩ : ∃ R, R = hasB x card owner id := ⟨_, rfl⟩
  rw [← hQ]
  unfold hasB at hQ
  rw [← hb] at HI hQ
  clear hb
  obtain ⟨c, o, i, n, a⟩ := x
  simp only at HI hQ
  have HR := Lib.hid hQ; clear hQ
  have l1 := h1.lt
  have l2 := h2.lt
  have l3 := h3.lt
  have d1 := (h1.cell 0).trans rfl
  have d2 := (h2.cell 0).trans rfl
  have d3 := (h3.cell 0).trans rfl
  simp only [List.getElem?_toArray, List.getElem?_cons_zero] at d1 d2 d3
  go_enter Try.func34, Try.ntmps34
  by_cases h4 : o = 0
  · by_cases h5 : c = card
    · subst h4 h5
      go_wp2_with fail
      go_ret
      exact ⟨by rw [HR.out]; simp, (Chg.refl _ _).alloc _⟩
    · subst h4
      go_wp2_with fail
      with_reducible refine (HI.out _).mono ?_
      rintro e w' ⟨rfl, hN⟩
      have HN := Lib.hid hN; clear hN
      go_wp2_with fail
      go_ret
      exact ⟨by rw [HR.out]; simp [h5], ((Chg.refl _ _).alloc _).then_new HN.out⟩
  · go_wp2_with fail
    with_reducible refine (HI.out _).mono ?_
    rintro e w' ⟨rfl, hN⟩
    have HN := Lib.hid hN; clear hN
    go_wp2_with fail
    go_ret
    exact ⟨by rw [HR.out]; simp [h4], ((Chg.refl _ _).alloc _).then_new HN.out⟩
set_option maxRecDepth 100000 in
set_option maxHeartbeats 4000000 in
/-- the closure in apply: the box of what is valid -/
theorem app1_hot (x : It) (g : Nat) (w : World) (h : Has w g 73 #[.func (.func 27) #[] #[]]) :
    Calls Try.prog 54 #[x.V, .pointer (some ⟨g, 0, none⟩)] w fun e w' => e = .returned (.bool (!rightI false x)) ∧ New w w' := by
  have HI := Lib.hid (hot_any x)
  obtain ⟨b, hb⟩ : ∃ b, b = rightI false x := ⟨_, rfl⟩
  rw [← hb] at HI ⊢
  clear hb
  obtain ⟨c, o, i, n, a⟩ := x
  have l1 := h.lt
  have d1 := (h.cell 0).trans rfl
  simp only [List.getElem?_toArray, List.getElem?_cons_zero] at d1
  go_enter Try.func54, Try.ntmps54
  go_wp2_with fail
  with_reducible refine (HI.out _).mono ?_
  rintro e w' ⟨rfl, hN⟩
  have HN := Lib.hid hN; clear hN
  go_wp2_with fail
  go_ret
  exact ⟨rfl, ((Chg.refl _ _).alloc _).then_new HN.out⟩
set_option maxRecDepth 100000 in
set_option maxHeartbeats 4000000 in
theorem app1_act (x : It) (g : Nat) (w : World) (h : Has w g 73 #[.func (.func 29) #[] #[]]) :
    Calls Try.prog 54 #[x.V, .pointer (some ⟨g, 0, none⟩)] w fun e w' => e = .returned (.bool (!rightI true x)) ∧ New w w' := by
  have HI := Lib.hid (act_any x)
  obtain ⟨b, hb⟩ : ∃ b, b = rightI true x := ⟨_, rfl⟩
  rw [← hb] at HI ⊢
  clear hb
  obtain ⟨c, o, i, n, a⟩ := x
  have l1 := h.lt
  have d1 := (h.cell 0).trans rfl
  simp only [List.getElem?_toArray, List.getElem?_cons_zero] at d1
  go_enter Try.func54, Try.ntmps54
  go_wp2_with fail
  with_reducible refine (HI.out _).mono ?_
  rintro e w' ⟨rfl, hN⟩
  have HN := Lib.hid hN; clear hN
  go_wp2_with fail
  go_ret
  exact ⟨rfl, ((Chg.refl _ _).alloc _).then_new HN.out⟩
/-- the predicate of a list, by a letter -/
def valF (act : Bool) : Value := .func (.func (if act then 29 else 27)) #[] #[]
theorem app1_any (act : Bool) (x : It) (g : Nat) (w : World) (h : Has w g 73 #[valF act]) :
    Calls Try.prog 54 #[x.V, .pointer (some ⟨g, 0, none⟩)] w fun e w' => e = .returned (.bool (!rightI act x)) ∧ New w w' := by
  cases act with
  | false => exact app1_hot x g w h
  | true => exact app1_act x g w h
set_option maxRecDepth 100000 in
set_option maxHeartbeats 4000000 in
/-- slices.Clone of items -/
theorem cloneI_any (A : Option Addr) (n c : Nat) (F : Nat → Prop) (xs : List It) (w : World) (hA : Its w F A xs) (hF : ∀ k, F k → k < w.heap.size) (hl : xs.length = n) (hn : A = none → n = 0 ∧ c = 0) (hb : n ≤ 3518437208883) :
    Calls Try.prog 32 #[.slice A n c] w fun e w' => ∃ v, e = .returned v ∧ w'.ownsRow w.heap.size 44 5 v n (ics xs) ∧ New w w' := by
  have HA := Lib.hid hA; clear hA
  have HF := Lib.hid hF; clear hF
  have Hl := Lib.hid hl; clear hl
  have Hn := Lib.hid hn; clear hn
  cases A with
  | none =>
    obtain ⟨rfl, rfl⟩ := Hn.out rfl
    have hnil := fun w => Lib.run_eql_slice_nil (P := Try.prog) w 26 44 none 0 0 0 0 Try.underlying26
    have e0 : xs = [] := List.eq_nil_of_length_eq_zero Hl.out
    go_enter Try.func32, Try.ntmps32
    go_wp2_with fail
    go_ret
    subst e0
    exact ⟨_, rfl, nil_own _ _, Chg.refl _ _⟩
  | some ad =>
    have hnil := fun w => Lib.run_eql_slice_nil (P := Try.prog) w 26 44 (some ad) n c 0 0 Try.underlying26
    go_enter Try.func32, Try.ntmps32
    go_wp2_with (at_builtin; refine wpList_copy_items rfl (.tmp 5) (.tmp 6) rfl w.heap.size w.heap.size rfl (Has.new _ _ _) (Nat.le_refl _) (some ad) n c xs F rfl (HA.out.new ((Chg.refl _ _).alloc _) HF.out) Hl.out (fun h => by cases h) hb ?_; intro A' c' w' hO hC; have HO := Lib.hid hO; clear hO; have HC := Lib.hid hC; clear hC)
    go_ret
    exact ⟨_, rfl, HO.out, New.set ((Chg.refl _ _).alloc _) HC.out (Nat.le_refl _)⟩
end Go.Proofs.Ytficopkjpdfilaa
