import Derived.Test.YtkhlalcghdfamaaGetD
import Derived.Test.YtkhlalcghdfamaaPutC
namespace Go.Proofs.Ytkhlalcghdfamaa
open Go.RowKit
set_option maxRecDepth 100000 in
set_option maxHeartbeats 2000000 in
theorem Get_any (bs : List Nat) (n : Nat) (A : Option Addr) (c : Nat) (w : World) (F : Nat → Prop) (hB : Byts w F (.slice A n c) bs) (hnc : n ≤ c) (hcm : c ≤ maxLen) (hF : ∀ k, F k → k < w.heap.size) :
    Calls Try.prog 15 #[.slice A n c] w fun e w' => AnsR w (decd 4 0 bs) e w' ∧ New w w' := by
  have HC : Hid (Calls Try.prog 30 #[.slice A n c, .int .i64 4] w fun e w' => AnsR w (decd 4 0 bs) e w' ∧ New w w') := list_any (bs.length + 1) bs (Nat.lt_succ_self _) n A c 4 w F hB hnc hcm (by decide) hF
  clear hB hF
  go_enter Try.func15, Try.ntmps15
  go_wp2_with fail
  with_reducible refine HC.out.mono ?_
  rintro e w1 ⟨hE, hN⟩
  have HN := Lib.hid hN; clear hN
  cases hd : decd 4 0 bs with
  | err z =>
    rw [hd] at hE
    simp only [AnsR] at hE
    subst hE
    have Hd := Lib.hid hd; clear hd
    go_wp2_with fail
    go_ret2
    refine ⟨?_, HN.out⟩
    rw [Hd.out]; rfl
  | ok T =>
    rw [hd] at hE
    obtain ⟨A2, c2, rfl, hO, hl⟩ := hE
    have Hd := Lib.hid hd; clear hd
    have HO := Lib.hid hO; clear hO
    obtain ⟨p, hp⟩ : ∃ p, p = T.len := ⟨_, rfl⟩
    have Hp := Lib.hid hp
    rw [← hp] at hl ⊢
    clear hp
    go_wp2_with fail
    go_ret2
    refine ⟨?_, HN.out⟩
    rw [Hd.out]
    exact ⟨A2, c2, by rw [← Hp.out]; rfl, HO.out, by rw [← Hp.out]; exact hl⟩
/-- the document's example -/
def exT : Tr := .cons 1 [5] .nil (.cons 225 [] (.cons 2 [] .nil .nil) .nil)
theorem exT_put : exT.put = .ok [1, 1, 5, 225, 2, 2, 0] := by rfl
theorem exT_get : decd 4 0 [1, 1, 5, 225, 2, 2, 0] = .ok exT := by rfl
theorem three_has {w : World} {F : Nat → Prop} {g i : Nat} {cs : Array Value} {t : Int} {vb vs : Value} (h : Has w g 41 cs) (hF : F g) (h0 : cs[i * 3]? = some (.int .i64 t)) (h1 : cs[i * 3 + 1]? = some vb) (h2 : cs[i * 3 + 2]? = some vs) : Three w F (some ⟨g, 0, none⟩) i t vb vs := by
  have hadd : (⟨g, 0, none⟩ : Addr).add (i * 3) = ⟨g, i * 3, none⟩ := by unfold Addr.add; split <;> simp_all
  exact ⟨_, rfl, hF, by rw [hadd, h.cell, h0], by rw [hadd]; exact (h.cell _).trans h1, by rw [hadd]; exact (h.cell _).trans h2⟩
theorem exT_lay {w : World} {g g1 g2 : Nat} (h0 : Has w g 5 #[.int .u8 5]) (h1 : Has w g1 41 #[.int .i64 2, .slice none 0 0, .slice none 0 0]) (h2 : Has w g2 41 #[.int .i64 1, .slice (some ⟨g, 0, none⟩) 1 1, .slice none 0 0, .int .i64 225, .slice none 0 0, .slice (some ⟨g1, 0, none⟩) 1 1]) :
    Lay w (· < w.heap.size) (some ⟨g2, 0, none⟩) 0 exT := by
  have hnb : Byts w (· < w.heap.size) (.slice none 0 0) [] := ⟨none, 0, rfl, fun i hi => by simp at hi, fun _ => ⟨rfl, rfl⟩, by simp, by simp⟩
  refine ⟨⟨_, none, 0, three_has h2 h2.lt rfl rfl rfl, ?_, fun _ => ⟨rfl, rfl⟩, by decide, by decide, trivial⟩, ⟨_, some ⟨g1, 0, none⟩, 1, three_has h2 h2.lt rfl rfl rfl, hnb, (fun h => by cases h), by decide, by decide, ⟨⟨_, none, 0, three_has h1 h1.lt rfl rfl rfl, hnb, fun _ => ⟨rfl, rfl⟩, by decide, by decide, trivial⟩, trivial⟩⟩, trivial⟩
  exact Byts.of_mark (bs := [5]) (t := 5) (fr := (0, 0)) h0 (by decide) (by decide) |>.mono fun k hk => by rw [hk]; exact h0.lt
set_option maxRecDepth 100000 in
set_option maxHeartbeats 4000000 in
theorem awake_any (w : World) : Calls Try.prog 10 #[] w fun e w' => e = .returned (.bool true) ∧ New w w' := by
  have HP : Hid (∀ wy, Has wy w.heap.size 5 #[.int .u8 5] → Has wy (w.heap.size + 1) 41 #[.int .i64 2, .slice none 0 0, .slice none 0 0] → Has wy (w.heap.size + 2) 41 #[.int .i64 1, .slice (some ⟨w.heap.size, 0, none⟩) 1 1, .slice none 0 0, .int .i64 225, .slice none 0 0, .slice (some ⟨w.heap.size + 1, 0, none⟩) 1 1] → New w wy →
      Calls Try.prog 12 #[.slice (some ⟨w.heap.size + 2, 0, none⟩) 2 2] wy fun e w' => (∃ A c, e = .returned (.tuple #[.slice A 7 c, .int .i64 0]) ∧ w'.ownsRow wy.heap.size 5 1 (.slice A 7 c) 7 ([1, 1, 5, 225, 2, 2, 0].map bV)) ∧ New wy w' ∧ New w w') := fun wy h0 h1 h2 hN =>
    (Put_any exT 2 _ 2 wy _ rfl (exT_lay h0 h1 h2) (fun _ h => h) (by decide)).mono (by
      rintro e w' ⟨hE, hN2⟩
      rw [exT_put] at hE
      obtain ⟨A, c, he, hO, _, _⟩ := hE
      exact ⟨⟨A, c, he, hO⟩, hN2, hN.then_new hN2⟩)
  go_enter Try.func10, Try.ntmps10
  go_wp2_with fail
  with_reducible refine (HP.out _ ?_ ?_ ?_ ?_).mono ?_
  · with_reducible repeat (first | exact Has.new_at _ _ _ _ (by simp; done) | refine Has.drew ?_ | refine Has.alloc ?_ _)
  · with_reducible repeat (first | exact Has.new_at _ _ _ _ (by simp; done) | refine Has.drew ?_ | refine Has.alloc ?_ _)
  · with_reducible repeat (first | exact Has.new_at _ _ _ _ (by simp; done) | refine Has.drew ?_ | refine Has.alloc ?_ _)
  · with_reducible repeat (first | exact Chg.refl _ _ | refine Chg.alloc ?_ _ | refine Chg.drew ?_)
  rintro e w1 ⟨⟨A1, c1, rfl, hO1⟩, _, hN1⟩
  have hcap := own_cap hO1
  have hmx : c1 ≤ maxLen := by
    rcases hO1.2 with ⟨hv, hn⟩ | ⟨g', cap, cur, hv, _, _, hnc, hcm, _⟩
    · cases hn
    · simp only [Value.slice.injEq] at hv
      obtain ⟨_, _, rfl⟩ := hv
      exact hcm
  have HB1 := Lib.hid (Byts.own_any hO1 (Chg.refl _ _) (by decide) (by decide))
  have hcv : ∀ wy, New w1 wy → (convert 25 9 (.slice A1 7 c1)).run Try.prog wy = .ok (.string (bstr [1, 1, 5, 225, 2, 2, 0])) wy := fun wy h => own_string Try.underlying25 Try.underlying5 Try.underlying9 (own_new hO1 h)
  have HCv := Lib.hid hcv; clear hcv
  have HN1 := Lib.hid hN1; clear hN1
  clear hO1
  go_wp2_with fail
  with_reducible refine (Get_any _ 7 A1 c1 w1 _ HB1.out hcap hmx (fun _ h => h)).mono ?_
  rintro e w2 ⟨hE, hN2⟩
  rw [exT_get] at hE
  obtain ⟨A2, c2, rfl, hO2, _⟩ := hE
  have hconv := HCv.out w2 hN2
  have HN2 := Lib.hid (HN1.out.then_new hN2); clear hN2
  obtain ⟨xs, hR, vb, vs, ys, rfl, _, _, _, _, _, _, vb2, vs2, ys2, rfl, _, _, _, _, _, ⟨zs, hz, _⟩, _⟩ := hO2
  obtain ⟨B, cb, rfl, _⟩ := own_form hz.1
  have hc5 : ∃ g, A2 = some ⟨g, 0, none⟩ ∧ w2.cell? ⟨g, 5, none⟩ = some (.slice B 1 cb) := by
    rcases hR.1.2 with ⟨hv, hn⟩ | ⟨g, cap, cur, hv, _⟩
    · cases hn
    · simp only [Value.slice.injEq] at hv
      obtain ⟨rfl, _, rfl⟩ := hv
      exact ⟨g, rfl, hR.1.cells (g := g) rfl 5 _ rfl⟩
  obtain ⟨g, rfl, hcell⟩ := hc5
  rw [show exT.len = 2 from rfl]
  clear hR hz
  have hbl : (bstr [1, 1, 5, 225, 2, 2, 0]).toList = [1, 1, 5, 225, 2, 2, 0] := by rw [bstr_list]; rfl
  go_wp2_with fail
  go_ret
  exact ⟨rfl, HN2.out⟩
end Go.Proofs.Ytkhlalcghdfamaa
