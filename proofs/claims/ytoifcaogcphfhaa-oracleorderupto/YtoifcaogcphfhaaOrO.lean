/-
  An oracle in memory; package oracle's seal, number and Len.
-/
import Derived.Test.YtoifcaogcphfhaaOrJ
namespace Go.Proofs.Ytoifcaogcphfhaa
open Go.ChangeShapes Go.WideShapes Go.ChangeAt Go.RowKit Go.Maps
def slRow (L : List Sl) : List Value := L.flatMap slC
theorem slRow_len (L : List Sl) : (slRow L).length = L.length * 5 := by
  induction L with
  | nil => rfl
  | cons e l ih => rw [slRow, List.flatMap_cons, List.length_append]; rw [slRow] at ih; rw [ih, List.length_cons]; simp [slC]; omega
theorem slRow_push (L : List Sl) (x : Sl) : slRow (L ++ [x]) = slRow L ++ slC x := by simp [slRow]
/-- block g is an oracle that has given out these, in this order; its memory lies at and behind base -/
def Orc (w : World) (base g : Nat) (L : List Sl) : Prop := ∃ mv sv, Has w g 28 #[mv, sv] ∧ base ≤ g ∧ w.ownsRow base 53 5 sv L.length (slRow L) ∧
  ((mv = .map none ∧ L = []) ∨ ∃ b, mv = .map (some b) ∧ base ≤ b ∧ Mp w b L) ∧ (∀ y ∈ L, SlOk y) ∧ L.Nodup
/-- the blocks of a kind that oracles are made of -/
def OS (base : Nat) (w : World) (k : Nat) : Prop := base ≤ k ∧ ((∃ es c, w.heap[k]? = some (.map es c)) ∨ (∃ cs m, w.heap[k]? = some (.cells cs 28 m)) ∨ ∃ cs m, w.heap[k]? = some (.cells cs 53 m))
theorem OS.trans {base : Nat} {w w1 w2 : World} (h : Chg (OS base w) w w1) (k : Chg (OS base w1) w1 w2) : Chg (OS base w) w w2 := by
  refine h.trans k fun i hi hT => ?_
  by_cases hS : OS base w i
  · exact hS
  · have hb := h.block i hi hS
    obtain ⟨h1, h2⟩ := hT
    rw [hb] at h2
    exact ⟨h1, h2⟩
theorem Orc.new {w w' : World} {base g : Nat} {L : List Sl} (h : Orc w base g L) (c : New w w') : Orc w' base g L := by
  obtain ⟨mv, sv, h1, h2, h3, h4, h5, h6⟩ := h
  refine ⟨mv, sv, h1.keep c, h2, own_new h3 c, ?_, h5, h6⟩
  rcases h4 with h4 | ⟨b, e, hb, h4⟩
  · exact Or.inl h4
  · exact Or.inr ⟨b, e, hb, h4.chg c fun f => f⟩
theorem Orc.lt {w : World} {base g : Nat} {L : List Sl} (h : Orc w base g L) : g < w.heap.size := by
  obtain ⟨mv, sv, h1, _⟩ := h
  exact h1.lt
theorem Byts.string {w : World} {F : Nat → Prop} {v : Value} {bs : List Nat} (h : Byts w F v bs) : (convert 37 9 v).run Try.prog w = .ok (.string (bstr bs)) w := by
  obtain ⟨A, c, rfl, hA, hnil, h256, _⟩ := h
  exact arr_string Try.underlying37 Try.underlying5 Try.underlying9 hA rfl h256 hnil
theorem setS {w : World} {g t : Nat} {y0 y1 y2 y3 y4 : Value} (h : Has w g t #[y0, y1, y2, y3, y4]) (x0 x1 x2 x3 x4 : Value) :
    Has (((((w.setCell ⟨g, 0, none⟩ x0).setCell ⟨g, 1, none⟩ x1).setCell ⟨g, 2, none⟩ x2).setCell ⟨g, 3, none⟩ x3).setCell ⟨g, 4, none⟩ x4) g t #[x0, x1, x2, x3, x4] ∧
      Chg (· = g) w (((((w.setCell ⟨g, 0, none⟩ x0).setCell ⟨g, 1, none⟩ x1).setCell ⟨g, 2, none⟩ x2).setCell ⟨g, 3, none⟩ x3).setCell ⟨g, 4, none⟩ x4) := by
  refine ⟨?_, ?_⟩
  · have := ((((h.set 0 x0).set 1 x1).set 2 x2).set 3 x3).set 4 x4
    simpa using this
  · exact Chg.setCell (S := (· = g)) (Chg.setCell (S := (· = g)) (Chg.setCell (S := (· = g)) (Chg.setCell (S := (· = g)) (Chg.setCell (S := (· = g)) (Chg.refl _ _) (fun _ => rfl) _) (fun _ => rfl) _) (fun _ => rfl) _) (fun _ => rfl) _) (fun _ => rfl) _
set_option maxRecDepth 100000 in
set_option maxHeartbeats 2000000 in
theorem seal_any (k0 k1 k2 k3 : Int) (A : Option Addr) (n c : Nat) (F : Nat → Prop) (L : List (List Nat)) (w : World) (hA : Lists w F A L) (hF : ∀ k, F k → k < w.heap.size) (hn : L.length = n) (hnc : n ≤ c) (hb : n ≤ 2000000) (hT : L.flatten.length ≤ 140737488355328) :
    Calls Try.prog 13 #[.agg #[.int .i64 k0, .int .i64 k1, .int .i64 k2, .int .i64 k3], .slice A n c] w fun e w' => e = .returned (slV ⟨k0, k1, k2, k3, bstr L.flatten⟩) ∧ New w w' := by
  have HJ : Hid (∀ wx, New w wx → Calls Try.prog 17 #[.slice A n c, .slice none 0 0] wx fun e w' => ∃ v, e = .returned v ∧ Byts w' (· < w'.heap.size) v L.flatten ∧ New wx w') := fun wx hx => by
    obtain ⟨vs, hV, hB⟩ := hA
    exact Join_any A n c F L wx ⟨vs, hV.new hx hF, fun i hi => (hB i hi).new hx hF⟩ (fun k hk => Nat.lt_of_lt_of_le (hF k hk) hx.size) hn hnc hb hT
  clear hA hF hn hnc hb hT
  go_enter Try.func13, Try.ntmps13
  go_upto_region 1 with (fail)
  have hN2 : New w ((w.alloc (.cells #[.int .i64 k0, .int .i64 k1, .int .i64 k2, .int .i64 k3] 32)).alloc (.cells #[.int .i64 0, .int .i64 0, .int .i64 0, .int .i64 0, .string ⟨#[]⟩] 53)) := ((Chg.refl _ _).alloc _).alloc _
  have hK2 := (Has.new w 32 #[.int .i64 k0, .int .i64 k1, .int .i64 k2, .int .i64 k3]).alloc (.cells #[.int .i64 0, .int .i64 0, .int .i64 0, .int .i64 0, .string ⟨#[]⟩] 53)
  have hR2 := Has.new_at (w.alloc (.cells #[.int .i64 k0, .int .i64 k1, .int .i64 k2, .int .i64 k3] 32)) 53 #[.int .i64 0, .int .i64 0, .int .i64 0, .int .i64 0, .string ⟨#[]⟩] (w.heap.size + 1) (by simp)
  obtain ⟨w2, hw2⟩ : ∃ w2, w2 = (w.alloc (.cells #[.int .i64 k0, .int .i64 k1, .int .i64 k2, .int .i64 k3] 32)).alloc (.cells #[.int .i64 0, .int .i64 0, .int .i64 0, .int .i64 0, .string ⟨#[]⟩] 53) := ⟨_, rfl⟩
  rw [← hw2] at hN2 hK2 hR2 ⊢
  clear hw2
  obtain ⟨kb, hkb⟩ : ∃ kb, kb = w.heap.size := ⟨_, rfl⟩
  rw [← hkb] at hK2 hR2 ⊢
  obtain ⟨rb, hrb⟩ : ∃ rb, rb = kb + 1 := ⟨_, rfl⟩
  rw [← hrb] at hR2 ⊢
  have HN2 := Lib.hid hN2; clear hN2
  have HR2 := Lib.hid hR2; clear hR2
  have Hkb := Lib.hid hkb; clear hkb
  have Hrb := Lib.hid hrb; clear hrb
  have HK : Hid (∀ wx, Chg (fun k => kb < k) w2 wx → wx.cell? ⟨kb, 0, none⟩ = some (.int .i64 k0) ∧ wx.cell? ⟨kb, 1, none⟩ = some (.int .i64 k1) ∧ wx.cell? ⟨kb, 2, none⟩ = some (.int .i64 k2) ∧ wx.cell? ⟨kb, 3, none⟩ = some (.int .i64 k3)) := fun wx hx =>
    have h := hK2.chg hx (Nat.lt_irrefl _)
    ⟨(h.cell 0).trans rfl, (h.cell 1).trans rfl, (h.cell 2).trans rfl, (h.cell 3).trans rfl⟩
  clear hK2
  obtain ⟨u0, u1, u2, u3⟩ := HK.out _ (Chg.refl _ w2)
  go_region_law
    (go_simp; go_at_call 17; (with_reducible refine (HJ.out _ (HN2.out.then_new (by with_reducible repeat (first | exact Chg.refl _ _ | refine Chg.drew ?_ | refine Chg.alloc ?_ _)))).mono ?_); rintro e w3 ⟨v3, rfl, hB3, hN3⟩
     have hM3 : New w2 w3 := Chg.new_then (by with_reducible repeat (first | exact Chg.refl _ _ | refine Chg.drew ?_ | refine Chg.alloc ?_ _)) hN3
     have hs3 := hB3.string
     have hR3 := HR2.out.keep hM3
     have zf0 := hR3.free 0
     have zf1 := hR3.free 1
     have zf2 := hR3.free 2
     have zf3 := hR3.free 3
     have zf4 := hR3.free 4
     have zc0 := (hR3.cell 0).trans rfl
     have zc1 := (hR3.cell 1).trans rfl
     have zc2 := (hR3.cell 2).trans rfl
     have zc3 := (hR3.cell 3).trans rfl
     have zc4 := (hR3.cell 4).trans rfl
     have HR3 := Lib.hid hR3
     obtain ⟨y0, y1, y2, y3⟩ := HK.out _ (Chg.of_new hM3)
     have HM3 := Lib.hid hM3
     clear hB3 hN3 hM3 hR3)
  all_goals
    have hset := setS HR3.out (.int .i64 k0) (.int .i64 k1) (.int .i64 k2) (.int .i64 k3) (.string (bstr L.flatten))
    clear zf0 zf1 zf2 zf3 zf4 zc0 zc1 zc2 zc3 zc4
    revert hset
    generalize (((((w3.setCell ⟨rb, 0, none⟩ (.int .i64 k0)).setCell ⟨rb, 1, none⟩ (.int .i64 k1)).setCell ⟨rb, 2, none⟩ (.int .i64 k2)).setCell ⟨rb, 3, none⟩ (.int .i64 k3)).setCell ⟨rb, 4, none⟩ (.string (bstr L.flatten))) = w5
    rintro ⟨hH5, hC5⟩
    go_wp2_with fail
    refine bodyPost_ret (v := slV ⟨k0, k1, k2, k3, bstr L.flatten⟩) (by simp [results, Try.results13, go_sem, slV, (hH5.cell 0).trans rfl, (hH5.cell 1).trans rfl, (hH5.cell 2).trans rfl, (hH5.cell 3).trans rfl, (hH5.cell 4).trans rfl]) rfl ?_
    exact ⟨rfl, (HN2.out.then_new HM3.out).trans hC5 (fun i hi e => by rw [e, Hrb.out, Hkb.out] at hi; omega)⟩
set_option maxRecDepth 100000 in
theorem number_any (i : Nat) (w : World) (hi : i ≤ 1000000) : Calls Try.prog 15 #[.int .i64 (i : Int)] w fun e w' => e = .returned (.int .i64 ((i + 1 : Nat) : Int)) ∧ w' = w := by
  go_enter Try.func15, Try.ntmps15
  go_wp2_with fail
  go_ret
  exact ⟨by go_num, rfl⟩
set_option maxRecDepth 100000 in
theorem Len_any (base g : Nat) (L : List Sl) (w : World) (h : Orc w base g L) : Calls Try.prog 12 #[.pointer (some ⟨g, 0, none⟩)] w fun e w' => e = .returned (.int .i64 (L.length : Int)) ∧ w' = w := by
  obtain ⟨mv, sv, hH, _, hO, _⟩ := h
  obtain ⟨A, c, rfl, _⟩ := own_form hO
  have c1 := (hH.cell 1).trans rfl
  go_enter Try.func12, Try.ntmps12
  go_wp2_with fail
  go_ret
  exact ⟨rfl, rfl⟩
end Go.Proofs.Ytoifcaogcphfhaa
