/-
  Package ipe's Parse: what its closure tells of a tag; the product of what a function tells.
-/
import Derived.Test.YtkcokcanakljnaaIqF
import Derived.Test.YtkcokcanakljnaaIpP
namespace Go.Proofs.Ytkcokcanakljnaa
open Go.RowKit
set_option maxRecDepth 100000 in
set_option maxHeartbeats 4000000 in
theorem parse1_any (T : Tr) (tag t0 : Int) (n c g : Nat) (A : Option Addr) (vb : Value) (w : World) (F : Nat → Prop) (hn : T.len = n) (hL : Lay w F A 0 T) (hF : ∀ k, F k → k < w.heap.size) (hs : n * 56 ≤ 140737488351232) (hg : Has w g 95 #[.int .i64 t0, vb, .slice A n c]) :
    Calls Try.prog 47 #[.int .i64 tag, .pointer (some ⟨g, 0, none⟩)] w fun e w' => e = .returned (.int .i64 (fld tag T : Int)) ∧ New w w' := by
  have HFi := Lib.hid (Find_any T tag n A c w F hn hL hF hs)
  have hc := (hg.cell 2).trans rfl
  have hlt := hg.lt
  have Hb : Hid (∀ (T0 : Tr) (bs : List Nat) (s r : Tr), T = T0.app (.cons tag bs s r) → (∀ x ∈ bs, x < 256) ∧ bs.length ≤ 140737488355328) := fun T0 bs s r hT => by
    rw [hT] at hL
    have hLk := hL.from
    obtain ⟨⟨vb, B2, cb2, h3, hb, _⟩, _⟩ := hLk
    obtain ⟨A', c', rfl, _, _, h256, hl⟩ := hb
    exact ⟨h256, hl⟩
  clear hg hL hF hs
  go_enter Try.func47, Try.ntmps47
  go_wp2_with fail
  with_reducible refine HFi.out.mono ?_
  rintro e w1 ⟨hR, hN⟩
  have HN := Lib.hid hN; clear hN
  obtain ⟨A1, k1, c1, A2, k2, c2, t1, bb, rfl, hby, hfl⟩ : ∃ A1 k1 c1 A2 k2 c2 t1 bb, e = .returned (.tuple #[.agg #[.int .i64 t1, .slice A1 k1 c1, .slice A2 k2 c2], .bool bb]) ∧ (∃ G, Byts w1 G (.slice A1 k1 c1) (fldB tag T) ∧ ∀ k, G k → k < w1.heap.size) ∧ True := by
    rcases hR with ⟨h1, h2⟩ | ⟨T0, bs, s, r, h1, h2, A1, c1, A2, c2, h3, h4, _⟩
    · refine ⟨none, 0, 0, none, 0, 0, 0, false, h2, ⟨fun _ => False, ?_, fun k hk => hk.elim⟩, trivial⟩
      rw [(fld_none h1).1]
      exact ⟨none, 0, rfl, fun i hi => by simp at hi, fun _ => ⟨rfl, rfl⟩, by simp, by simp⟩
    · refine ⟨A1, bs.length, c1, A2, s.len, c2, tag, true, h3, ⟨fun k => Btw w w1 k ∧ k < w1.heap.size, ?_, fun k hk => hk.2⟩, trivial⟩
      have e1 : fldB tag T = bs := by rw [h1]; exact (fld_some (k := 0) (by rw [← h1, h2, Nat.zero_add])).1
      rw [e1]
      obtain ⟨u1, u2⟩ := Hb.out T0 bs s r h1
      exact OwnR.byts rfl h4 u1 u2
  obtain ⟨G, hBy, hG⟩ := hby
  have HI : Hid (∀ wx, New w1 wx → Calls Try.prog 48 #[.slice A1 k1 c1] wx fun e w' => e = .returned (.tuple #[.int .i64 (intV (fldB tag T)).1, .int .i64 (intV (fldB tag T)).2]) ∧ w' = wx) := fun wx hx => Int_any _ k1 c1 A1 wx G (hBy.new hx hG)
  clear hR hfl hBy hG Hb HFi hc hlt
  go_wp2_with fail
  with_reducible refine (HI.out _ ((Chg.refl _ _).alloc _)).mono ?_
  rintro e w2 ⟨rfl, rfl⟩
  go_wp2_with fail
  go_ret
  exact ⟨rfl, HN.out.alloc _⟩
/-- what a function of tags tells -/
def Tells (w : World) (g : Nat) (f : Int → Int) : Prop := ∀ (t : Int) (wx : World), New w wx → Calls Try.prog 47 #[.int .i64 t, .pointer (some ⟨g, 0, none⟩)] wx fun e w' => e = .returned (.int .i64 (f t)) ∧ New wx w'
set_option maxRecDepth 100000 in
set_option maxHeartbeats 4000000 in
theorem productOf_any (f : Int → Int) (g : Nat) (w : World) (hT : Tells w g f) :
    Calls Try.prog 46 #[.func (.func 47) #[] #[.pointer (some ⟨g, 0, none⟩)]] w fun e w' => e = .returned (Pd.tell f).V ∧ New w w' := by
  have H1 := Lib.hid (hT 1)
  have H2 := Lib.hid (hT 2)
  have H3 := Lib.hid (hT 3)
  have H4 := Lib.hid (hT 4)
  have H5 := Lib.hid (hT 5)
  have H6 := Lib.hid (hT 6)
  have H7 := Lib.hid (hT 7)
  have H8 := Lib.hid (hT 8)
  have H9 := Lib.hid (hT 9)
  have H10 := Lib.hid (hT 10)
  have H11 := Lib.hid (hT 11)
  have H12 := Lib.hid (hT 12)
  have H13 := Lib.hid (hT 13)
  have H14 := Lib.hid (hT 14)
  clear hT
  simp only [Pd.tell]
  generalize f 1 = v1 at H1 ⊢
  generalize f 2 = v2 at H2 ⊢
  generalize f 3 = v3 at H3 ⊢
  generalize f 4 = v4 at H4 ⊢
  generalize f 5 = v5 at H5 ⊢
  generalize f 6 = v6 at H6 ⊢
  generalize f 7 = v7 at H7 ⊢
  generalize f 8 = v8 at H8 ⊢
  generalize f 9 = v9 at H9 ⊢
  generalize f 10 = v10 at H10 ⊢
  generalize f 11 = v11 at H11 ⊢
  generalize f 12 = v12 at H12 ⊢
  generalize f 13 = v13 at H13 ⊢
  generalize f 14 = v14 at H14 ⊢
  go_enter Try.func46, Try.ntmps46
  go_upto_region 1 with (fail)
  obtain ⟨w0, hw0⟩ : ∃ w0, w0 = w.alloc (.cells #[.int .i64 0, .int .i64 0, .int .i64 0, .int .i64 0, .int .i64 0, .int .i64 0, .int .i64 0, .int .i64 0, .bool false, .int .i64 0, .int .i64 0, .int .i64 0, .int .i64 0, .bool false] 24) := ⟨_, rfl⟩
  obtain ⟨rb, hrb⟩ : ∃ rb, rb = w.heap.size := ⟨_, rfl⟩
  have HB : Hid (Has w0 rb 24 #[.int .i64 0, .int .i64 0, .int .i64 0, .int .i64 0, .int .i64 0, .int .i64 0, .int .i64 0, .int .i64 0, .bool false, .int .i64 0, .int .i64 0, .int .i64 0, .int .i64 0, .bool false]) := by rw [hw0, hrb]; exact Has.new _ _ _
  have HN0 : Hid (New w w0) := by rw [hw0]; exact (Chg.refl _ _).alloc _
  rw [← hw0, ← hrb]
  have Hrb := Lib.hid hrb
  clear hw0 hrb
  go_wp2_with fail
  with_reducible refine (H1.out _ HN0.out).mono ?_
  rintro e w1 ⟨rfl, hN⟩
  have HN1 := Lib.hid (HN0.out.then_new hN)
  have HB := Lib.hid (HB.out.keep hN)
  clear hN
  go_wp2_with fail
  with_reducible refine (H2.out _ HN1.out).mono ?_
  rintro e w2 ⟨rfl, hN⟩
  have HN2 := Lib.hid (HN1.out.then_new hN)
  have HB := Lib.hid (HB.out.keep hN)
  clear hN
  go_wp2_with fail
  with_reducible refine (H3.out _ HN2.out).mono ?_
  rintro e w3 ⟨rfl, hN⟩
  have HN3 := Lib.hid (HN2.out.then_new hN)
  have HB := Lib.hid (HB.out.keep hN)
  clear hN
  go_wp2_with fail
  with_reducible refine (H4.out _ HN3.out).mono ?_
  rintro e w4 ⟨rfl, hN⟩
  have HN4 := Lib.hid (HN3.out.then_new hN)
  have HB := Lib.hid (HB.out.keep hN)
  clear hN
  go_wp2_with fail
  with_reducible refine (H5.out _ HN4.out).mono ?_
  rintro e w5 ⟨rfl, hN⟩
  have HN5 := Lib.hid (HN4.out.then_new hN)
  have HB := Lib.hid (HB.out.keep hN)
  clear hN
  go_wp2_with fail
  with_reducible refine (H6.out _ HN5.out).mono ?_
  rintro e w6 ⟨rfl, hN⟩
  have HN6 := Lib.hid (HN5.out.then_new hN)
  have HB := Lib.hid (HB.out.keep hN)
  clear hN
  go_wp2_with fail
  with_reducible refine (H7.out _ HN6.out).mono ?_
  rintro e w7 ⟨rfl, hN⟩
  have HN7 := Lib.hid (HN6.out.then_new hN)
  have HB := Lib.hid (HB.out.keep hN)
  clear hN
  go_wp2_with fail
  with_reducible refine (H8.out _ HN7.out).mono ?_
  rintro e w8 ⟨rfl, hN⟩
  have HN8 := Lib.hid (HN7.out.then_new hN)
  have HB := Lib.hid (HB.out.keep hN)
  clear hN
  go_wp2_with fail
  with_reducible refine (H9.out _ HN8.out).mono ?_
  rintro e w9 ⟨rfl, hN⟩
  have HN9 := Lib.hid (HN8.out.then_new hN)
  have HB := Lib.hid (HB.out.keep hN)
  clear hN
  go_wp2_with fail
  with_reducible refine (H10.out _ HN9.out).mono ?_
  rintro e w10 ⟨rfl, hN⟩
  have HN10 := Lib.hid (HN9.out.then_new hN)
  have HB := Lib.hid (HB.out.keep hN)
  clear hN
  go_wp2_with fail
  with_reducible refine (H11.out _ HN10.out).mono ?_
  rintro e w11 ⟨rfl, hN⟩
  have HN11 := Lib.hid (HN10.out.then_new hN)
  have HB := Lib.hid (HB.out.keep hN)
  clear hN
  go_wp2_with fail
  with_reducible refine (H12.out _ HN11.out).mono ?_
  rintro e w12 ⟨rfl, hN⟩
  have HN12 := Lib.hid (HN11.out.then_new hN)
  have HB := Lib.hid (HB.out.keep hN)
  clear hN
  go_wp2_with fail
  with_reducible refine (H13.out _ HN12.out).mono ?_
  rintro e w13 ⟨rfl, hN⟩
  have HN13 := Lib.hid (HN12.out.then_new hN)
  have HB := Lib.hid (HB.out.keep hN)
  clear hN
  go_wp2_with fail
  with_reducible refine (H14.out _ HN13.out).mono ?_
  rintro e w14 ⟨rfl, hN⟩
  have HN14 := Lib.hid (HN13.out.then_new hN)
  have HB := Lib.hid (HB.out.keep hN)
  clear hN
  have HP : Hid (pcells ⟨v1, v2, v3, v4, v5, v6, v7, v8, v9 != 0, v10, v11, v12, v13, v14 != 0⟩ = #[.int .i64 v1, .int .i64 v2, .int .i64 v3, .int .i64 v4, .int .i64 v5, .int .i64 v6, .int .i64 v7, .int .i64 v8, .bool (v9 != 0), .int .i64 v10, .int .i64 v11, .int .i64 v12, .int .i64 v13, .bool (v14 != 0)]) := rfl
  go_wp2_with (first
    | (refine wpList_store_pd rfl (.tmp 2) (.tmp 33) rfl rb ⟨v1, v2, v3, v4, v5, v6, v7, v8, v9 != 0, v10, v11, v12, v13, v14 != 0⟩ _ rfl rfl HB.out rfl ?_
       intro wX hX hCX
       rw [HP.out] at hX
       have HX := Lib.hid hX
       have HNX := Lib.hid (HN14.out.trans hCX (fun i hi h => by rw [h, Hrb.out] at hi; omega))
       clear hX hCX)
    | fail)
  have g0 : wX.cell? ⟨rb, 0, none⟩ = some (.int .i64 v1) := (HX.out.cell 0).trans rfl
  have g1 : wX.cell? ⟨rb, 1, none⟩ = some (.int .i64 v2) := (HX.out.cell 1).trans rfl
  have g2 : wX.cell? ⟨rb, 2, none⟩ = some (.int .i64 v3) := (HX.out.cell 2).trans rfl
  have g3 : wX.cell? ⟨rb, 3, none⟩ = some (.int .i64 v4) := (HX.out.cell 3).trans rfl
  have g4 : wX.cell? ⟨rb, 4, none⟩ = some (.int .i64 v5) := (HX.out.cell 4).trans rfl
  have g5 : wX.cell? ⟨rb, 5, none⟩ = some (.int .i64 v6) := (HX.out.cell 5).trans rfl
  have g6 : wX.cell? ⟨rb, 6, none⟩ = some (.int .i64 v7) := (HX.out.cell 6).trans rfl
  have g7 : wX.cell? ⟨rb, 7, none⟩ = some (.int .i64 v8) := (HX.out.cell 7).trans rfl
  have g8 : wX.cell? ⟨rb, 8, none⟩ = some (.bool (v9 != 0)) := (HX.out.cell 8).trans rfl
  have g9 : wX.cell? ⟨rb, 9, none⟩ = some (.int .i64 v10) := (HX.out.cell 9).trans rfl
  have g10 : wX.cell? ⟨rb, 10, none⟩ = some (.int .i64 v11) := (HX.out.cell 10).trans rfl
  have g11 : wX.cell? ⟨rb, 11, none⟩ = some (.int .i64 v12) := (HX.out.cell 11).trans rfl
  have g12 : wX.cell? ⟨rb, 12, none⟩ = some (.int .i64 v13) := (HX.out.cell 12).trans rfl
  have g13 : wX.cell? ⟨rb, 13, none⟩ = some (.bool (v14 != 0)) := (HX.out.cell 13).trans rfl
  refine bodyPost_ret (v := .agg #[.int .i64 v1, .int .i64 v2, .int .i64 v3, .int .i64 v4, .int .i64 v5, .int .i64 v6, .int .i64 v7, .int .i64 v8, .bool (v9 != 0), .int .i64 v10, .int .i64 v11, .int .i64 v12, .int .i64 v13, .bool (v14 != 0)]) (by simp [results, Try.results46, go_sem, g0, g1, g2, g3, g4, g5, g6, g7, g8, g9, g10, g11, g12, g13]) rfl ?_
  exact ⟨rfl, HNX.out⟩
end Go.Proofs.Ytkcokcanakljnaa
