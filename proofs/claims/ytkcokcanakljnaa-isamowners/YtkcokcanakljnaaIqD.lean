/-
  Package ipe's numbers of a product, each at its tag.
-/
import Derived.Test.YtkcokcanakljnaaIqA
import Derived.Deep.RegionHeldLaw
namespace Go.Proofs.Ytkcokcanakljnaa
open Go.RowKit
theorem Chg.setCells {S : Nat → Prop} {w : World} {b : Nat} (hb : b < w.heap.size → S b) : ∀ (vs : List Value) (o : Nat) {w' : World}, Chg S w w' → Chg S w (w'.setCells b o vs)
  | [], _, _, h => h
  | v :: r, o, _, h => Chg.setCells hb r (o + 1) (h.setCell hb v)
theorem bit_any (b : Bool) (w : World) : Calls Try.prog 70 #[.bool b] w fun e w' => e = .returned (.int .i64 (bi b)) ∧ w' = w := by
  cases b <;>
    (go_enter Try.func70, Try.ntmps70
     go_wp2_with fail
     go_ret
     exact ⟨rfl, rfl⟩)
/-- the fifteen numbers as one array -/
abbrev Pd.W (p : Pd) : Value := .agg #[.int .i64 0, .int .i64 p.x0, .int .i64 p.x1, .int .i64 p.x2, .int .i64 p.x3, .int .i64 p.x4, .int .i64 p.x5, .int .i64 p.x6, .int .i64 p.x7, .int .i64 (bi p.x8), .int .i64 p.x9, .int .i64 p.x10, .int .i64 p.x11, .int .i64 p.x12, .int .i64 (bi p.x13)]
set_option maxRecDepth 100000 in
set_option maxHeartbeats 4000000 in
theorem numbersOf_any (p : Pd) (w : World) : Calls Try.prog 34 #[p.V] w fun e w' => e = .returned p.W ∧ New w w' := by
  obtain ⟨x0, x1, x2, x3, x4, x5, x6, x7, x8, x9, x10, x11, x12, x13⟩ := p
  have HB8 := Lib.hid (fun w => bit_any x8 w)
  have HB13 := Lib.hid (fun w => bit_any x13 w)
  simp only [Pd.W]
  generalize bi x8 = b8 at HB8 ⊢
  generalize bi x13 = b13 at HB13 ⊢
  go_enter Try.func34, Try.ntmps34
  go_upto_region 1 with (fail)
  have HB : Hid (Has (w.alloc (.cells #[.int .i64 x0, .int .i64 x1, .int .i64 x2, .int .i64 x3, .int .i64 x4, .int .i64 x5, .int .i64 x6, .int .i64 x7, .bool x8, .int .i64 x9, .int .i64 x10, .int .i64 x11, .int .i64 x12, .bool x13] 24)) w.heap.size 24 #[.int .i64 x0, .int .i64 x1, .int .i64 x2, .int .i64 x3, .int .i64 x4, .int .i64 x5, .int .i64 x6, .int .i64 x7, .bool x8, .int .i64 x9, .int .i64 x10, .int .i64 x11, .int .i64 x12, .bool x13]) := Has.new _ _ _
  have HN : Hid (New w (w.alloc (.cells #[.int .i64 x0, .int .i64 x1, .int .i64 x2, .int .i64 x3, .int .i64 x4, .int .i64 x5, .int .i64 x6, .int .i64 x7, .bool x8, .int .i64 x9, .int .i64 x10, .int .i64 x11, .int .i64 x12, .bool x13] 24))) := (Chg.refl _ _).alloc _
  have HK : Hid (∀ wx, New (w.alloc (.cells #[.int .i64 x0, .int .i64 x1, .int .i64 x2, .int .i64 x3, .int .i64 x4, .int .i64 x5, .int .i64 x6, .int .i64 x7, .bool x8, .int .i64 x9, .int .i64 x10, .int .i64 x11, .int .i64 x12, .bool x13] 24)) wx → (wx.cell? ⟨w.heap.size, 0, none⟩ = some (.int .i64 x0) ∧ wx.cell? ⟨w.heap.size, 1, none⟩ = some (.int .i64 x1) ∧ wx.cell? ⟨w.heap.size, 2, none⟩ = some (.int .i64 x2) ∧ wx.cell? ⟨w.heap.size, 3, none⟩ = some (.int .i64 x3) ∧ wx.cell? ⟨w.heap.size, 4, none⟩ = some (.int .i64 x4) ∧ wx.cell? ⟨w.heap.size, 5, none⟩ = some (.int .i64 x5) ∧ wx.cell? ⟨w.heap.size, 6, none⟩ = some (.int .i64 x6) ∧ wx.cell? ⟨w.heap.size, 7, none⟩ = some (.int .i64 x7) ∧ wx.cell? ⟨w.heap.size, 8, none⟩ = some (.bool x8) ∧ wx.cell? ⟨w.heap.size, 9, none⟩ = some (.int .i64 x9) ∧ wx.cell? ⟨w.heap.size, 10, none⟩ = some (.int .i64 x10) ∧ wx.cell? ⟨w.heap.size, 11, none⟩ = some (.int .i64 x11) ∧ wx.cell? ⟨w.heap.size, 12, none⟩ = some (.int .i64 x12) ∧ wx.cell? ⟨w.heap.size, 13, none⟩ = some (.bool x13))) := fun wx h => ⟨((HB.out.keep h).cell 0).trans rfl, ((HB.out.keep h).cell 1).trans rfl, ((HB.out.keep h).cell 2).trans rfl, ((HB.out.keep h).cell 3).trans rfl, ((HB.out.keep h).cell 4).trans rfl, ((HB.out.keep h).cell 5).trans rfl, ((HB.out.keep h).cell 6).trans rfl, ((HB.out.keep h).cell 7).trans rfl, ((HB.out.keep h).cell 8).trans rfl, ((HB.out.keep h).cell 9).trans rfl, ((HB.out.keep h).cell 10).trans rfl, ((HB.out.keep h).cell 11).trans rfl, ((HB.out.keep h).cell 12).trans rfl, ((HB.out.keep h).cell 13).trans rfl⟩
  have h1c : ∀ (v : Value), v ∈ [.int .i64 0, .int .i64 x0, .int .i64 x1, .int .i64 x2, .int .i64 x3, .int .i64 x4, .int .i64 x5, .int .i64 x6, .int .i64 x7, .int .i64 b8, .int .i64 x9, .int .i64 x10, .int .i64 x11, .int .i64 x12, .int .i64 b13] → v.oneCell' = true := by
    intro v hv
    simp only [List.mem_cons, List.not_mem_nil, or_false] at hv
    rcases hv with rfl | rfl | rfl | rfl | rfl | rfl | rfl | rfl | rfl | rfl | rfl | rfl | rfl | rfl | rfl <;> rfl
  have H2 : Has (((w.alloc (.cells #[.int .i64 x0, .int .i64 x1, .int .i64 x2, .int .i64 x3, .int .i64 x4, .int .i64 x5, .int .i64 x6, .int .i64 x7, .bool x8, .int .i64 x9, .int .i64 x10, .int .i64 x11, .int .i64 x12, .bool x13] 24)).alloc (.cells #[.int .i64 0, .int .i64 0, .int .i64 0, .int .i64 0, .int .i64 0, .int .i64 0, .int .i64 0, .int .i64 0, .int .i64 0, .int .i64 0, .int .i64 0, .int .i64 0, .int .i64 0, .int .i64 0, .int .i64 0] 91)).drew) (w.heap.size + 1) 91 #[.int .i64 0, .int .i64 0, .int .i64 0, .int .i64 0, .int .i64 0, .int .i64 0, .int .i64 0, .int .i64 0, .int .i64 0, .int .i64 0, .int .i64 0, .int .i64 0, .int .i64 0, .int .i64 0, .int .i64 0] := (Has.new_at _ _ _ _ (by simp)).drew
  have hT : (((w.alloc (.cells #[.int .i64 x0, .int .i64 x1, .int .i64 x2, .int .i64 x3, .int .i64 x4, .int .i64 x5, .int .i64 x6, .int .i64 x7, .bool x8, .int .i64 x9, .int .i64 x10, .int .i64 x11, .int .i64 x12, .bool x13] 24)).alloc (.cells #[.int .i64 0, .int .i64 0, .int .i64 0, .int .i64 0, .int .i64 0, .int .i64 0, .int .i64 0, .int .i64 0, .int .i64 0, .int .i64 0, .int .i64 0, .int .i64 0, .int .i64 0, .int .i64 0, .int .i64 0] 91)).drew).there (w.heap.size + 1) 0 ([.int .i64 0, .int .i64 x0, .int .i64 x1, .int .i64 x2, .int .i64 x3, .int .i64 x4, .int .i64 x5, .int .i64 x6, .int .i64 x7, .int .i64 b8, .int .i64 x9, .int .i64 x10, .int .i64 x11, .int .i64 x12, .int .i64 b13] : List Value).length := fun j hj => by
    rw [Nat.zero_add]
    exact ⟨by rw [H2.cell, Array.getElem?_eq_getElem (show j < 15 from hj)]; rfl, H2.free j⟩
  have hI : Option.map (fun x => x.size) (Try.prog.info? 91) = some ([.int .i64 0, .int .i64 x0, .int .i64 x1, .int .i64 x2, .int .i64 x3, .int .i64 x4, .int .i64 x5, .int .i64 x6, .int .i64 x7, .int .i64 b8, .int .i64 x9, .int .i64 x10, .int .i64 x11, .int .i64 x12, .int .i64 b13] : List Value).length := by kernel_rfl
  have H2 := Lib.hid H2
  go_region_held_law (fun wx => wx.cell? ⟨w.heap.size, 0, none⟩ = some (.int .i64 x0) ∧ wx.cell? ⟨w.heap.size, 1, none⟩ = some (.int .i64 x1) ∧ wx.cell? ⟨w.heap.size, 2, none⟩ = some (.int .i64 x2) ∧ wx.cell? ⟨w.heap.size, 3, none⟩ = some (.int .i64 x3) ∧ wx.cell? ⟨w.heap.size, 4, none⟩ = some (.int .i64 x4) ∧ wx.cell? ⟨w.heap.size, 5, none⟩ = some (.int .i64 x5) ∧ wx.cell? ⟨w.heap.size, 6, none⟩ = some (.int .i64 x6) ∧ wx.cell? ⟨w.heap.size, 7, none⟩ = some (.int .i64 x7) ∧ wx.cell? ⟨w.heap.size, 8, none⟩ = some (.bool x8) ∧ wx.cell? ⟨w.heap.size, 9, none⟩ = some (.int .i64 x9) ∧ wx.cell? ⟨w.heap.size, 10, none⟩ = some (.int .i64 x10) ∧ wx.cell? ⟨w.heap.size, 11, none⟩ = some (.int .i64 x11) ∧ wx.cell? ⟨w.heap.size, 12, none⟩ = some (.int .i64 x12) ∧ wx.cell? ⟨w.heap.size, 13, none⟩ = some (.bool x13))
    (with_reducible refine HK.out _ ?_; with_reducible repeat (first | exact Chg.refl _ _ | refine Chg.drew ?_ | refine Chg.alloc ?_ _ | refine Chg.setCells (fun h => absurd h (by simp)) _ _ ?_))
    (first
      | (go_at_call 70; with_reducible refine (HB8.out _).mono ?_; rintro e w8 ⟨rfl, rfl⟩)
      | (go_at_call 70; with_reducible refine (HB13.out _).mono ?_; rintro e w13 ⟨rfl, rfl⟩))
  go_wp2_with fail
  have hR : ((((w.alloc (.cells #[.int .i64 x0, .int .i64 x1, .int .i64 x2, .int .i64 x3, .int .i64 x4, .int .i64 x5, .int .i64 x6, .int .i64 x7, .bool x8, .int .i64 x9, .int .i64 x10, .int .i64 x11, .int .i64 x12, .bool x13] 24)).alloc (.cells #[.int .i64 0, .int .i64 0, .int .i64 0, .int .i64 0, .int .i64 0, .int .i64 0, .int .i64 0, .int .i64 0, .int .i64 0, .int .i64 0, .int .i64 0, .int .i64 0, .int .i64 0, .int .i64 0, .int .i64 0] 91)).drew).setCells (w.heap.size + 1) 0 [.int .i64 0, .int .i64 x0, .int .i64 x1, .int .i64 x2, .int .i64 x3, .int .i64 x4, .int .i64 x5, .int .i64 x6, .int .i64 x7, .int .i64 b8, .int .i64 x9, .int .i64 x10, .int .i64 x11, .int .i64 x12, .int .i64 b13]).rangeAt (w.heap.size + 1) 0 [.int .i64 0, .int .i64 x0, .int .i64 x1, .int .i64 x2, .int .i64 x3, .int .i64 x4, .int .i64 x5, .int .i64 x6, .int .i64 x7, .int .i64 b8, .int .i64 x9, .int .i64 x10, .int .i64 x11, .int .i64 x12, .int .i64 b13] := World.rangeAt_setCells_same _ _ _ _ hT
  have hN : New w ((((w.alloc (.cells #[.int .i64 x0, .int .i64 x1, .int .i64 x2, .int .i64 x3, .int .i64 x4, .int .i64 x5, .int .i64 x6, .int .i64 x7, .bool x8, .int .i64 x9, .int .i64 x10, .int .i64 x11, .int .i64 x12, .bool x13] 24)).alloc (.cells #[.int .i64 0, .int .i64 0, .int .i64 0, .int .i64 0, .int .i64 0, .int .i64 0, .int .i64 0, .int .i64 0, .int .i64 0, .int .i64 0, .int .i64 0, .int .i64 0, .int .i64 0, .int .i64 0, .int .i64 0] 91)).drew).setCells (w.heap.size + 1) 0 [.int .i64 0, .int .i64 x0, .int .i64 x1, .int .i64 x2, .int .i64 x3, .int .i64 x4, .int .i64 x5, .int .i64 x6, .int .i64 x7, .int .i64 b8, .int .i64 x9, .int .i64 x10, .int .i64 x11, .int .i64 x12, .int .i64 b13]) := Chg.setCells (fun h => absurd h (by simp)) _ _ (((Chg.refl _ _).alloc _).alloc _).drew
  generalize ((((w.alloc (.cells #[.int .i64 x0, .int .i64 x1, .int .i64 x2, .int .i64 x3, .int .i64 x4, .int .i64 x5, .int .i64 x6, .int .i64 x7, .bool x8, .int .i64 x9, .int .i64 x10, .int .i64 x11, .int .i64 x12, .bool x13] 24)).alloc (.cells #[.int .i64 0, .int .i64 0, .int .i64 0, .int .i64 0, .int .i64 0, .int .i64 0, .int .i64 0, .int .i64 0, .int .i64 0, .int .i64 0, .int .i64 0, .int .i64 0, .int .i64 0, .int .i64 0, .int .i64 0] 91)).drew).setCells (w.heap.size + 1) 0 [.int .i64 0, .int .i64 x0, .int .i64 x1, .int .i64 x2, .int .i64 x3, .int .i64 x4, .int .i64 x5, .int .i64 x6, .int .i64 x7, .int .i64 b8, .int .i64 x9, .int .i64 x10, .int .i64 x11, .int .i64 x12, .int .i64 b13]) = wX at hR hN ⊢
  have g0 := hR 0 _ rfl
  have g1 := hR 1 _ rfl
  have g2 := hR 2 _ rfl
  have g3 := hR 3 _ rfl
  have g4 := hR 4 _ rfl
  have g5 := hR 5 _ rfl
  have g6 := hR 6 _ rfl
  have g7 := hR 7 _ rfl
  have g8 := hR 8 _ rfl
  have g9 := hR 9 _ rfl
  have g10 := hR 10 _ rfl
  have g11 := hR 11 _ rfl
  have g12 := hR 12 _ rfl
  have g13 := hR 13 _ rfl
  have g14 := hR 14 _ rfl
  simp only [Nat.zero_add] at g0 g1 g2 g3 g4 g5 g6 g7 g8 g9 g10 g11 g12 g13 g14
  refine bodyPost_ret (v := .agg #[.int .i64 0, .int .i64 x0, .int .i64 x1, .int .i64 x2, .int .i64 x3, .int .i64 x4, .int .i64 x5, .int .i64 x6, .int .i64 x7, .int .i64 b8, .int .i64 x9, .int .i64 x10, .int .i64 x11, .int .i64 x12, .int .i64 b13]) (by simp [results, Try.results34, go_sem, g0, g1, g2, g3, g4, g5, g6, g7, g8, g9, g10, g11, g12, g13, g14]) rfl ?_
  exact ⟨rfl, hN⟩
end Go.Proofs.Ytkcokcanakljnaa
