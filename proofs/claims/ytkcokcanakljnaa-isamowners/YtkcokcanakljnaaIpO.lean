/-
  The document's Of: a product of numbers.
-/
import Derived.Test.YtkcokcanakljnaaIpA
import Derived.Deep.RegionHeldLaw
namespace Go.Proofs.Ytkcokcanakljnaa
open Go.RowKit
set_option maxRecDepth 100000 in
set_option maxHeartbeats 4000000 in
theorem rOf10_any (m : List Int) (hm : m.length = 14) (g : Nat) (w : World) (hG : Has w g 3 (m.map iV).toArray) : Calls Try.prog 52 #[.slice (some ⟨g, 0, none⟩) 14 14] w fun e w' => e = .returned (Pd.of m).V ∧ New w w' := by
  have hl := hG.lt
  obtain ⟨v0, e0⟩ : ∃ v, v = m.getD 0 0 := ⟨_, rfl⟩
  have y0 : w.cell? ⟨g, 0, none⟩ = some (.int .i64 v0) := by rw [e0]; exact row_at hG 0 (by omega)
  obtain ⟨v1, e1⟩ : ∃ v, v = m.getD 1 0 := ⟨_, rfl⟩
  have y1 : w.cell? ⟨g, 1, none⟩ = some (.int .i64 v1) := by rw [e1]; exact row_at hG 1 (by omega)
  obtain ⟨v2, e2⟩ : ∃ v, v = m.getD 2 0 := ⟨_, rfl⟩
  have y2 : w.cell? ⟨g, 2, none⟩ = some (.int .i64 v2) := by rw [e2]; exact row_at hG 2 (by omega)
  obtain ⟨v3, e3⟩ : ∃ v, v = m.getD 3 0 := ⟨_, rfl⟩
  have y3 : w.cell? ⟨g, 3, none⟩ = some (.int .i64 v3) := by rw [e3]; exact row_at hG 3 (by omega)
  obtain ⟨v4, e4⟩ : ∃ v, v = m.getD 4 0 := ⟨_, rfl⟩
  have y4 : w.cell? ⟨g, 4, none⟩ = some (.int .i64 v4) := by rw [e4]; exact row_at hG 4 (by omega)
  obtain ⟨v5, e5⟩ : ∃ v, v = m.getD 5 0 := ⟨_, rfl⟩
  have y5 : w.cell? ⟨g, 5, none⟩ = some (.int .i64 v5) := by rw [e5]; exact row_at hG 5 (by omega)
  obtain ⟨v6, e6⟩ : ∃ v, v = m.getD 6 0 := ⟨_, rfl⟩
  have y6 : w.cell? ⟨g, 6, none⟩ = some (.int .i64 v6) := by rw [e6]; exact row_at hG 6 (by omega)
  obtain ⟨v7, e7⟩ : ∃ v, v = m.getD 7 0 := ⟨_, rfl⟩
  have y7 : w.cell? ⟨g, 7, none⟩ = some (.int .i64 v7) := by rw [e7]; exact row_at hG 7 (by omega)
  obtain ⟨v8, e8⟩ : ∃ v, v = m.getD 8 0 := ⟨_, rfl⟩
  have y8 : w.cell? ⟨g, 8, none⟩ = some (.int .i64 v8) := by rw [e8]; exact row_at hG 8 (by omega)
  obtain ⟨v9, e9⟩ : ∃ v, v = m.getD 9 0 := ⟨_, rfl⟩
  have y9 : w.cell? ⟨g, 9, none⟩ = some (.int .i64 v9) := by rw [e9]; exact row_at hG 9 (by omega)
  obtain ⟨v10, e10⟩ : ∃ v, v = m.getD 10 0 := ⟨_, rfl⟩
  have y10 : w.cell? ⟨g, 10, none⟩ = some (.int .i64 v10) := by rw [e10]; exact row_at hG 10 (by omega)
  obtain ⟨v11, e11⟩ : ∃ v, v = m.getD 11 0 := ⟨_, rfl⟩
  have y11 : w.cell? ⟨g, 11, none⟩ = some (.int .i64 v11) := by rw [e11]; exact row_at hG 11 (by omega)
  obtain ⟨v12, e12⟩ : ∃ v, v = m.getD 12 0 := ⟨_, rfl⟩
  have y12 : w.cell? ⟨g, 12, none⟩ = some (.int .i64 v12) := by rw [e12]; exact row_at hG 12 (by omega)
  obtain ⟨v13, e13⟩ : ∃ v, v = m.getD 13 0 := ⟨_, rfl⟩
  have y13 : w.cell? ⟨g, 13, none⟩ = some (.int .i64 v13) := by rw [e13]; exact row_at hG 13 (by omega)
  have hV : (Pd.of m).V = .agg #[.int .i64 v0, .int .i64 v1, .int .i64 v2, .int .i64 v3, .int .i64 v4, .int .i64 v5, .int .i64 v6, .int .i64 v7, .bool (v8 == 1), .int .i64 v9, .int .i64 v10, .int .i64 v11, .int .i64 v12, .bool (v13 == 1)] := by unfold Pd.of Pd.V; simp only; rw [← e0, ← e1, ← e2, ← e3, ← e4, ← e5, ← e6, ← e7, ← e8, ← e9, ← e10, ← e11, ← e12, ← e13]
  rw [hV]
  clear hV e0 e1 e2 e3 e4 e5 e6 e7 e8 e9 e10 e11 e12 e13 hm hG
  go_enter Try.func52, Try.ntmps52
  go_upto_region 1 with (fail)
  have HK : Hid (∀ wx, New w wx → (wx.cell? ⟨g, 0, none⟩ = some (.int .i64 v0) ∧ wx.cell? ⟨g, 1, none⟩ = some (.int .i64 v1) ∧ wx.cell? ⟨g, 2, none⟩ = some (.int .i64 v2) ∧ wx.cell? ⟨g, 3, none⟩ = some (.int .i64 v3) ∧ wx.cell? ⟨g, 4, none⟩ = some (.int .i64 v4) ∧ wx.cell? ⟨g, 5, none⟩ = some (.int .i64 v5) ∧ wx.cell? ⟨g, 6, none⟩ = some (.int .i64 v6) ∧ wx.cell? ⟨g, 7, none⟩ = some (.int .i64 v7) ∧ wx.cell? ⟨g, 8, none⟩ = some (.int .i64 v8) ∧ wx.cell? ⟨g, 9, none⟩ = some (.int .i64 v9) ∧ wx.cell? ⟨g, 10, none⟩ = some (.int .i64 v10) ∧ wx.cell? ⟨g, 11, none⟩ = some (.int .i64 v11) ∧ wx.cell? ⟨g, 12, none⟩ = some (.int .i64 v12) ∧ wx.cell? ⟨g, 13, none⟩ = some (.int .i64 v13))) := fun wx h => ⟨(h.cell (p := ⟨g, 0, none⟩) hl (fun f => f)).trans y0, (h.cell (p := ⟨g, 1, none⟩) hl (fun f => f)).trans y1, (h.cell (p := ⟨g, 2, none⟩) hl (fun f => f)).trans y2, (h.cell (p := ⟨g, 3, none⟩) hl (fun f => f)).trans y3, (h.cell (p := ⟨g, 4, none⟩) hl (fun f => f)).trans y4, (h.cell (p := ⟨g, 5, none⟩) hl (fun f => f)).trans y5, (h.cell (p := ⟨g, 6, none⟩) hl (fun f => f)).trans y6, (h.cell (p := ⟨g, 7, none⟩) hl (fun f => f)).trans y7, (h.cell (p := ⟨g, 8, none⟩) hl (fun f => f)).trans y8, (h.cell (p := ⟨g, 9, none⟩) hl (fun f => f)).trans y9, (h.cell (p := ⟨g, 10, none⟩) hl (fun f => f)).trans y10, (h.cell (p := ⟨g, 11, none⟩) hl (fun f => f)).trans y11, (h.cell (p := ⟨g, 12, none⟩) hl (fun f => f)).trans y12, (h.cell (p := ⟨g, 13, none⟩) hl (fun f => f)).trans y13⟩
  clear y0 y1 y2 y3 y4 y5 y6 y7 y8 y9 y10 y11 y12 y13
  go_region_held_law (fun wx => wx.cell? ⟨g, 0, none⟩ = some (.int .i64 v0) ∧ wx.cell? ⟨g, 1, none⟩ = some (.int .i64 v1) ∧ wx.cell? ⟨g, 2, none⟩ = some (.int .i64 v2) ∧ wx.cell? ⟨g, 3, none⟩ = some (.int .i64 v3) ∧ wx.cell? ⟨g, 4, none⟩ = some (.int .i64 v4) ∧ wx.cell? ⟨g, 5, none⟩ = some (.int .i64 v5) ∧ wx.cell? ⟨g, 6, none⟩ = some (.int .i64 v6) ∧ wx.cell? ⟨g, 7, none⟩ = some (.int .i64 v7) ∧ wx.cell? ⟨g, 8, none⟩ = some (.int .i64 v8) ∧ wx.cell? ⟨g, 9, none⟩ = some (.int .i64 v9) ∧ wx.cell? ⟨g, 10, none⟩ = some (.int .i64 v10) ∧ wx.cell? ⟨g, 11, none⟩ = some (.int .i64 v11) ∧ wx.cell? ⟨g, 12, none⟩ = some (.int .i64 v12) ∧ wx.cell? ⟨g, 13, none⟩ = some (.int .i64 v13))
    (with_reducible refine HK.out _ ?_; with_reducible repeat (first | exact Chg.refl _ _ | refine Chg.drew ?_ | refine Chg.alloc ?_ _))
    (fail)
  go_wp2_with fail
  have hX : Has (w.alloc (.cells #[.int .i64 v0, .int .i64 v1, .int .i64 v2, .int .i64 v3, .int .i64 v4, .int .i64 v5, .int .i64 v6, .int .i64 v7, .bool (v8 == 1), .int .i64 v9, .int .i64 v10, .int .i64 v11, .int .i64 v12, .bool (v13 == 1)] 24)).drew w.heap.size 24 #[.int .i64 v0, .int .i64 v1, .int .i64 v2, .int .i64 v3, .int .i64 v4, .int .i64 v5, .int .i64 v6, .int .i64 v7, .bool (v8 == 1), .int .i64 v9, .int .i64 v10, .int .i64 v11, .int .i64 v12, .bool (v13 == 1)] := (Has.new w 24 _).drew
  have hN : New w (w.alloc (.cells #[.int .i64 v0, .int .i64 v1, .int .i64 v2, .int .i64 v3, .int .i64 v4, .int .i64 v5, .int .i64 v6, .int .i64 v7, .bool (v8 == 1), .int .i64 v9, .int .i64 v10, .int .i64 v11, .int .i64 v12, .bool (v13 == 1)] 24)).drew := ((Chg.refl _ _).alloc _).drew
  generalize (w.alloc (.cells #[.int .i64 v0, .int .i64 v1, .int .i64 v2, .int .i64 v3, .int .i64 v4, .int .i64 v5, .int .i64 v6, .int .i64 v7, .bool (v8 == 1), .int .i64 v9, .int .i64 v10, .int .i64 v11, .int .i64 v12, .bool (v13 == 1)] 24)).drew = wX at hX hN ⊢
  have g0 := (hX.cell 0).trans rfl
  have g1 := (hX.cell 1).trans rfl
  have g2 := (hX.cell 2).trans rfl
  have g3 := (hX.cell 3).trans rfl
  have g4 := (hX.cell 4).trans rfl
  have g5 := (hX.cell 5).trans rfl
  have g6 := (hX.cell 6).trans rfl
  have g7 := (hX.cell 7).trans rfl
  have g8 := (hX.cell 8).trans rfl
  have g9 := (hX.cell 9).trans rfl
  have g10 := (hX.cell 10).trans rfl
  have g11 := (hX.cell 11).trans rfl
  have g12 := (hX.cell 12).trans rfl
  have g13 := (hX.cell 13).trans rfl
  refine bodyPost_ret (v := .agg #[.int .i64 v0, .int .i64 v1, .int .i64 v2, .int .i64 v3, .int .i64 v4, .int .i64 v5, .int .i64 v6, .int .i64 v7, .bool (v8 == 1), .int .i64 v9, .int .i64 v10, .int .i64 v11, .int .i64 v12, .bool (v13 == 1)]) (by simp [results, Try.results52, go_sem, g0, g1, g2, g3, g4, g5, g6, g7, g8, g9, g10, g11, g12, g13]) rfl ?_
  exact ⟨rfl, hN⟩
end Go.Proofs.Ytkcokcanakljnaa
