/-
  The document's Do: what is done with a product.
-/
import Derived.Test.YtdaaejoglikhaaaIpD
namespace Go.Proofs.Ytdaaejoglikhaaa
open Go.RowKit
def I64 (x : Int) : Prop := -9223372036854775808 ≤ x ∧ x ≤ 9223372036854775807
def doE1 (p : Pd) (a b : Int) : Int := if p.x13 = true then 25 else if a < 0 then 2 else if 255 < a then 2 else if b < 0 then 2 else if 65535 < b then 2 else if ¬ p.x0 = 1 then 28 else if p.x8 = true then 28 else if p.x11 = 65535 then 29 else 0
def doP1 (p : Pd) (a b : Int) : Pd := if doE1 p a b = 0 then ⟨p.x0, p.x1, p.x2, p.x3, p.x4, p.x5, p.x6, p.x7, true, a, b, p.x11 + 1, p.x12, p.x13⟩ else pz
def doE2 (p : Pd) (a _b : Int) : Int := if p.x13 = true then 25 else if a < 0 then 2 else if ¬ p.x0 = 1 then 28 else if p.x8 = false then 28 else if p.x5 < a then 27 else if p.x11 = 65535 then 29 else 0
def doP2 (p : Pd) (a b : Int) : Pd := if doE2 p a b = 0 then ⟨p.x0, p.x1, p.x2, p.x3, p.x4, p.x5 - a, p.x6, p.x7, false, 0, 0, p.x11 + 1, p.x12, p.x13⟩ else pz
def doE3 (p : Pd) (a _b : Int) : Int := if p.x13 = true then 25 else if a < 0 then 2 else if ¬ p.x0 = 1 then 28 else if 2147483648 - p.x5 < a then 29 else if p.x11 = 65535 then 29 else 0
def doP3 (p : Pd) (a b : Int) : Pd := if doE3 p a b = 0 then ⟨p.x0, p.x1, p.x2, p.x3, p.x4, p.x5 + a, p.x6, p.x7, p.x8, p.x9, p.x10, p.x11 + 1, p.x12, p.x13⟩ else pz
set_option maxRecDepth 100000 in
set_option maxHeartbeats 4000000 in
theorem Do1_any (p : Pd) (hp : RightN p.ns) (a b : Int) (w : World) : Calls Try.prog 27 #[p.V, .int .i64 1, .int .i64 a, .int .i64 b] w fun e w' => e = .returned (.tuple #[(doP1 p a b).V, .int .i64 (doE1 p a b)]) ∧ New w w' := by
  obtain ⟨e, he0⟩ : ∃ e, doE1 p a b = e := ⟨_, rfl⟩
  obtain ⟨P, hP0⟩ : ∃ P, doP1 p a b = P := ⟨_, rfl⟩
  rw [he0, hP0]
  unfold doP1 at hP0
  rw [he0] at hP0
  unfold doE1 at he0
  obtain ⟨x0, x1, x2, x3, x4, x5, x6, x7, x8, x9, x10, x11, x12, x13⟩ := p
  have h11 : 0 ≤ x11 ∧ x11 ≤ 65535 := ⟨(hp.2 11 (by omega)).1, (hp.2 11 (by omega)).2.1⟩
  have h5 : 0 ≤ x5 ∧ x5 ≤ 2147483648 := ⟨(hp.2 5 (by omega)).1, (hp.2 5 (by omega)).2.1⟩
  have hP := hP0
  have he := he0
  clear hP0 he0
  dsimp only at hP he
  go_enter Try.func27, Try.ntmps27
  by_cases c0 : x13 = true
  · rw [if_pos c0] at he
    subst c0
    obtain rfl : e = 25 := he.symm
    rw [if_neg (by decide)] at hP
    subst hP
    clear he h11 h5 hp
    go_wp2_with fail
    have hX := Has.new_at (w.alloc (.cells #[.int .i64 x0, .int .i64 x1, .int .i64 x2, .int .i64 x3, .int .i64 x4, .int .i64 x5, .int .i64 x6, .int .i64 x7, .bool x8, .int .i64 x9, .int .i64 x10, .int .i64 x11, .int .i64 x12, .bool true] 24)) 24 #[.int .i64 0, .int .i64 0, .int .i64 0, .int .i64 0, .int .i64 0, .int .i64 0, .int .i64 0, .int .i64 0, .bool false, .int .i64 0, .int .i64 0, .int .i64 0, .int .i64 0, .bool false] (w.heap.size + 1) (by simp)
    have hN : New w ((w.alloc (.cells #[.int .i64 x0, .int .i64 x1, .int .i64 x2, .int .i64 x3, .int .i64 x4, .int .i64 x5, .int .i64 x6, .int .i64 x7, .bool x8, .int .i64 x9, .int .i64 x10, .int .i64 x11, .int .i64 x12, .bool true] 24)).alloc (.cells #[.int .i64 0, .int .i64 0, .int .i64 0, .int .i64 0, .int .i64 0, .int .i64 0, .int .i64 0, .int .i64 0, .bool false, .int .i64 0, .int .i64 0, .int .i64 0, .int .i64 0, .bool false] 24)) := ((Chg.refl _ _).alloc _).alloc _
    generalize (w.alloc (.cells #[.int .i64 x0, .int .i64 x1, .int .i64 x2, .int .i64 x3, .int .i64 x4, .int .i64 x5, .int .i64 x6, .int .i64 x7, .bool x8, .int .i64 x9, .int .i64 x10, .int .i64 x11, .int .i64 x12, .bool true] 24)).alloc (.cells #[.int .i64 0, .int .i64 0, .int .i64 0, .int .i64 0, .int .i64 0, .int .i64 0, .int .i64 0, .int .i64 0, .bool false, .int .i64 0, .int .i64 0, .int .i64 0, .int .i64 0, .bool false] 24) = wX at hX hN ⊢
    have g0 := (hX.cell 0).trans rfl
    have g1 := (hX.cell 1).trans rfl
    have g2 := (hX.cell 2).trans rfl
    have g3 := (hX.cell 3).trans rfl
    have g4 := (hX.cell 4).trans rfl
    have g5 := (hX.cell 5).trans rfl
    have g6 := (hX.cell 6).trans rfl
    have g7 := (hX.cell 7).trans rfl
    have g8 := (hX.cell 8).trans rfl
    have g9 := (hX.cell 9).trans rfl
    have g10 := (hX.cell 10).trans rfl
    have g11 := (hX.cell 11).trans rfl
    have g12 := (hX.cell 12).trans rfl
    have g13 := (hX.cell 13).trans rfl
    refine bodyPost_ret (v := .tuple #[.agg #[.int .i64 0, .int .i64 0, .int .i64 0, .int .i64 0, .int .i64 0, .int .i64 0, .int .i64 0, .int .i64 0, .bool false, .int .i64 0, .int .i64 0, .int .i64 0, .int .i64 0, .bool false], .int .i64 25]) (by simp [results, Try.results27, go_sem, g0, g1, g2, g3, g4, g5, g6, g7, g8, g9, g10, g11, g12, g13]) rfl ?_
    exact ⟨rfl, hN⟩
  rw [if_neg c0] at he
  have c0n : x13 = false := by simpa using c0
  clear c0
  subst c0n
  by_cases c1 : a < 0
  · rw [if_pos c1] at he
    have e1_0 : decide (a < 0) = true := decide_eq_true c1
    clear c1
    obtain rfl : e = 2 := he.symm
    rw [if_neg (by decide)] at hP
    subst hP
    clear he h11 h5 hp
    go_wp2_with fail
    have hX := Has.new_at (w.alloc (.cells #[.int .i64 x0, .int .i64 x1, .int .i64 x2, .int .i64 x3, .int .i64 x4, .int .i64 x5, .int .i64 x6, .int .i64 x7, .bool x8, .int .i64 x9, .int .i64 x10, .int .i64 x11, .int .i64 x12, .bool false] 24)) 24 #[.int .i64 0, .int .i64 0, .int .i64 0, .int .i64 0, .int .i64 0, .int .i64 0, .int .i64 0, .int .i64 0, .bool false, .int .i64 0, .int .i64 0, .int .i64 0, .int .i64 0, .bool false] (w.heap.size + 1) (by simp)
    have hN : New w ((w.alloc (.cells #[.int .i64 x0, .int .i64 x1, .int .i64 x2, .int .i64 x3, .int .i64 x4, .int .i64 x5, .int .i64 x6, .int .i64 x7, .bool x8, .int .i64 x9, .int .i64 x10, .int .i64 x11, .int .i64 x12, .bool false] 24)).alloc (.cells #[.int .i64 0, .int .i64 0, .int .i64 0, .int .i64 0, .int .i64 0, .int .i64 0, .int .i64 0, .int .i64 0, .bool false, .int .i64 0, .int .i64 0, .int .i64 0, .int .i64 0, .bool false] 24)) := ((Chg.refl _ _).alloc _).alloc _
    generalize (w.alloc (.cells #[.int .i64 x0, .int .i64 x1, .int .i64 x2, .int .i64 x3, .int .i64 x4, .int .i64 x5, .int .i64 x6, .int .i64 x7, .bool x8, .int .i64 x9, .int .i64 x10, .int .i64 x11, .int .i64 x12, .bool false] 24)).alloc (.cells #[.int .i64 0, .int .i64 0, .int .i64 0, .int .i64 0, .int .i64 0, .int .i64 0, .int .i64 0, .int .i64 0, .bool false, .int .i64 0, .int .i64 0, .int .i64 0, .int .i64 0, .bool false] 24) = wX at hX hN ⊢
    have g0 := (hX.cell 0).trans rfl
    have g1 := (hX.cell 1).trans rfl
    have g2 := (hX.cell 2).trans rfl
    have g3 := (hX.cell 3).trans rfl
    have g4 := (hX.cell 4).trans rfl
    have g5 := (hX.cell 5).trans rfl
    have g6 := (hX.cell 6).trans rfl
    have g7 := (hX.cell 7).trans rfl
    have g8 := (hX.cell 8).trans rfl
    have g9 := (hX.cell 9).trans rfl
    have g10 := (hX.cell 10).trans rfl
    have g11 := (hX.cell 11).trans rfl
    have g12 := (hX.cell 12).trans rfl
    have g13 := (hX.cell 13).trans rfl
    refine bodyPost_ret (v := .tuple #[.agg #[.int .i64 0, .int .i64 0, .int .i64 0, .int .i64 0, .int .i64 0, .int .i64 0, .int .i64 0, .int .i64 0, .bool false, .int .i64 0, .int .i64 0, .int .i64 0, .int .i64 0, .bool false], .int .i64 2]) (by simp [results, Try.results27, go_sem, g0, g1, g2, g3, g4, g5, g6, g7, g8, g9, g10, g11, g12, g13]) rfl ?_
    exact ⟨rfl, hN⟩
  rw [if_neg c1] at he
  have e1_0 : decide (a < 0) = false := decide_eq_false c1
  have d1 := c1
  clear c1
  by_cases c2 : 255 < a
  · rw [if_pos c2] at he
    have e2_0 : decide (255 < a) = true := decide_eq_true c2
    clear c2
    obtain rfl : e = 2 := he.symm
    rw [if_neg (by decide)] at hP
    subst hP
    clear he h11 h5 hp
    go_wp2_with fail
    have hX := Has.new_at (w.alloc (.cells #[.int .i64 x0, .int .i64 x1, .int .i64 x2, .int .i64 x3, .int .i64 x4, .int .i64 x5, .int .i64 x6, .int .i64 x7, .bool x8, .int .i64 x9, .int .i64 x10, .int .i64 x11, .int .i64 x12, .bool false] 24)) 24 #[.int .i64 0, .int .i64 0, .int .i64 0, .int .i64 0, .int .i64 0, .int .i64 0, .int .i64 0, .int .i64 0, .bool false, .int .i64 0, .int .i64 0, .int .i64 0, .int .i64 0, .bool false] (w.heap.size + 1) (by simp)
    have hN : New w ((w.alloc (.cells #[.int .i64 x0, .int .i64 x1, .int .i64 x2, .int .i64 x3, .int .i64 x4, .int .i64 x5, .int .i64 x6, .int .i64 x7, .bool x8, .int .i64 x9, .int .i64 x10, .int .i64 x11, .int .i64 x12, .bool false] 24)).alloc (.cells #[.int .i64 0, .int .i64 0, .int .i64 0, .int .i64 0, .int .i64 0, .int .i64 0, .int .i64 0, .int .i64 0, .bool false, .int .i64 0, .int .i64 0, .int .i64 0, .int .i64 0, .bool false] 24)) := ((Chg.refl _ _).alloc _).alloc _
    generalize (w.alloc (.cells #[.int .i64 x0, .int .i64 x1, .int .i64 x2, .int .i64 x3, .int .i64 x4, .int .i64 x5, .int .i64 x6, .int .i64 x7, .bool x8, .int .i64 x9, .int .i64 x10, .int .i64 x11, .int .i64 x12, .bool false] 24)).alloc (.cells #[.int .i64 0, .int .i64 0, .int .i64 0, .int .i64 0, .int .i64 0, .int .i64 0, .int .i64 0, .int .i64 0, .bool false, .int .i64 0, .int .i64 0, .int .i64 0, .int .i64 0, .bool false] 24) = wX at hX hN ⊢
    have g0 := (hX.cell 0).trans rfl
    have g1 := (hX.cell 1).trans rfl
    have g2 := (hX.cell 2).trans rfl
    have g3 := (hX.cell 3).trans rfl
    have g4 := (hX.cell 4).trans rfl
    have g5 := (hX.cell 5).trans rfl
    have g6 := (hX.cell 6).trans rfl
    have g7 := (hX.cell 7).trans rfl
    have g8 := (hX.cell 8).trans rfl
    have g9 := (hX.cell 9).trans rfl
    have g10 := (hX.cell 10).trans rfl
    have g11 := (hX.cell 11).trans rfl
    have g12 := (hX.cell 12).trans rfl
    have g13 := (hX.cell 13).trans rfl
    refine bodyPost_ret (v := .tuple #[.agg #[.int .i64 0, .int .i64 0, .int .i64 0, .int .i64 0, .int .i64 0, .int .i64 0, .int .i64 0, .int .i64 0, .bool false, .int .i64 0, .int .i64 0, .int .i64 0, .int .i64 0, .bool false], .int .i64 2]) (by simp [results, Try.results27, go_sem, g0, g1, g2, g3, g4, g5, g6, g7, g8, g9, g10, g11, g12, g13]) rfl ?_
    exact ⟨rfl, hN⟩
  rw [if_neg c2] at he
  have e2_0 : decide (255 < a) = false := decide_eq_false c2
  have d2 := c2
  clear c2
  by_cases c3 : b < 0
  · rw [if_pos c3] at he
    have e3_0 : decide (b < 0) = true := decide_eq_true c3
    clear c3
    obtain rfl : e = 2 := he.symm
    rw [if_neg (by decide)] at hP
    subst hP
    clear he h11 h5 hp
    go_wp2_with fail
    have hX := Has.new_at (w.alloc (.cells #[.int .i64 x0, .int .i64 x1, .int .i64 x2, .int .i64 x3, .int .i64 x4, .int .i64 x5, .int .i64 x6, .int .i64 x7, .bool x8, .int .i64 x9, .int .i64 x10, .int .i64 x11, .int .i64 x12, .bool false] 24)) 24 #[.int .i64 0, .int .i64 0, .int .i64 0, .int .i64 0, .int .i64 0, .int .i64 0, .int .i64 0, .int .i64 0, .bool false, .int .i64 0, .int .i64 0, .int .i64 0, .int .i64 0, .bool false] (w.heap.size + 1) (by simp)
    have hN : New w ((w.alloc (.cells #[.int .i64 x0, .int .i64 x1, .int .i64 x2, .int .i64 x3, .int .i64 x4, .int .i64 x5, .int .i64 x6, .int .i64 x7, .bool x8, .int .i64 x9, .int .i64 x10, .int .i64 x11, .int .i64 x12, .bool false] 24)).alloc (.cells #[.int .i64 0, .int .i64 0, .int .i64 0, .int .i64 0, .int .i64 0, .int .i64 0, .int .i64 0, .int .i64 0, .bool false, .int .i64 0, .int .i64 0, .int .i64 0, .int .i64 0, .bool false] 24)) := ((Chg.refl _ _).alloc _).alloc _
    generalize (w.alloc (.cells #[.int .i64 x0, .int .i64 x1, .int .i64 x2, .int .i64 x3, .int .i64 x4, .int .i64 x5, .int .i64 x6, .int .i64 x7, .bool x8, .int .i64 x9, .int .i64 x10, .int .i64 x11, .int .i64 x12, .bool false] 24)).alloc (.cells #[.int .i64 0, .int .i64 0, .int .i64 0, .int .i64 0, .int .i64 0, .int .i64 0, .int .i64 0, .int .i64 0, .bool false, .int .i64 0, .int .i64 0, .int .i64 0, .int .i64 0, .bool false] 24) = wX at hX hN ⊢
    have g0 := (hX.cell 0).trans rfl
    have g1 := (hX.cell 1).trans rfl
    have g2 := (hX.cell 2).trans rfl
    have g3 := (hX.cell 3).trans rfl
    have g4 := (hX.cell 4).trans rfl
    have g5 := (hX.cell 5).trans rfl
    have g6 := (hX.cell 6).trans rfl
    have g7 := (hX.cell 7).trans rfl
    have g8 := (hX.cell 8).trans rfl
    have g9 := (hX.cell 9).trans rfl
    have g10 := (hX.cell 10).trans rfl
    have g11 := (hX.cell 11).trans rfl
    have g12 := (hX.cell 12).trans rfl
    have g13 := (hX.cell 13).trans rfl
    refine bodyPost_ret (v := .tuple #[.agg #[.int .i64 0, .int .i64 0, .int .i64 0, .int .i64 0, .int .i64 0, .int .i64 0, .int .i64 0, .int .i64 0, .bool false, .int .i64 0, .int .i64 0, .int .i64 0, .int .i64 0, .bool false], .int .i64 2]) (by simp [results, Try.results27, go_sem, g0, g1, g2, g3, g4, g5, g6, g7, g8, g9, g10, g11, g12, g13]) rfl ?_
    exact ⟨rfl, hN⟩
  rw [if_neg c3] at he
  have e3_0 : decide (b < 0) = false := decide_eq_false c3
  have d3 := c3
  clear c3
  by_cases c4 : 65535 < b
  · rw [if_pos c4] at he
    have e4_0 : decide (65535 < b) = true := decide_eq_true c4
    clear c4
    obtain rfl : e = 2 := he.symm
    rw [if_neg (by decide)] at hP
    subst hP
    clear he h11 h5 hp
    go_wp2_with fail
    have hX := Has.new_at (w.alloc (.cells #[.int .i64 x0, .int .i64 x1, .int .i64 x2, .int .i64 x3, .int .i64 x4, .int .i64 x5, .int .i64 x6, .int .i64 x7, .bool x8, .int .i64 x9, .int .i64 x10, .int .i64 x11, .int .i64 x12, .bool false] 24)) 24 #[.int .i64 0, .int .i64 0, .int .i64 0, .int .i64 0, .int .i64 0, .int .i64 0, .int .i64 0, .int .i64 0, .bool false, .int .i64 0, .int .i64 0, .int .i64 0, .int .i64 0, .bool false] (w.heap.size + 1) (by simp)
    have hN : New w ((w.alloc (.cells #[.int .i64 x0, .int .i64 x1, .int .i64 x2, .int .i64 x3, .int .i64 x4, .int .i64 x5, .int .i64 x6, .int .i64 x7, .bool x8, .int .i64 x9, .int .i64 x10, .int .i64 x11, .int .i64 x12, .bool false] 24)).alloc (.cells #[.int .i64 0, .int .i64 0, .int .i64 0, .int .i64 0, .int .i64 0, .int .i64 0, .int .i64 0, .int .i64 0, .bool false, .int .i64 0, .int .i64 0, .int .i64 0, .int .i64 0, .bool false] 24)) := ((Chg.refl _ _).alloc _).alloc _
    generalize (w.alloc (.cells #[.int .i64 x0, .int .i64 x1, .int .i64 x2, .int .i64 x3, .int .i64 x4, .int .i64 x5, .int .i64 x6, .int .i64 x7, .bool x8, .int .i64 x9, .int .i64 x10, .int .i64 x11, .int .i64 x12, .bool false] 24)).alloc (.cells #[.int .i64 0, .int .i64 0, .int .i64 0, .int .i64 0, .int .i64 0, .int .i64 0, .int .i64 0, .int .i64 0, .bool false, .int .i64 0, .int .i64 0, .int .i64 0, .int .i64 0, .bool false] 24) = wX at hX hN ⊢
    have g0 := (hX.cell 0).trans rfl
    have g1 := (hX.cell 1).trans rfl
    have g2 := (hX.cell 2).trans rfl
    have g3 := (hX.cell 3).trans rfl
    have g4 := (hX.cell 4).trans rfl
    have g5 := (hX.cell 5).trans rfl
    have g6 := (hX.cell 6).trans rfl
    have g7 := (hX.cell 7).trans rfl
    have g8 := (hX.cell 8).trans rfl
    have g9 := (hX.cell 9).trans rfl
    have g10 := (hX.cell 10).trans rfl
    have g11 := (hX.cell 11).trans rfl
    have g12 := (hX.cell 12).trans rfl
    have g13 := (hX.cell 13).trans rfl
    refine bodyPost_ret (v := .tuple #[.agg #[.int .i64 0, .int .i64 0, .int .i64 0, .int .i64 0, .int .i64 0, .int .i64 0, .int .i64 0, .int .i64 0, .bool false, .int .i64 0, .int .i64 0, .int .i64 0, .int .i64 0, .bool false], .int .i64 2]) (by simp [results, Try.results27, go_sem, g0, g1, g2, g3, g4, g5, g6, g7, g8, g9, g10, g11, g12, g13]) rfl ?_
    exact ⟨rfl, hN⟩
  rw [if_neg c4] at he
  have e4_0 : decide (65535 < b) = false := decide_eq_false c4
  have d4 := c4
  clear c4
  by_cases c5 : ¬ x0 = 1
  · rw [if_pos c5] at he
    have e5_0 : (x0 == 1) = false := beq_eq_false_iff_ne.2 c5
    have e5_1 : (x0 != 1) = true := bne_iff_ne.2 c5
    clear c5
    obtain rfl : e = 28 := he.symm
    rw [if_neg (by decide)] at hP
    subst hP
    clear he h11 h5 hp
    go_wp2_with fail
    have hX := Has.new_at (w.alloc (.cells #[.int .i64 x0, .int .i64 x1, .int .i64 x2, .int .i64 x3, .int .i64 x4, .int .i64 x5, .int .i64 x6, .int .i64 x7, .bool x8, .int .i64 x9, .int .i64 x10, .int .i64 x11, .int .i64 x12, .bool false] 24)) 24 #[.int .i64 0, .int .i64 0, .int .i64 0, .int .i64 0, .int .i64 0, .int .i64 0, .int .i64 0, .int .i64 0, .bool false, .int .i64 0, .int .i64 0, .int .i64 0, .int .i64 0, .bool false] (w.heap.size + 1) (by simp)
    have hN : New w ((w.alloc (.cells #[.int .i64 x0, .int .i64 x1, .int .i64 x2, .int .i64 x3, .int .i64 x4, .int .i64 x5, .int .i64 x6, .int .i64 x7, .bool x8, .int .i64 x9, .int .i64 x10, .int .i64 x11, .int .i64 x12, .bool false] 24)).alloc (.cells #[.int .i64 0, .int .i64 0, .int .i64 0, .int .i64 0, .int .i64 0, .int .i64 0, .int .i64 0, .int .i64 0, .bool false, .int .i64 0, .int .i64 0, .int .i64 0, .int .i64 0, .bool false] 24)) := ((Chg.refl _ _).alloc _).alloc _
    generalize (w.alloc (.cells #[.int .i64 x0, .int .i64 x1, .int .i64 x2, .int .i64 x3, .int .i64 x4, .int .i64 x5, .int .i64 x6, .int .i64 x7, .bool x8, .int .i64 x9, .int .i64 x10, .int .i64 x11, .int .i64 x12, .bool false] 24)).alloc (.cells #[.int .i64 0, .int .i64 0, .int .i64 0, .int .i64 0, .int .i64 0, .int .i64 0, .int .i64 0, .int .i64 0, .bool false, .int .i64 0, .int .i64 0, .int .i64 0, .int .i64 0, .bool false] 24) = wX at hX hN ⊢
    have g0 := (hX.cell 0).trans rfl
    have g1 := (hX.cell 1).trans rfl
    have g2 := (hX.cell 2).trans rfl
    have g3 := (hX.cell 3).trans rfl
    have g4 := (hX.cell 4).trans rfl
    have g5 := (hX.cell 5).trans rfl
    have g6 := (hX.cell 6).trans rfl
    have g7 := (hX.cell 7).trans rfl
    have g8 := (hX.cell 8).trans rfl
    have g9 := (hX.cell 9).trans rfl
    have g10 := (hX.cell 10).trans rfl
    have g11 := (hX.cell 11).trans rfl
    have g12 := (hX.cell 12).trans rfl
    have g13 := (hX.cell 13).trans rfl
    refine bodyPost_ret (v := .tuple #[.agg #[.int .i64 0, .int .i64 0, .int .i64 0, .int .i64 0, .int .i64 0, .int .i64 0, .int .i64 0, .int .i64 0, .bool false, .int .i64 0, .int .i64 0, .int .i64 0, .int .i64 0, .bool false], .int .i64 28]) (by simp [results, Try.results27, go_sem, g0, g1, g2, g3, g4, g5, g6, g7, g8, g9, g10, g11, g12, g13]) rfl ?_
    exact ⟨rfl, hN⟩
  rw [if_neg c5] at he
  have c5n : x0 = 1 := Classical.not_not.1 c5
  clear c5
  subst c5n
  by_cases c6 : x8 = true
  · rw [if_pos c6] at he
    subst c6
    obtain rfl : e = 28 := he.symm
    rw [if_neg (by decide)] at hP
    subst hP
    clear he h11 h5 hp
    go_wp2_with fail
    have hX := Has.new_at (w.alloc (.cells #[.int .i64 1, .int .i64 x1, .int .i64 x2, .int .i64 x3, .int .i64 x4, .int .i64 x5, .int .i64 x6, .int .i64 x7, .bool true, .int .i64 x9, .int .i64 x10, .int .i64 x11, .int .i64 x12, .bool false] 24)) 24 #[.int .i64 0, .int .i64 0, .int .i64 0, .int .i64 0, .int .i64 0, .int .i64 0, .int .i64 0, .int .i64 0, .bool false, .int .i64 0, .int .i64 0, .int .i64 0, .int .i64 0, .bool false] (w.heap.size + 1) (by simp)
    have hN : New w ((w.alloc (.cells #[.int .i64 1, .int .i64 x1, .int .i64 x2, .int .i64 x3, .int .i64 x4, .int .i64 x5, .int .i64 x6, .int .i64 x7, .bool true, .int .i64 x9, .int .i64 x10, .int .i64 x11, .int .i64 x12, .bool false] 24)).alloc (.cells #[.int .i64 0, .int .i64 0, .int .i64 0, .int .i64 0, .int .i64 0, .int .i64 0, .int .i64 0, .int .i64 0, .bool false, .int .i64 0, .int .i64 0, .int .i64 0, .int .i64 0, .bool false] 24)) := ((Chg.refl _ _).alloc _).alloc _
    generalize (w.alloc (.cells #[.int .i64 1, .int .i64 x1, .int .i64 x2, .int .i64 x3, .int .i64 x4, .int .i64 x5, .int .i64 x6, .int .i64 x7, .bool true, .int .i64 x9, .int .i64 x10, .int .i64 x11, .int .i64 x12, .bool false] 24)).alloc (.cells #[.int .i64 0, .int .i64 0, .int .i64 0, .int .i64 0, .int .i64 0, .int .i64 0, .int .i64 0, .int .i64 0, .bool false, .int .i64 0, .int .i64 0, .int .i64 0, .int .i64 0, .bool false] 24) = wX at hX hN ⊢
    have g0 := (hX.cell 0).trans rfl
    have g1 := (hX.cell 1).trans rfl
    have g2 := (hX.cell 2).trans rfl
    have g3 := (hX.cell 3).trans rfl
    have g4 := (hX.cell 4).trans rfl
    have g5 := (hX.cell 5).trans rfl
    have g6 := (hX.cell 6).trans rfl
    have g7 := (hX.cell 7).trans rfl
    have g8 := (hX.cell 8).trans rfl
    have g9 := (hX.cell 9).trans rfl
    have g10 := (hX.cell 10).trans rfl
    have g11 := (hX.cell 11).trans rfl
    have g12 := (hX.cell 12).trans rfl
    have g13 := (hX.cell 13).trans rfl
    refine bodyPost_ret (v := .tuple #[.agg #[.int .i64 0, .int .i64 0, .int .i64 0, .int .i64 0, .int .i64 0, .int .i64 0, .int .i64 0, .int .i64 0, .bool false, .int .i64 0, .int .i64 0, .int .i64 0, .int .i64 0, .bool false], .int .i64 28]) (by simp [results, Try.results27, go_sem, g0, g1, g2, g3, g4, g5, g6, g7, g8, g9, g10, g11, g12, g13]) rfl ?_
    exact ⟨rfl, hN⟩
  rw [if_neg c6] at he
  have c6n : x8 = false := by simpa using c6
  clear c6
  subst c6n
  by_cases c7 : x11 = 65535
  · rw [if_pos c7] at he
    subst c7
    obtain rfl : e = 29 := he.symm
    rw [if_neg (by decide)] at hP
    subst hP
    clear he h11 h5 hp
    go_wp2_with fail
    have hX := Has.new_at (w.alloc (.cells #[.int .i64 1, .int .i64 x1, .int .i64 x2, .int .i64 x3, .int .i64 x4, .int .i64 x5, .int .i64 x6, .int .i64 x7, .bool false, .int .i64 x9, .int .i64 x10, .int .i64 65535, .int .i64 x12, .bool false] 24)) 24 #[.int .i64 0, .int .i64 0, .int .i64 0, .int .i64 0, .int .i64 0, .int .i64 0, .int .i64 0, .int .i64 0, .bool false, .int .i64 0, .int .i64 0, .int .i64 0, .int .i64 0, .bool false] (w.heap.size + 1) (by simp)
    have hN : New w ((w.alloc (.cells #[.int .i64 1, .int .i64 x1, .int .i64 x2, .int .i64 x3, .int .i64 x4, .int .i64 x5, .int .i64 x6, .int .i64 x7, .bool false, .int .i64 x9, .int .i64 x10, .int .i64 65535, .int .i64 x12, .bool false] 24)).alloc (.cells #[.int .i64 0, .int .i64 0, .int .i64 0, .int .i64 0, .int .i64 0, .int .i64 0, .int .i64 0, .int .i64 0, .bool false, .int .i64 0, .int .i64 0, .int .i64 0, .int .i64 0, .bool false] 24)) := ((Chg.refl _ _).alloc _).alloc _
    generalize (w.alloc (.cells #[.int .i64 1, .int .i64 x1, .int .i64 x2, .int .i64 x3, .int .i64 x4, .int .i64 x5, .int .i64 x6, .int .i64 x7, .bool false, .int .i64 x9, .int .i64 x10, .int .i64 65535, .int .i64 x12, .bool false] 24)).alloc (.cells #[.int .i64 0, .int .i64 0, .int .i64 0, .int .i64 0, .int .i64 0, .int .i64 0, .int .i64 0, .int .i64 0, .bool false, .int .i64 0, .int .i64 0, .int .i64 0, .int .i64 0, .bool false] 24) = wX at hX hN ⊢
    have g0 := (hX.cell 0).trans rfl
    have g1 := (hX.cell 1).trans rfl
    have g2 := (hX.cell 2).trans rfl
    have g3 := (hX.cell 3).trans rfl
    have g4 := (hX.cell 4).trans rfl
    have g5 := (hX.cell 5).trans rfl
    have g6 := (hX.cell 6).trans rfl
    have g7 := (hX.cell 7).trans rfl
    have g8 := (hX.cell 8).trans rfl
    have g9 := (hX.cell 9).trans rfl
    have g10 := (hX.cell 10).trans rfl
    have g11 := (hX.cell 11).trans rfl
    have g12 := (hX.cell 12).trans rfl
    have g13 := (hX.cell 13).trans rfl
    refine bodyPost_ret (v := .tuple #[.agg #[.int .i64 0, .int .i64 0, .int .i64 0, .int .i64 0, .int .i64 0, .int .i64 0, .int .i64 0, .int .i64 0, .bool false, .int .i64 0, .int .i64 0, .int .i64 0, .int .i64 0, .bool false], .int .i64 29]) (by simp [results, Try.results27, go_sem, g0, g1, g2, g3, g4, g5, g6, g7, g8, g9, g10, g11, g12, g13]) rfl ?_
    exact ⟨rfl, hN⟩
  rw [if_neg c7] at he
  have e7_0 : (x11 == 65535) = false := beq_eq_false_iff_ne.2 c7
  have e7_1 : (x11 != 65535) = true := bne_iff_ne.2 c7
  have d7 := c7
  clear c7
  obtain rfl : e = 0 := he.symm
  rw [if_pos rfl] at hP
  subst hP
  have f1 : IntKind.i64.wrap (x11 + 1) = x11 + 1 := IntWalk.i64_in _ (by omega)
  clear d1 d2 d3 d4 d7
  clear he h11 h5 hp
  go_wp2_with fail
  have hX := Has.new_at (w.alloc (.cells #[.int .i64 1, .int .i64 x1, .int .i64 x2, .int .i64 x3, .int .i64 x4, .int .i64 x5, .int .i64 x6, .int .i64 x7, .bool true, .int .i64 a, .int .i64 b, .int .i64 (x11 + 1), .int .i64 x12, .bool false] 24)) 24 #[.int .i64 1, .int .i64 x1, .int .i64 x2, .int .i64 x3, .int .i64 x4, .int .i64 x5, .int .i64 x6, .int .i64 x7, .bool true, .int .i64 a, .int .i64 b, .int .i64 (x11 + 1), .int .i64 x12, .bool false] (w.heap.size + 1) (by simp)
  have hN : New w ((w.alloc (.cells #[.int .i64 1, .int .i64 x1, .int .i64 x2, .int .i64 x3, .int .i64 x4, .int .i64 x5, .int .i64 x6, .int .i64 x7, .bool true, .int .i64 a, .int .i64 b, .int .i64 (x11 + 1), .int .i64 x12, .bool false] 24)).alloc (.cells #[.int .i64 1, .int .i64 x1, .int .i64 x2, .int .i64 x3, .int .i64 x4, .int .i64 x5, .int .i64 x6, .int .i64 x7, .bool true, .int .i64 a, .int .i64 b, .int .i64 (x11 + 1), .int .i64 x12, .bool false] 24)) := ((Chg.refl _ _).alloc _).alloc _
  generalize (w.alloc (.cells #[.int .i64 1, .int .i64 x1, .int .i64 x2, .int .i64 x3, .int .i64 x4, .int .i64 x5, .int .i64 x6, .int .i64 x7, .bool true, .int .i64 a, .int .i64 b, .int .i64 (x11 + 1), .int .i64 x12, .bool false] 24)).alloc (.cells #[.int .i64 1, .int .i64 x1, .int .i64 x2, .int .i64 x3, .int .i64 x4, .int .i64 x5, .int .i64 x6, .int .i64 x7, .bool true, .int .i64 a, .int .i64 b, .int .i64 (x11 + 1), .int .i64 x12, .bool false] 24) = wX at hX hN ⊢
  have g0 := (hX.cell 0).trans rfl
  have g1 := (hX.cell 1).trans rfl
  have g2 := (hX.cell 2).trans rfl
  have g3 := (hX.cell 3).trans rfl
  have g4 := (hX.cell 4).trans rfl
  have g5 := (hX.cell 5).trans rfl
  have g6 := (hX.cell 6).trans rfl
  have g7 := (hX.cell 7).trans rfl
  have g8 := (hX.cell 8).trans rfl
  have g9 := (hX.cell 9).trans rfl
  have g10 := (hX.cell 10).trans rfl
  have g11 := (hX.cell 11).trans rfl
  have g12 := (hX.cell 12).trans rfl
  have g13 := (hX.cell 13).trans rfl
  refine bodyPost_ret (v := .tuple #[.agg #[.int .i64 1, .int .i64 x1, .int .i64 x2, .int .i64 x3, .int .i64 x4, .int .i64 x5, .int .i64 x6, .int .i64 x7, .bool true, .int .i64 a, .int .i64 b, .int .i64 (x11 + 1), .int .i64 x12, .bool false], .int .i64 0]) (by simp [results, Try.results27, go_sem, g0, g1, g2, g3, g4, g5, g6, g7, g8, g9, g10, g11, g12, g13]) rfl ?_
  exact ⟨rfl, hN⟩
end Go.Proofs.Ytdaaejoglikhaaa
