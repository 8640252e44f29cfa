/-
  Package ipe's methods of a thing: Ride, In, Out, Add, Block.
-/
import Derived.Test.YtkcokcanakljnaaIqJ
namespace Go.Proofs.Ytkcokcanakljnaa
open Go.RowKit
set_option maxRecDepth 100000 in
set_option maxHeartbeats 4000000 in
theorem In_any (p : Pd) (hp : RightN p.ns) (a b : Int) (w : World) : Calls Try.prog 31 #[p.V, .int .i64 a, .int .i64 b] w fun e w' => e = .returned (.tuple #[(aftP p (inQ p a b) (inE p a b)).V, .int .i64 (aftE p (inE p a b))]) ∧ New w w' := by
  obtain ⟨E, hE⟩ : ∃ E, E = aftE p (inE p a b) := ⟨_, rfl⟩
  obtain ⟨R, hR⟩ : ∃ R, R = aftP p (inQ p a b) (inE p a b) := ⟨_, rfl⟩
  have HA : Hid (∀ (w1 : World) (zg dg tg : Nat) (_ : Has w1 zg 3 #[.int .i64 a]) (_ : Has w1 dg 3 #[.int .i64 b]) (_ : Has w1 tg 86 (pcells p)), Calls Try.prog 66 #[p.V, .func (.func 67) #[] #[.pointer (some ⟨zg, 0, none⟩), .pointer (some ⟨dg, 0, none⟩), .pointer (some ⟨tg, 0, none⟩)]] w1 fun e w' => e = .returned (.tuple #[R.V, .int .i64 E]) ∧ New w1 w') := fun w1 zg dg tg hzg hdg ht => by
    rw [hE, hR]
    exact afterIn_any p (inQ p a b) (kinds hp).2.2.2 rfl _ _ _ _ w1 (inChange p hp a b zg dg tg w1 hzg hdg ht)
  rw [← hE, ← hR]
  clear hE hR hp
  obtain ⟨x0, x1, x2, x3, x4, x5, x6, x7, x8, x9, x10, x11, x12, x13⟩ := p
  have HA : Hid (∀ (w1 : World) (zg dg tg : Nat) (_ : Has w1 zg 3 #[.int .i64 a]) (_ : Has w1 dg 3 #[.int .i64 b]) (_ : Has w1 tg 86 #[.int .i64 x0, .int .i64 x1, .int .i64 x2, .int .i64 x3, .int .i64 x4, .int .i64 x5, .int .i64 x6, .int .i64 x7, .bool x8, .int .i64 x9, .int .i64 x10, .int .i64 x11, .int .i64 x12, .bool x13]), Calls Try.prog 66 #[.agg #[.int .i64 x0, .int .i64 x1, .int .i64 x2, .int .i64 x3, .int .i64 x4, .int .i64 x5, .int .i64 x6, .int .i64 x7, .bool x8, .int .i64 x9, .int .i64 x10, .int .i64 x11, .int .i64 x12, .bool x13], .func (.func 67) #[] #[.pointer (some ⟨zg, 0, none⟩), .pointer (some ⟨dg, 0, none⟩), .pointer (some ⟨tg, 0, none⟩)]] w1 fun e w' => e = .returned (.tuple #[R.V, .int .i64 E]) ∧ New w1 w') := HA.out
  go_enter Try.func31, Try.ntmps31
  have HT0 : Hid (Has ((((w.alloc (.cells #[.int .i64 x0, .int .i64 x1, .int .i64 x2, .int .i64 x3, .int .i64 x4, .int .i64 x5, .int .i64 x6, .int .i64 x7, .bool x8, .int .i64 x9, .int .i64 x10, .int .i64 x11, .int .i64 x12, .bool x13] 86)).alloc (.cells #[.int .i64 a] 3)).alloc (.cells #[.int .i64 b] 3)).alloc (.cells #[.int .i64 0, .int .i64 0, .int .i64 0, .int .i64 0, .int .i64 0, .int .i64 0, .int .i64 0, .int .i64 0, .bool false, .int .i64 0, .int .i64 0, .int .i64 0, .int .i64 0, .bool false] 86)) w.heap.size 86 #[.int .i64 x0, .int .i64 x1, .int .i64 x2, .int .i64 x3, .int .i64 x4, .int .i64 x5, .int .i64 x6, .int .i64 x7, .bool x8, .int .i64 x9, .int .i64 x10, .int .i64 x11, .int .i64 x12, .bool x13]) := ((((Has.new w 86 _).alloc _).alloc _).alloc _)
  have Hzg0 : Hid (Has ((((w.alloc (.cells #[.int .i64 x0, .int .i64 x1, .int .i64 x2, .int .i64 x3, .int .i64 x4, .int .i64 x5, .int .i64 x6, .int .i64 x7, .bool x8, .int .i64 x9, .int .i64 x10, .int .i64 x11, .int .i64 x12, .bool x13] 86)).alloc (.cells #[.int .i64 a] 3)).alloc (.cells #[.int .i64 b] 3)).alloc (.cells #[.int .i64 0, .int .i64 0, .int .i64 0, .int .i64 0, .int .i64 0, .int .i64 0, .int .i64 0, .int .i64 0, .bool false, .int .i64 0, .int .i64 0, .int .i64 0, .int .i64 0, .bool false] 86)) (w.heap.size + 1) 3 #[.int .i64 a]) := (((Has.new_at (w.alloc (.cells #[.int .i64 x0, .int .i64 x1, .int .i64 x2, .int .i64 x3, .int .i64 x4, .int .i64 x5, .int .i64 x6, .int .i64 x7, .bool x8, .int .i64 x9, .int .i64 x10, .int .i64 x11, .int .i64 x12, .bool x13] 86)) 3 _ _ (by simp)).alloc _).alloc _)
  have Hdg0 : Hid (Has ((((w.alloc (.cells #[.int .i64 x0, .int .i64 x1, .int .i64 x2, .int .i64 x3, .int .i64 x4, .int .i64 x5, .int .i64 x6, .int .i64 x7, .bool x8, .int .i64 x9, .int .i64 x10, .int .i64 x11, .int .i64 x12, .bool x13] 86)).alloc (.cells #[.int .i64 a] 3)).alloc (.cells #[.int .i64 b] 3)).alloc (.cells #[.int .i64 0, .int .i64 0, .int .i64 0, .int .i64 0, .int .i64 0, .int .i64 0, .int .i64 0, .int .i64 0, .bool false, .int .i64 0, .int .i64 0, .int .i64 0, .int .i64 0, .bool false] 86)) (w.heap.size + 2) 3 #[.int .i64 b]) := ((Has.new_at ((w.alloc (.cells #[.int .i64 x0, .int .i64 x1, .int .i64 x2, .int .i64 x3, .int .i64 x4, .int .i64 x5, .int .i64 x6, .int .i64 x7, .bool x8, .int .i64 x9, .int .i64 x10, .int .i64 x11, .int .i64 x12, .bool x13] 86)).alloc (.cells #[.int .i64 a] 3)) 3 _ _ (by simp)).alloc _)
  have HB0 : Hid (Has ((((w.alloc (.cells #[.int .i64 x0, .int .i64 x1, .int .i64 x2, .int .i64 x3, .int .i64 x4, .int .i64 x5, .int .i64 x6, .int .i64 x7, .bool x8, .int .i64 x9, .int .i64 x10, .int .i64 x11, .int .i64 x12, .bool x13] 86)).alloc (.cells #[.int .i64 a] 3)).alloc (.cells #[.int .i64 b] 3)).alloc (.cells #[.int .i64 0, .int .i64 0, .int .i64 0, .int .i64 0, .int .i64 0, .int .i64 0, .int .i64 0, .int .i64 0, .bool false, .int .i64 0, .int .i64 0, .int .i64 0, .int .i64 0, .bool false] 86)) (w.heap.size + 3) 86 #[.int .i64 0, .int .i64 0, .int .i64 0, .int .i64 0, .int .i64 0, .int .i64 0, .int .i64 0, .int .i64 0, .bool false, .int .i64 0, .int .i64 0, .int .i64 0, .int .i64 0, .bool false]) := Has.new_at _ _ _ _ (by simp)
  have HN0 : Hid (New w ((((w.alloc (.cells #[.int .i64 x0, .int .i64 x1, .int .i64 x2, .int .i64 x3, .int .i64 x4, .int .i64 x5, .int .i64 x6, .int .i64 x7, .bool x8, .int .i64 x9, .int .i64 x10, .int .i64 x11, .int .i64 x12, .bool x13] 86)).alloc (.cells #[.int .i64 a] 3)).alloc (.cells #[.int .i64 b] 3)).alloc (.cells #[.int .i64 0, .int .i64 0, .int .i64 0, .int .i64 0, .int .i64 0, .int .i64 0, .int .i64 0, .int .i64 0, .bool false, .int .i64 0, .int .i64 0, .int .i64 0, .int .i64 0, .bool false] 86))) := ((((Chg.refl _ _).alloc _).alloc _).alloc _).alloc _
  go_upto_region 1 with (fail)
  have HT1 := HT0
  have Hzg1 := Hzg0
  have Hdg1 := Hdg0
  have HB1 := HB0
  have HN1 := HN0
  obtain ⟨w1, hw1⟩ : ∃ w1, w1 = ((((w.alloc (.cells #[.int .i64 x0, .int .i64 x1, .int .i64 x2, .int .i64 x3, .int .i64 x4, .int .i64 x5, .int .i64 x6, .int .i64 x7, .bool x8, .int .i64 x9, .int .i64 x10, .int .i64 x11, .int .i64 x12, .bool x13] 86)).alloc (.cells #[.int .i64 a] 3)).alloc (.cells #[.int .i64 b] 3)).alloc (.cells #[.int .i64 0, .int .i64 0, .int .i64 0, .int .i64 0, .int .i64 0, .int .i64 0, .int .i64 0, .int .i64 0, .bool false, .int .i64 0, .int .i64 0, .int .i64 0, .int .i64 0, .bool false] 86)) := ⟨_, rfl⟩
  obtain ⟨rb, hrb⟩ : ∃ rb, rb = w.heap.size + 3 := ⟨_, rfl⟩
  obtain ⟨tg, htg⟩ : ∃ tg, tg = w.heap.size := ⟨_, rfl⟩
  obtain ⟨zg, hzg⟩ : ∃ g, g = w.heap.size + 1 := ⟨_, rfl⟩
  obtain ⟨dg, hdg⟩ : ∃ g, g = w.heap.size + 2 := ⟨_, rfl⟩
  skip
  rw [← hw1, ← htg] at HT1
  rw [← hw1, ← hrb] at HB1
  rw [← hw1, ← hzg] at Hzg1
  rw [← hw1, ← hdg] at Hdg1
  skip
  rw [← hw1] at HN1 ⊢
  rw [← hrb, ← hdg, ← hzg, ← htg]
  skip
  have Hrb : Hid (w.heap.size < rb) := by rw [Hid, hrb]; omega
  clear hw1 hrb htg hzg hdg  HT0 HB0 HN0 Hzg0 Hdg0
  have k0 : w1.cell? ⟨tg, 0, none⟩ = some (.int .i64 x0) := (HT1.out.cell 0).trans rfl
  have k1 : w1.cell? ⟨tg, 1, none⟩ = some (.int .i64 x1) := (HT1.out.cell 1).trans rfl
  have k2 : w1.cell? ⟨tg, 2, none⟩ = some (.int .i64 x2) := (HT1.out.cell 2).trans rfl
  have k3 : w1.cell? ⟨tg, 3, none⟩ = some (.int .i64 x3) := (HT1.out.cell 3).trans rfl
  have k4 : w1.cell? ⟨tg, 4, none⟩ = some (.int .i64 x4) := (HT1.out.cell 4).trans rfl
  have k5 : w1.cell? ⟨tg, 5, none⟩ = some (.int .i64 x5) := (HT1.out.cell 5).trans rfl
  have k6 : w1.cell? ⟨tg, 6, none⟩ = some (.int .i64 x6) := (HT1.out.cell 6).trans rfl
  have k7 : w1.cell? ⟨tg, 7, none⟩ = some (.int .i64 x7) := (HT1.out.cell 7).trans rfl
  have k8 : w1.cell? ⟨tg, 8, none⟩ = some (.bool x8) := (HT1.out.cell 8).trans rfl
  have k9 : w1.cell? ⟨tg, 9, none⟩ = some (.int .i64 x9) := (HT1.out.cell 9).trans rfl
  have k10 : w1.cell? ⟨tg, 10, none⟩ = some (.int .i64 x10) := (HT1.out.cell 10).trans rfl
  have k11 : w1.cell? ⟨tg, 11, none⟩ = some (.int .i64 x11) := (HT1.out.cell 11).trans rfl
  have k12 : w1.cell? ⟨tg, 12, none⟩ = some (.int .i64 x12) := (HT1.out.cell 12).trans rfl
  have k13 : w1.cell? ⟨tg, 13, none⟩ = some (.bool x13) := (HT1.out.cell 13).trans rfl
  go_wp2_with fail
  with_reducible refine (HA.out w1 zg dg tg Hzg1.out Hdg1.out HT1.out).mono ?_
  rintro e w2 ⟨rfl, hN⟩
  have HB2 := Lib.hid (HB1.out.keep hN)
  have HN2 := Lib.hid (HN1.out.then_new hN)
  clear hN k0 k1 k2 k3 k4 k5 k6 k7 k8 k9 k10 k11 k12 k13 HA HB1 HN1 HT1
  go_wp2_with (first
    | (refine wpList_store_th rfl (.tmp 6) (.tmp 11) rfl rb R _ rfl rfl HB2.out rfl ?_
       intro wX hX hCX
       have HX := Lib.hid hX
       have HNX := Lib.hid (HN2.out.trans hCX (fun i hi h => by have := Hrb.out; omega))
       clear hX hCX)
    | fail)
  have g0 : wX.cell? ⟨rb, 0, none⟩ = some (.int .i64 R.x0) := (HX.out.cell 0).trans rfl
  have g1 : wX.cell? ⟨rb, 1, none⟩ = some (.int .i64 R.x1) := (HX.out.cell 1).trans rfl
  have g2 : wX.cell? ⟨rb, 2, none⟩ = some (.int .i64 R.x2) := (HX.out.cell 2).trans rfl
  have g3 : wX.cell? ⟨rb, 3, none⟩ = some (.int .i64 R.x3) := (HX.out.cell 3).trans rfl
  have g4 : wX.cell? ⟨rb, 4, none⟩ = some (.int .i64 R.x4) := (HX.out.cell 4).trans rfl
  have g5 : wX.cell? ⟨rb, 5, none⟩ = some (.int .i64 R.x5) := (HX.out.cell 5).trans rfl
  have g6 : wX.cell? ⟨rb, 6, none⟩ = some (.int .i64 R.x6) := (HX.out.cell 6).trans rfl
  have g7 : wX.cell? ⟨rb, 7, none⟩ = some (.int .i64 R.x7) := (HX.out.cell 7).trans rfl
  have g8 : wX.cell? ⟨rb, 8, none⟩ = some (.bool R.x8) := (HX.out.cell 8).trans rfl
  have g9 : wX.cell? ⟨rb, 9, none⟩ = some (.int .i64 R.x9) := (HX.out.cell 9).trans rfl
  have g10 : wX.cell? ⟨rb, 10, none⟩ = some (.int .i64 R.x10) := (HX.out.cell 10).trans rfl
  have g11 : wX.cell? ⟨rb, 11, none⟩ = some (.int .i64 R.x11) := (HX.out.cell 11).trans rfl
  have g12 : wX.cell? ⟨rb, 12, none⟩ = some (.int .i64 R.x12) := (HX.out.cell 12).trans rfl
  have g13 : wX.cell? ⟨rb, 13, none⟩ = some (.bool R.x13) := (HX.out.cell 13).trans rfl
  refine bodyPost_ret (v := .tuple #[.agg #[.int .i64 R.x0, .int .i64 R.x1, .int .i64 R.x2, .int .i64 R.x3, .int .i64 R.x4, .int .i64 R.x5, .int .i64 R.x6, .int .i64 R.x7, .bool R.x8, .int .i64 R.x9, .int .i64 R.x10, .int .i64 R.x11, .int .i64 R.x12, .bool R.x13], .int .i64 E]) (by simp [results, Try.results31, go_sem, g0, g1, g2, g3, g4, g5, g6, g7, g8, g9, g10, g11, g12, g13]) rfl ?_
  exact ⟨rfl, HNX.out⟩
set_option maxRecDepth 100000 in
set_option maxHeartbeats 4000000 in
theorem Out_any (p : Pd) (hp : RightN p.ns) (a : Int) (w : World) : Calls Try.prog 32 #[p.V, .int .i64 a] w fun e w' => e = .returned (.tuple #[(aftP p (outQ p a) (outE p a)).V, .int .i64 (aftE p (outE p a))]) ∧ New w w' := by
  obtain ⟨E, hE⟩ : ∃ E, E = aftE p (outE p a) := ⟨_, rfl⟩
  obtain ⟨R, hR⟩ : ∃ R, R = aftP p (outQ p a) (outE p a) := ⟨_, rfl⟩
  have HA : Hid (∀ (w1 : World) (fg tg : Nat) (_ : Has w1 fg 3 #[.int .i64 a]) (_ : Has w1 tg 86 (pcells p)), Calls Try.prog 66 #[p.V, .func (.func 69) #[] #[.pointer (some ⟨fg, 0, none⟩), .pointer (some ⟨tg, 0, none⟩)]] w1 fun e w' => e = .returned (.tuple #[R.V, .int .i64 E]) ∧ New w1 w') := fun w1 fg tg hfg ht => by
    rw [hE, hR]
    exact afterOut_any p (outQ p a) (kinds hp).2.2.2 rfl _ _ _ w1 (outChange p hp a fg tg w1 hfg ht)
  rw [← hE, ← hR]
  clear hE hR hp
  obtain ⟨x0, x1, x2, x3, x4, x5, x6, x7, x8, x9, x10, x11, x12, x13⟩ := p
  have HA : Hid (∀ (w1 : World) (fg tg : Nat) (_ : Has w1 fg 3 #[.int .i64 a]) (_ : Has w1 tg 86 #[.int .i64 x0, .int .i64 x1, .int .i64 x2, .int .i64 x3, .int .i64 x4, .int .i64 x5, .int .i64 x6, .int .i64 x7, .bool x8, .int .i64 x9, .int .i64 x10, .int .i64 x11, .int .i64 x12, .bool x13]), Calls Try.prog 66 #[.agg #[.int .i64 x0, .int .i64 x1, .int .i64 x2, .int .i64 x3, .int .i64 x4, .int .i64 x5, .int .i64 x6, .int .i64 x7, .bool x8, .int .i64 x9, .int .i64 x10, .int .i64 x11, .int .i64 x12, .bool x13], .func (.func 69) #[] #[.pointer (some ⟨fg, 0, none⟩), .pointer (some ⟨tg, 0, none⟩)]] w1 fun e w' => e = .returned (.tuple #[R.V, .int .i64 E]) ∧ New w1 w') := HA.out
  go_enter Try.func32, Try.ntmps32
  have HT0 : Hid (Has (((w.alloc (.cells #[.int .i64 x0, .int .i64 x1, .int .i64 x2, .int .i64 x3, .int .i64 x4, .int .i64 x5, .int .i64 x6, .int .i64 x7, .bool x8, .int .i64 x9, .int .i64 x10, .int .i64 x11, .int .i64 x12, .bool x13] 86)).alloc (.cells #[.int .i64 a] 3)).alloc (.cells #[.int .i64 0, .int .i64 0, .int .i64 0, .int .i64 0, .int .i64 0, .int .i64 0, .int .i64 0, .int .i64 0, .bool false, .int .i64 0, .int .i64 0, .int .i64 0, .int .i64 0, .bool false] 86)) w.heap.size 86 #[.int .i64 x0, .int .i64 x1, .int .i64 x2, .int .i64 x3, .int .i64 x4, .int .i64 x5, .int .i64 x6, .int .i64 x7, .bool x8, .int .i64 x9, .int .i64 x10, .int .i64 x11, .int .i64 x12, .bool x13]) := (((Has.new w 86 _).alloc _).alloc _)
  have Hfg0 : Hid (Has (((w.alloc (.cells #[.int .i64 x0, .int .i64 x1, .int .i64 x2, .int .i64 x3, .int .i64 x4, .int .i64 x5, .int .i64 x6, .int .i64 x7, .bool x8, .int .i64 x9, .int .i64 x10, .int .i64 x11, .int .i64 x12, .bool x13] 86)).alloc (.cells #[.int .i64 a] 3)).alloc (.cells #[.int .i64 0, .int .i64 0, .int .i64 0, .int .i64 0, .int .i64 0, .int .i64 0, .int .i64 0, .int .i64 0, .bool false, .int .i64 0, .int .i64 0, .int .i64 0, .int .i64 0, .bool false] 86)) (w.heap.size + 1) 3 #[.int .i64 a]) := ((Has.new_at (w.alloc (.cells #[.int .i64 x0, .int .i64 x1, .int .i64 x2, .int .i64 x3, .int .i64 x4, .int .i64 x5, .int .i64 x6, .int .i64 x7, .bool x8, .int .i64 x9, .int .i64 x10, .int .i64 x11, .int .i64 x12, .bool x13] 86)) 3 _ _ (by simp)).alloc _)
  have HB0 : Hid (Has (((w.alloc (.cells #[.int .i64 x0, .int .i64 x1, .int .i64 x2, .int .i64 x3, .int .i64 x4, .int .i64 x5, .int .i64 x6, .int .i64 x7, .bool x8, .int .i64 x9, .int .i64 x10, .int .i64 x11, .int .i64 x12, .bool x13] 86)).alloc (.cells #[.int .i64 a] 3)).alloc (.cells #[.int .i64 0, .int .i64 0, .int .i64 0, .int .i64 0, .int .i64 0, .int .i64 0, .int .i64 0, .int .i64 0, .bool false, .int .i64 0, .int .i64 0, .int .i64 0, .int .i64 0, .bool false] 86)) (w.heap.size + 2) 86 #[.int .i64 0, .int .i64 0, .int .i64 0, .int .i64 0, .int .i64 0, .int .i64 0, .int .i64 0, .int .i64 0, .bool false, .int .i64 0, .int .i64 0, .int .i64 0, .int .i64 0, .bool false]) := Has.new_at _ _ _ _ (by simp)
  have HN0 : Hid (New w (((w.alloc (.cells #[.int .i64 x0, .int .i64 x1, .int .i64 x2, .int .i64 x3, .int .i64 x4, .int .i64 x5, .int .i64 x6, .int .i64 x7, .bool x8, .int .i64 x9, .int .i64 x10, .int .i64 x11, .int .i64 x12, .bool x13] 86)).alloc (.cells #[.int .i64 a] 3)).alloc (.cells #[.int .i64 0, .int .i64 0, .int .i64 0, .int .i64 0, .int .i64 0, .int .i64 0, .int .i64 0, .int .i64 0, .bool false, .int .i64 0, .int .i64 0, .int .i64 0, .int .i64 0, .bool false] 86))) := (((Chg.refl _ _).alloc _).alloc _).alloc _
  go_upto_region 1 with (fail)
  have HT1 := HT0
  have Hfg1 := Hfg0
  have HB1 := HB0
  have HN1 := HN0
  obtain ⟨w1, hw1⟩ : ∃ w1, w1 = (((w.alloc (.cells #[.int .i64 x0, .int .i64 x1, .int .i64 x2, .int .i64 x3, .int .i64 x4, .int .i64 x5, .int .i64 x6, .int .i64 x7, .bool x8, .int .i64 x9, .int .i64 x10, .int .i64 x11, .int .i64 x12, .bool x13] 86)).alloc (.cells #[.int .i64 a] 3)).alloc (.cells #[.int .i64 0, .int .i64 0, .int .i64 0, .int .i64 0, .int .i64 0, .int .i64 0, .int .i64 0, .int .i64 0, .bool false, .int .i64 0, .int .i64 0, .int .i64 0, .int .i64 0, .bool false] 86)) := ⟨_, rfl⟩
  obtain ⟨rb, hrb⟩ : ∃ rb, rb = w.heap.size + 2 := ⟨_, rfl⟩
  obtain ⟨tg, htg⟩ : ∃ tg, tg = w.heap.size := ⟨_, rfl⟩
  obtain ⟨fg, hfg⟩ : ∃ g, g = w.heap.size + 1 := ⟨_, rfl⟩
  skip
  rw [← hw1, ← htg] at HT1
  rw [← hw1, ← hrb] at HB1
  rw [← hw1, ← hfg] at Hfg1
  skip
  rw [← hw1] at HN1 ⊢
  rw [← hrb, ← hfg, ← htg]
  skip
  have Hrb : Hid (w.heap.size < rb) := by rw [Hid, hrb]; omega
  clear hw1 hrb htg hfg  HT0 HB0 HN0 Hfg0
  have k0 : w1.cell? ⟨tg, 0, none⟩ = some (.int .i64 x0) := (HT1.out.cell 0).trans rfl
  have k1 : w1.cell? ⟨tg, 1, none⟩ = some (.int .i64 x1) := (HT1.out.cell 1).trans rfl
  have k2 : w1.cell? ⟨tg, 2, none⟩ = some (.int .i64 x2) := (HT1.out.cell 2).trans rfl
  have k3 : w1.cell? ⟨tg, 3, none⟩ = some (.int .i64 x3) := (HT1.out.cell 3).trans rfl
  have k4 : w1.cell? ⟨tg, 4, none⟩ = some (.int .i64 x4) := (HT1.out.cell 4).trans rfl
  have k5 : w1.cell? ⟨tg, 5, none⟩ = some (.int .i64 x5) := (HT1.out.cell 5).trans rfl
  have k6 : w1.cell? ⟨tg, 6, none⟩ = some (.int .i64 x6) := (HT1.out.cell 6).trans rfl
  have k7 : w1.cell? ⟨tg, 7, none⟩ = some (.int .i64 x7) := (HT1.out.cell 7).trans rfl
  have k8 : w1.cell? ⟨tg, 8, none⟩ = some (.bool x8) := (HT1.out.cell 8).trans rfl
  have k9 : w1.cell? ⟨tg, 9, none⟩ = some (.int .i64 x9) := (HT1.out.cell 9).trans rfl
  have k10 : w1.cell? ⟨tg, 10, none⟩ = some (.int .i64 x10) := (HT1.out.cell 10).trans rfl
  have k11 : w1.cell? ⟨tg, 11, none⟩ = some (.int .i64 x11) := (HT1.out.cell 11).trans rfl
  have k12 : w1.cell? ⟨tg, 12, none⟩ = some (.int .i64 x12) := (HT1.out.cell 12).trans rfl
  have k13 : w1.cell? ⟨tg, 13, none⟩ = some (.bool x13) := (HT1.out.cell 13).trans rfl
  go_wp2_with fail
  with_reducible refine (HA.out w1 fg tg Hfg1.out HT1.out).mono ?_
  rintro e w2 ⟨rfl, hN⟩
  have HB2 := Lib.hid (HB1.out.keep hN)
  have HN2 := Lib.hid (HN1.out.then_new hN)
  clear hN k0 k1 k2 k3 k4 k5 k6 k7 k8 k9 k10 k11 k12 k13 HA HB1 HN1 HT1
  go_wp2_with (first
    | (refine wpList_store_th rfl (.tmp 4) (.tmp 9) rfl rb R _ rfl rfl HB2.out rfl ?_
       intro wX hX hCX
       have HX := Lib.hid hX
       have HNX := Lib.hid (HN2.out.trans hCX (fun i hi h => by have := Hrb.out; omega))
       clear hX hCX)
    | fail)
  have g0 : wX.cell? ⟨rb, 0, none⟩ = some (.int .i64 R.x0) := (HX.out.cell 0).trans rfl
  have g1 : wX.cell? ⟨rb, 1, none⟩ = some (.int .i64 R.x1) := (HX.out.cell 1).trans rfl
  have g2 : wX.cell? ⟨rb, 2, none⟩ = some (.int .i64 R.x2) := (HX.out.cell 2).trans rfl
  have g3 : wX.cell? ⟨rb, 3, none⟩ = some (.int .i64 R.x3) := (HX.out.cell 3).trans rfl
  have g4 : wX.cell? ⟨rb, 4, none⟩ = some (.int .i64 R.x4) := (HX.out.cell 4).trans rfl
  have g5 : wX.cell? ⟨rb, 5, none⟩ = some (.int .i64 R.x5) := (HX.out.cell 5).trans rfl
  have g6 : wX.cell? ⟨rb, 6, none⟩ = some (.int .i64 R.x6) := (HX.out.cell 6).trans rfl
  have g7 : wX.cell? ⟨rb, 7, none⟩ = some (.int .i64 R.x7) := (HX.out.cell 7).trans rfl
  have g8 : wX.cell? ⟨rb, 8, none⟩ = some (.bool R.x8) := (HX.out.cell 8).trans rfl
  have g9 : wX.cell? ⟨rb, 9, none⟩ = some (.int .i64 R.x9) := (HX.out.cell 9).trans rfl
  have g10 : wX.cell? ⟨rb, 10, none⟩ = some (.int .i64 R.x10) := (HX.out.cell 10).trans rfl
  have g11 : wX.cell? ⟨rb, 11, none⟩ = some (.int .i64 R.x11) := (HX.out.cell 11).trans rfl
  have g12 : wX.cell? ⟨rb, 12, none⟩ = some (.int .i64 R.x12) := (HX.out.cell 12).trans rfl
  have g13 : wX.cell? ⟨rb, 13, none⟩ = some (.bool R.x13) := (HX.out.cell 13).trans rfl
  refine bodyPost_ret (v := .tuple #[.agg #[.int .i64 R.x0, .int .i64 R.x1, .int .i64 R.x2, .int .i64 R.x3, .int .i64 R.x4, .int .i64 R.x5, .int .i64 R.x6, .int .i64 R.x7, .bool R.x8, .int .i64 R.x9, .int .i64 R.x10, .int .i64 R.x11, .int .i64 R.x12, .bool R.x13], .int .i64 E]) (by simp [results, Try.results32, go_sem, g0, g1, g2, g3, g4, g5, g6, g7, g8, g9, g10, g11, g12, g13]) rfl ?_
  exact ⟨rfl, HNX.out⟩
def Pd.blk (p : Pd) : Pd := ⟨p.x0, p.x1, p.x2, p.x3, p.x4, p.x5, p.x6, p.x7, p.x8, p.x9, p.x10, p.x11, p.x12, true⟩
end Go.Proofs.Ytkcokcanakljnaa
