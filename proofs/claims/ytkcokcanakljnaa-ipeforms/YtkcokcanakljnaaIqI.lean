/-
  Package ipe's Thing: a thing after a change.
-/
import Derived.Test.YtkcokcanakljnaaIqA
import Derived.Test.YtkcokcanakljnaaIpP
namespace Go.Proofs.Ytkcokcanakljnaa
open Go.RowKit
theorem Try.infoTh : (Try.prog.info? 86).map (·.size) = some 14 := by kernel_rfl
/-- a whole thing stored into a box -/
theorem wpList_store_th {w : World} {ops : Array Oper} {rest : List Oper} {o : Oper} {a : Act} {Q : Exit → Act → World → Prop} (hgd : o.guard = none) (x y : Operand) (ho : o.op = .store 86 x y) (g : Nat) (p : Pd) (old : Array Value)
    (hx : a.eval x = .pointer (some ⟨g, 0, none⟩)) (hy : a.eval y = p.V) (hg : Has w g 86 old) (hold : old.size = 14) (h : ∀ w', Has w' g 86 (pcells p) → Chg (· = g) w w' → wpList Try.prog ops Q rest (a.put o.dst undef) w') : wpList Try.prog ops Q (o :: rest) a w := by
  refine wpList_store_row hgd 86 x y ho g (pcells p) hx hy 86 old hg Try.infoTh hold (by simp [pcells, Value.oneCell']) (h _ (setRow_heap w g old _ _ _ hg) ?_)
  exact ⟨rfl, rfl, rfl, by simp, fun k _ hk => setRow_other w g k _ hk⟩
def aftE (p : Pd) (ce : Int) : Int := if p.x13 = true then 25 else if ¬ ce = 0 then ce else if p.x11 = 65535 then 29 else 0
def aftP (p q : Pd) (ce : Int) : Pd := if aftE p ce = 0 then ⟨q.x0, q.x1, q.x2, q.x3, q.x4, q.x5, q.x6, q.x7, q.x8, q.x9, q.x10, p.x11 + 1, q.x12, q.x13⟩ else pz
/-- what a change does with the box nb that holds p: it makes it q, or answers an error -/
def ChangeIn (w : World) (c0 c1 c2 : Value) (p q : Pd) (ce : Int) : Prop := ∀ (nb : Nat) (wx : World), w.heap.size ≤ nb → New w wx → Has wx nb 86 (pcells p) → Calls Try.prog 67 #[.pointer (some ⟨nb, 0, none⟩), c0, c1, c2] wx fun e w' => e = .returned (.int .i64 ce) ∧ (ce = 0 → Has w' nb 86 (pcells q)) ∧ Chg (· = nb) wx w'
set_option maxRecDepth 100000 in
set_option maxHeartbeats 4000000 in
theorem afterIn_any (p q : Pd) (hx : 0 ≤ p.x11 ∧ p.x11 ≤ 65535) (hq : q.x11 = p.x11) (ce : Int) (c0 c1 c2 : Value) (w : World) (hC : ChangeIn w c0 c1 c2 p q ce) :
    Calls Try.prog 66 #[p.V, .func (.func 67) #[] #[c0, c1, c2]] w fun e w' => e = .returned (.tuple #[(aftP p q ce).V, .int .i64 (aftE p ce)]) ∧ New w w' := by
  have HC := Lib.hid hC; clear hC
  obtain ⟨E, hE⟩ : ∃ E, E = aftE p ce := ⟨_, rfl⟩
  obtain ⟨R, hR⟩ : ∃ R, R = aftP p q ce := ⟨_, rfl⟩
  rw [← hE, ← hR]
  unfold aftP at hR
  rw [← hE] at hR
  unfold aftE at hE
  obtain ⟨x0, x1, x2, x3, x4, x5, x6, x7, x8, x9, x10, x11, x12, x13⟩ := p
  obtain ⟨y0, y1, y2, y3, y4, y5, y6, y7, y8, y9, y10, y11, y12, y13⟩ := q
  dsimp only at hx hq hE hR
  replace hq := hq.symm
  subst hq
  have HC : Hid (∀ (nb : Nat) (wx : World), w.heap.size ≤ nb → New w wx → Has wx nb 86 #[.int .i64 x0, .int .i64 x1, .int .i64 x2, .int .i64 x3, .int .i64 x4, .int .i64 x5, .int .i64 x6, .int .i64 x7, .bool x8, .int .i64 x9, .int .i64 x10, .int .i64 x11, .int .i64 x12, .bool x13] → Calls Try.prog 67 #[.pointer (some ⟨nb, 0, none⟩), c0, c1, c2] wx fun e w' => e = .returned (.int .i64 ce) ∧ (ce = 0 → Has w' nb 86 #[.int .i64 y0, .int .i64 y1, .int .i64 y2, .int .i64 y3, .int .i64 y4, .int .i64 y5, .int .i64 y6, .int .i64 y7, .bool y8, .int .i64 y9, .int .i64 y10, .int .i64 x11, .int .i64 y12, .bool y13]) ∧ Chg (· = nb) wx w') := HC.out
  have Hx := Lib.hid hx; clear hx
  go_enter Try.func66, Try.ntmps66
  go_upto_region 1 with (fail)
  obtain ⟨tb, htb⟩ : ∃ tb, tb = w.heap.size := ⟨_, rfl⟩
  obtain ⟨rb, hrb⟩ : ∃ rb, rb = w.heap.size + 1 := ⟨_, rfl⟩
  obtain ⟨w1, hw1⟩ : ∃ w1, w1 = (w.alloc (.cells #[.int .i64 x0, .int .i64 x1, .int .i64 x2, .int .i64 x3, .int .i64 x4, .int .i64 x5, .int .i64 x6, .int .i64 x7, .bool x8, .int .i64 x9, .int .i64 x10, .int .i64 x11, .int .i64 x12, .bool x13] 86)).alloc (.cells #[.int .i64 0, .int .i64 0, .int .i64 0, .int .i64 0, .int .i64 0, .int .i64 0, .int .i64 0, .int .i64 0, .bool false, .int .i64 0, .int .i64 0, .int .i64 0, .int .i64 0, .bool false] 86) := ⟨_, rfl⟩
  have HT : Hid (Has w1 tb 86 #[.int .i64 x0, .int .i64 x1, .int .i64 x2, .int .i64 x3, .int .i64 x4, .int .i64 x5, .int .i64 x6, .int .i64 x7, .bool x8, .int .i64 x9, .int .i64 x10, .int .i64 x11, .int .i64 x12, .bool x13]) := by rw [hw1, htb]; exact (Has.new _ _ _).alloc _
  have HB : Hid (Has w1 rb 86 #[.int .i64 0, .int .i64 0, .int .i64 0, .int .i64 0, .int .i64 0, .int .i64 0, .int .i64 0, .int .i64 0, .bool false, .int .i64 0, .int .i64 0, .int .i64 0, .int .i64 0, .bool false]) := by rw [hw1, hrb]; exact Has.new_at _ _ _ _ (by simp)
  have HN : Hid (New w w1) := by rw [hw1]; exact ((Chg.refl _ _).alloc _).alloc _
  have Hrb : Hid (rb = w.heap.size + 1) := hrb
  have Htb : Hid (tb = w.heap.size) := htb
  rw [← hw1, ← hrb, ← htb]
  clear hw1 hrb htb
  have k0 : w1.cell? ⟨tb, 0, none⟩ = some (.int .i64 x0) := (HT.out.cell 0).trans rfl
  have k1 : w1.cell? ⟨tb, 1, none⟩ = some (.int .i64 x1) := (HT.out.cell 1).trans rfl
  have k2 : w1.cell? ⟨tb, 2, none⟩ = some (.int .i64 x2) := (HT.out.cell 2).trans rfl
  have k3 : w1.cell? ⟨tb, 3, none⟩ = some (.int .i64 x3) := (HT.out.cell 3).trans rfl
  have k4 : w1.cell? ⟨tb, 4, none⟩ = some (.int .i64 x4) := (HT.out.cell 4).trans rfl
  have k5 : w1.cell? ⟨tb, 5, none⟩ = some (.int .i64 x5) := (HT.out.cell 5).trans rfl
  have k6 : w1.cell? ⟨tb, 6, none⟩ = some (.int .i64 x6) := (HT.out.cell 6).trans rfl
  have k7 : w1.cell? ⟨tb, 7, none⟩ = some (.int .i64 x7) := (HT.out.cell 7).trans rfl
  have k8 : w1.cell? ⟨tb, 8, none⟩ = some (.bool x8) := (HT.out.cell 8).trans rfl
  have k9 : w1.cell? ⟨tb, 9, none⟩ = some (.int .i64 x9) := (HT.out.cell 9).trans rfl
  have k10 : w1.cell? ⟨tb, 10, none⟩ = some (.int .i64 x10) := (HT.out.cell 10).trans rfl
  have k11 : w1.cell? ⟨tb, 11, none⟩ = some (.int .i64 x11) := (HT.out.cell 11).trans rfl
  have k12 : w1.cell? ⟨tb, 12, none⟩ = some (.int .i64 x12) := (HT.out.cell 12).trans rfl
  have k13 : w1.cell? ⟨tb, 13, none⟩ = some (.bool x13) := (HT.out.cell 13).trans rfl
  by_cases c1 : x13 = true
  · subst c1
    rw [if_pos rfl] at hE
    subst hE
    rw [if_neg (by decide)] at hR
    have HR := Lib.hid hR
    clear hR
    go_wp2_with (first
      | (refine wpList_store_th rfl (.tmp 4) (.tmp 11) rfl rb pz _ rfl rfl HB.out rfl ?_
         intro wX hX hCX
         have HX := Lib.hid hX
         have HNX := Lib.hid (HN.out.trans hCX (fun i hi h => by rw [h, Hrb.out] at hi; omega))
         clear hX hCX)
      | fail)
    have g0 : wX.cell? ⟨rb, 0, none⟩ = some (.int .i64 pz.x0) := (HX.out.cell 0).trans rfl
    have g1 : wX.cell? ⟨rb, 1, none⟩ = some (.int .i64 pz.x1) := (HX.out.cell 1).trans rfl
    have g2 : wX.cell? ⟨rb, 2, none⟩ = some (.int .i64 pz.x2) := (HX.out.cell 2).trans rfl
    have g3 : wX.cell? ⟨rb, 3, none⟩ = some (.int .i64 pz.x3) := (HX.out.cell 3).trans rfl
    have g4 : wX.cell? ⟨rb, 4, none⟩ = some (.int .i64 pz.x4) := (HX.out.cell 4).trans rfl
    have g5 : wX.cell? ⟨rb, 5, none⟩ = some (.int .i64 pz.x5) := (HX.out.cell 5).trans rfl
    have g6 : wX.cell? ⟨rb, 6, none⟩ = some (.int .i64 pz.x6) := (HX.out.cell 6).trans rfl
    have g7 : wX.cell? ⟨rb, 7, none⟩ = some (.int .i64 pz.x7) := (HX.out.cell 7).trans rfl
    have g8 : wX.cell? ⟨rb, 8, none⟩ = some (.bool pz.x8) := (HX.out.cell 8).trans rfl
    have g9 : wX.cell? ⟨rb, 9, none⟩ = some (.int .i64 pz.x9) := (HX.out.cell 9).trans rfl
    have g10 : wX.cell? ⟨rb, 10, none⟩ = some (.int .i64 pz.x10) := (HX.out.cell 10).trans rfl
    have g11 : wX.cell? ⟨rb, 11, none⟩ = some (.int .i64 pz.x11) := (HX.out.cell 11).trans rfl
    have g12 : wX.cell? ⟨rb, 12, none⟩ = some (.int .i64 pz.x12) := (HX.out.cell 12).trans rfl
    have g13 : wX.cell? ⟨rb, 13, none⟩ = some (.bool pz.x13) := (HX.out.cell 13).trans rfl
    refine bodyPost_ret (v := .tuple #[.agg #[.int .i64 pz.x0, .int .i64 pz.x1, .int .i64 pz.x2, .int .i64 pz.x3, .int .i64 pz.x4, .int .i64 pz.x5, .int .i64 pz.x6, .int .i64 pz.x7, .bool pz.x8, .int .i64 pz.x9, .int .i64 pz.x10, .int .i64 pz.x11, .int .i64 pz.x12, .bool pz.x13], .int .i64 25]) (by simp [results, Try.results66, go_sem, g0, g1, g2, g3, g4, g5, g6, g7, g8, g9, g10, g11, g12, g13]) rfl ?_
    exact ⟨by first | (rw [HR.out]; done) | (rw [HR.out]; rfl), HNX.out⟩
  have c1 : x13 = false := by simpa using c1
  subst c1
  rw [if_neg (by decide)] at hE
  go_upto_region 4 with (fail)
  obtain ⟨nb, hnb⟩ : ∃ nb, nb = w1.heap.size := ⟨_, rfl⟩
  obtain ⟨w2, hw2⟩ : ∃ w2, w2 = w1.alloc (.cells #[.int .i64 x0, .int .i64 x1, .int .i64 x2, .int .i64 x3, .int .i64 x4, .int .i64 x5, .int .i64 x6, .int .i64 x7, .bool x8, .int .i64 x9, .int .i64 x10, .int .i64 x11, .int .i64 x12, .bool false] 86) := ⟨_, rfl⟩
  have HNb : Hid (Has w2 nb 86 #[.int .i64 x0, .int .i64 x1, .int .i64 x2, .int .i64 x3, .int .i64 x4, .int .i64 x5, .int .i64 x6, .int .i64 x7, .bool x8, .int .i64 x9, .int .i64 x10, .int .i64 x11, .int .i64 x12, .bool false]) := by rw [hw2, hnb]; exact Has.new _ _ _
  have HT2 : Hid (Has w2 tb 86 #[.int .i64 x0, .int .i64 x1, .int .i64 x2, .int .i64 x3, .int .i64 x4, .int .i64 x5, .int .i64 x6, .int .i64 x7, .bool x8, .int .i64 x9, .int .i64 x10, .int .i64 x11, .int .i64 x12, .bool false]) := by rw [hw2]; exact HT.out.alloc _
  have HB2 : Hid (Has w2 rb 86 #[.int .i64 0, .int .i64 0, .int .i64 0, .int .i64 0, .int .i64 0, .int .i64 0, .int .i64 0, .int .i64 0, .bool false, .int .i64 0, .int .i64 0, .int .i64 0, .int .i64 0, .bool false]) := by rw [hw2]; exact HB.out.alloc _
  have HN2 : Hid (New w w2) := by rw [hw2]; exact HN.out.alloc _
  have Hnb : Hid (rb < nb ∧ tb < nb ∧ w.heap.size ≤ nb) := by
    have h1 := HB.out.lt
    have h2 := HT.out.lt
    have h3 := HN.out.size
    rw [Hid, hnb]
    exact ⟨h1, h2, h3⟩
  rw [← hw2, ← hnb]
  clear hw2 hnb HT HB HN k0 k1 k2 k3 k4 k5 k6 k7 k8 k9 k10 k11 k12 k13
  go_wp2_with fail
  with_reducible refine (HC.out nb w2 Hnb.out.2.2 HN2.out HNb.out).mono ?_
  rintro e w3 ⟨rfl, hq, hC3⟩
  have HB3 := Lib.hid (HB2.out.chg hC3 (by have := Hnb.out.1; omega))
  have HT3 := Lib.hid (HT2.out.chg hC3 (by have := Hnb.out.2.1; omega))
  have HN3 := Lib.hid (HN2.out.trans hC3 (fun i hi h => by have := Hnb.out.2.2; omega))
  have Hq := Lib.hid hq
  clear hq hC3 HNb HT2 HB2 HN2 HC
  by_cases c2 : ce = 0
  · subst c2
    rw [if_neg (by simp)] at hE
    have HQ := Lib.hid (Hq.out rfl)
    clear Hq
    have k0 : w3.cell? ⟨tb, 0, none⟩ = some (.int .i64 x0) := (HT3.out.cell 0).trans rfl
    have k1 : w3.cell? ⟨tb, 1, none⟩ = some (.int .i64 x1) := (HT3.out.cell 1).trans rfl
    have k2 : w3.cell? ⟨tb, 2, none⟩ = some (.int .i64 x2) := (HT3.out.cell 2).trans rfl
    have k3 : w3.cell? ⟨tb, 3, none⟩ = some (.int .i64 x3) := (HT3.out.cell 3).trans rfl
    have k4 : w3.cell? ⟨tb, 4, none⟩ = some (.int .i64 x4) := (HT3.out.cell 4).trans rfl
    have k5 : w3.cell? ⟨tb, 5, none⟩ = some (.int .i64 x5) := (HT3.out.cell 5).trans rfl
    have k6 : w3.cell? ⟨tb, 6, none⟩ = some (.int .i64 x6) := (HT3.out.cell 6).trans rfl
    have k7 : w3.cell? ⟨tb, 7, none⟩ = some (.int .i64 x7) := (HT3.out.cell 7).trans rfl
    have k8 : w3.cell? ⟨tb, 8, none⟩ = some (.bool x8) := (HT3.out.cell 8).trans rfl
    have k9 : w3.cell? ⟨tb, 9, none⟩ = some (.int .i64 x9) := (HT3.out.cell 9).trans rfl
    have k10 : w3.cell? ⟨tb, 10, none⟩ = some (.int .i64 x10) := (HT3.out.cell 10).trans rfl
    have k11 : w3.cell? ⟨tb, 11, none⟩ = some (.int .i64 x11) := (HT3.out.cell 11).trans rfl
    have k12 : w3.cell? ⟨tb, 12, none⟩ = some (.int .i64 x12) := (HT3.out.cell 12).trans rfl
    have k13 : w3.cell? ⟨tb, 13, none⟩ = some (.bool false) := (HT3.out.cell 13).trans rfl
    have q0 : w3.cell? ⟨nb, 0, none⟩ = some (.int .i64 y0) := (HQ.out.cell 0).trans rfl
    have q1 : w3.cell? ⟨nb, 1, none⟩ = some (.int .i64 y1) := (HQ.out.cell 1).trans rfl
    have q2 : w3.cell? ⟨nb, 2, none⟩ = some (.int .i64 y2) := (HQ.out.cell 2).trans rfl
    have q3 : w3.cell? ⟨nb, 3, none⟩ = some (.int .i64 y3) := (HQ.out.cell 3).trans rfl
    have q4 : w3.cell? ⟨nb, 4, none⟩ = some (.int .i64 y4) := (HQ.out.cell 4).trans rfl
    have q5 : w3.cell? ⟨nb, 5, none⟩ = some (.int .i64 y5) := (HQ.out.cell 5).trans rfl
    have q6 : w3.cell? ⟨nb, 6, none⟩ = some (.int .i64 y6) := (HQ.out.cell 6).trans rfl
    have q7 : w3.cell? ⟨nb, 7, none⟩ = some (.int .i64 y7) := (HQ.out.cell 7).trans rfl
    have q8 : w3.cell? ⟨nb, 8, none⟩ = some (.bool y8) := (HQ.out.cell 8).trans rfl
    have q9 : w3.cell? ⟨nb, 9, none⟩ = some (.int .i64 y9) := (HQ.out.cell 9).trans rfl
    have q10 : w3.cell? ⟨nb, 10, none⟩ = some (.int .i64 y10) := (HQ.out.cell 10).trans rfl
    have q11 : w3.cell? ⟨nb, 11, none⟩ = some (.int .i64 x11) := (HQ.out.cell 11).trans rfl
    have q12 : w3.cell? ⟨nb, 12, none⟩ = some (.int .i64 y12) := (HQ.out.cell 12).trans rfl
    have q13 : w3.cell? ⟨nb, 13, none⟩ = some (.bool y13) := (HQ.out.cell 13).trans rfl
    have qf := HQ.out.free 11
    have ql := HQ.out.lt
    by_cases c3 : x11 = 65535
    · have e1 : decide (65535 ≤ x11) = true := decide_eq_true (by omega)
      rw [if_pos c3] at hE
      subst hE
      rw [if_neg (by decide)] at hR
      have HR := Lib.hid hR
      clear hR c3 qf ql q0 q1 q2 q3 q4 q5 q6 q7 q8 q9 q10 q11 q12 q13
      go_wp2_with (first
        | (refine wpList_store_th rfl (.tmp 4) (.tmp 23) rfl rb pz _ rfl rfl HB3.out rfl ?_
           intro wX hX hCX
           have HX := Lib.hid hX
           have HNX := Lib.hid (HN3.out.trans hCX (fun i hi h => by rw [h, Hrb.out] at hi; omega))
           clear hX hCX)
        | fail)
      have g0 : wX.cell? ⟨rb, 0, none⟩ = some (.int .i64 pz.x0) := (HX.out.cell 0).trans rfl
      have g1 : wX.cell? ⟨rb, 1, none⟩ = some (.int .i64 pz.x1) := (HX.out.cell 1).trans rfl
      have g2 : wX.cell? ⟨rb, 2, none⟩ = some (.int .i64 pz.x2) := (HX.out.cell 2).trans rfl
      have g3 : wX.cell? ⟨rb, 3, none⟩ = some (.int .i64 pz.x3) := (HX.out.cell 3).trans rfl
      have g4 : wX.cell? ⟨rb, 4, none⟩ = some (.int .i64 pz.x4) := (HX.out.cell 4).trans rfl
      have g5 : wX.cell? ⟨rb, 5, none⟩ = some (.int .i64 pz.x5) := (HX.out.cell 5).trans rfl
      have g6 : wX.cell? ⟨rb, 6, none⟩ = some (.int .i64 pz.x6) := (HX.out.cell 6).trans rfl
      have g7 : wX.cell? ⟨rb, 7, none⟩ = some (.int .i64 pz.x7) := (HX.out.cell 7).trans rfl
      have g8 : wX.cell? ⟨rb, 8, none⟩ = some (.bool pz.x8) := (HX.out.cell 8).trans rfl
      have g9 : wX.cell? ⟨rb, 9, none⟩ = some (.int .i64 pz.x9) := (HX.out.cell 9).trans rfl
      have g10 : wX.cell? ⟨rb, 10, none⟩ = some (.int .i64 pz.x10) := (HX.out.cell 10).trans rfl
      have g11 : wX.cell? ⟨rb, 11, none⟩ = some (.int .i64 pz.x11) := (HX.out.cell 11).trans rfl
      have g12 : wX.cell? ⟨rb, 12, none⟩ = some (.int .i64 pz.x12) := (HX.out.cell 12).trans rfl
      have g13 : wX.cell? ⟨rb, 13, none⟩ = some (.bool pz.x13) := (HX.out.cell 13).trans rfl
      refine bodyPost_ret (v := .tuple #[.agg #[.int .i64 pz.x0, .int .i64 pz.x1, .int .i64 pz.x2, .int .i64 pz.x3, .int .i64 pz.x4, .int .i64 pz.x5, .int .i64 pz.x6, .int .i64 pz.x7, .bool pz.x8, .int .i64 pz.x9, .int .i64 pz.x10, .int .i64 pz.x11, .int .i64 pz.x12, .bool pz.x13], .int .i64 29]) (by simp [results, Try.results66, go_sem, g0, g1, g2, g3, g4, g5, g6, g7, g8, g9, g10, g11, g12, g13]) rfl ?_
      exact ⟨by first | (rw [HR.out]; done) | (rw [HR.out]; rfl), HNX.out⟩
    · have e1 : decide (65535 ≤ x11) = false := decide_eq_false (by have := Hx.out; omega)
      have e2 : IntKind.i64.wrap (x11 + 1) = x11 + 1 := IntWalk.i64_in _ (by have := Hx.out; omega)
      have e3 : wrap64 (x11 + 1) = x11 + 1 := w64 _ (by have := Hx.out; omega) (by have := Hx.out; omega)
      rw [if_neg c3] at hE
      subst hE
      rw [if_pos rfl] at hR
      have HR := Lib.hid hR
      clear hR c3
      go_upto_region 10 with (fail)
      obtain ⟨w4, hw4⟩ : ∃ w4, w4 = w3.setCell ⟨nb, 11, none⟩ (.int .i64 (x11 + 1)) := ⟨_, rfl⟩
      have HQ4 : Hid (Has w4 nb 86 #[.int .i64 y0, .int .i64 y1, .int .i64 y2, .int .i64 y3, .int .i64 y4, .int .i64 y5, .int .i64 y6, .int .i64 y7, .bool y8, .int .i64 y9, .int .i64 y10, .int .i64 (x11 + 1), .int .i64 y12, .bool y13]) := by rw [hw4]; exact HQ.out.set 11 _
      have hC4 : Chg (· = nb) w3 w4 := by rw [hw4]; exact Chg.setCell (S := (· = nb)) (Chg.refl _ _) (fun _ => rfl) _
      rw [← hw4]
      clear hw4 qf ql e1 e2 e3 q0 q1 q2 q3 q4 q5 q6 q7 q8 q9 q10 q11 q12 q13 k0 k1 k2 k3 k4 k5 k6 k7 k8 k9 k10 k11 k12 k13
      have HB4 := Lib.hid (HB3.out.chg hC4 (by have := Hnb.out.1; omega))
      have HN4 := Lib.hid (HN3.out.trans hC4 (fun i hi h => by have := Hnb.out.2.2; omega))
      clear hC4
      have q0 : w4.cell? ⟨nb, 0, none⟩ = some (.int .i64 y0) := (HQ4.out.cell 0).trans rfl
      have q1 : w4.cell? ⟨nb, 1, none⟩ = some (.int .i64 y1) := (HQ4.out.cell 1).trans rfl
      have q2 : w4.cell? ⟨nb, 2, none⟩ = some (.int .i64 y2) := (HQ4.out.cell 2).trans rfl
      have q3 : w4.cell? ⟨nb, 3, none⟩ = some (.int .i64 y3) := (HQ4.out.cell 3).trans rfl
      have q4 : w4.cell? ⟨nb, 4, none⟩ = some (.int .i64 y4) := (HQ4.out.cell 4).trans rfl
      have q5 : w4.cell? ⟨nb, 5, none⟩ = some (.int .i64 y5) := (HQ4.out.cell 5).trans rfl
      have q6 : w4.cell? ⟨nb, 6, none⟩ = some (.int .i64 y6) := (HQ4.out.cell 6).trans rfl
      have q7 : w4.cell? ⟨nb, 7, none⟩ = some (.int .i64 y7) := (HQ4.out.cell 7).trans rfl
      have q8 : w4.cell? ⟨nb, 8, none⟩ = some (.bool y8) := (HQ4.out.cell 8).trans rfl
      have q9 : w4.cell? ⟨nb, 9, none⟩ = some (.int .i64 y9) := (HQ4.out.cell 9).trans rfl
      have q10 : w4.cell? ⟨nb, 10, none⟩ = some (.int .i64 y10) := (HQ4.out.cell 10).trans rfl
      have q11 : w4.cell? ⟨nb, 11, none⟩ = some (.int .i64 (x11 + 1)) := (HQ4.out.cell 11).trans rfl
      have q12 : w4.cell? ⟨nb, 12, none⟩ = some (.int .i64 y12) := (HQ4.out.cell 12).trans rfl
      have q13 : w4.cell? ⟨nb, 13, none⟩ = some (.bool y13) := (HQ4.out.cell 13).trans rfl
      go_wp2_with (first
        | (refine wpList_store_th rfl (.tmp 4) (.tmp 30) rfl rb ⟨y0, y1, y2, y3, y4, y5, y6, y7, y8, y9, y10, x11 + 1, y12, y13⟩ _ rfl rfl HB4.out rfl ?_
           intro wX hX hCX
           have HX := Lib.hid hX
           have HNX := Lib.hid (HN4.out.trans hCX (fun i hi h => by rw [h, Hrb.out] at hi; omega))
           clear hX hCX)
        | fail)
      have g0 : wX.cell? ⟨rb, 0, none⟩ = some (.int .i64 y0) := (HX.out.cell 0).trans rfl
      have g1 : wX.cell? ⟨rb, 1, none⟩ = some (.int .i64 y1) := (HX.out.cell 1).trans rfl
      have g2 : wX.cell? ⟨rb, 2, none⟩ = some (.int .i64 y2) := (HX.out.cell 2).trans rfl
      have g3 : wX.cell? ⟨rb, 3, none⟩ = some (.int .i64 y3) := (HX.out.cell 3).trans rfl
      have g4 : wX.cell? ⟨rb, 4, none⟩ = some (.int .i64 y4) := (HX.out.cell 4).trans rfl
      have g5 : wX.cell? ⟨rb, 5, none⟩ = some (.int .i64 y5) := (HX.out.cell 5).trans rfl
      have g6 : wX.cell? ⟨rb, 6, none⟩ = some (.int .i64 y6) := (HX.out.cell 6).trans rfl
      have g7 : wX.cell? ⟨rb, 7, none⟩ = some (.int .i64 y7) := (HX.out.cell 7).trans rfl
      have g8 : wX.cell? ⟨rb, 8, none⟩ = some (.bool y8) := (HX.out.cell 8).trans rfl
      have g9 : wX.cell? ⟨rb, 9, none⟩ = some (.int .i64 y9) := (HX.out.cell 9).trans rfl
      have g10 : wX.cell? ⟨rb, 10, none⟩ = some (.int .i64 y10) := (HX.out.cell 10).trans rfl
      have g11 : wX.cell? ⟨rb, 11, none⟩ = some (.int .i64 (x11 + 1)) := (HX.out.cell 11).trans rfl
      have g12 : wX.cell? ⟨rb, 12, none⟩ = some (.int .i64 y12) := (HX.out.cell 12).trans rfl
      have g13 : wX.cell? ⟨rb, 13, none⟩ = some (.bool y13) := (HX.out.cell 13).trans rfl
      refine bodyPost_ret (v := .tuple #[.agg #[.int .i64 y0, .int .i64 y1, .int .i64 y2, .int .i64 y3, .int .i64 y4, .int .i64 y5, .int .i64 y6, .int .i64 y7, .bool y8, .int .i64 y9, .int .i64 y10, .int .i64 (x11 + 1), .int .i64 y12, .bool y13], .int .i64 0]) (by simp [results, Try.results66, go_sem, g0, g1, g2, g3, g4, g5, g6, g7, g8, g9, g10, g11, g12, g13]) rfl ?_
      exact ⟨by first | (rw [HR.out]; done) | (rw [HR.out]; rfl), HNX.out⟩
  · have e1 : (ce == 0) = false := beq_eq_false_iff_ne.2 c2
    have e1' : (ce != 0) = true := bne_iff_ne.2 c2
    rw [if_pos c2] at hE
    subst hE
    rw [if_neg c2] at hR
    have HR := Lib.hid hR
    clear hR c2 Hq
    go_wp2_with (first
      | (refine wpList_store_th rfl (.tmp 4) (.tmp 17) rfl rb pz _ rfl rfl HB3.out rfl ?_
         intro wX hX hCX
         have HX := Lib.hid hX
         have HNX := Lib.hid (HN3.out.trans hCX (fun i hi h => by rw [h, Hrb.out] at hi; omega))
         clear hX hCX)
      | fail)
    have g0 : wX.cell? ⟨rb, 0, none⟩ = some (.int .i64 pz.x0) := (HX.out.cell 0).trans rfl
    have g1 : wX.cell? ⟨rb, 1, none⟩ = some (.int .i64 pz.x1) := (HX.out.cell 1).trans rfl
    have g2 : wX.cell? ⟨rb, 2, none⟩ = some (.int .i64 pz.x2) := (HX.out.cell 2).trans rfl
    have g3 : wX.cell? ⟨rb, 3, none⟩ = some (.int .i64 pz.x3) := (HX.out.cell 3).trans rfl
    have g4 : wX.cell? ⟨rb, 4, none⟩ = some (.int .i64 pz.x4) := (HX.out.cell 4).trans rfl
    have g5 : wX.cell? ⟨rb, 5, none⟩ = some (.int .i64 pz.x5) := (HX.out.cell 5).trans rfl
    have g6 : wX.cell? ⟨rb, 6, none⟩ = some (.int .i64 pz.x6) := (HX.out.cell 6).trans rfl
    have g7 : wX.cell? ⟨rb, 7, none⟩ = some (.int .i64 pz.x7) := (HX.out.cell 7).trans rfl
    have g8 : wX.cell? ⟨rb, 8, none⟩ = some (.bool pz.x8) := (HX.out.cell 8).trans rfl
    have g9 : wX.cell? ⟨rb, 9, none⟩ = some (.int .i64 pz.x9) := (HX.out.cell 9).trans rfl
    have g10 : wX.cell? ⟨rb, 10, none⟩ = some (.int .i64 pz.x10) := (HX.out.cell 10).trans rfl
    have g11 : wX.cell? ⟨rb, 11, none⟩ = some (.int .i64 pz.x11) := (HX.out.cell 11).trans rfl
    have g12 : wX.cell? ⟨rb, 12, none⟩ = some (.int .i64 pz.x12) := (HX.out.cell 12).trans rfl
    have g13 : wX.cell? ⟨rb, 13, none⟩ = some (.bool pz.x13) := (HX.out.cell 13).trans rfl
    refine bodyPost_ret (v := .tuple #[.agg #[.int .i64 pz.x0, .int .i64 pz.x1, .int .i64 pz.x2, .int .i64 pz.x3, .int .i64 pz.x4, .int .i64 pz.x5, .int .i64 pz.x6, .int .i64 pz.x7, .bool pz.x8, .int .i64 pz.x9, .int .i64 pz.x10, .int .i64 pz.x11, .int .i64 pz.x12, .bool pz.x13], .int .i64 E]) (by simp [results, Try.results66, go_sem, g0, g1, g2, g3, g4, g5, g6, g7, g8, g9, g10, g11, g12, g13]) rfl ?_
    exact ⟨by first | (rw [HR.out]; done) | (rw [HR.out]; rfl), HNX.out⟩
/-- what a change does with the box nb that holds p: it makes it q, or answers an error -/
def ChangeOut (w : World) (c0 c1 : Value) (p q : Pd) (ce : Int) : Prop := ∀ (nb : Nat) (wx : World), w.heap.size ≤ nb → New w wx → Has wx nb 86 (pcells p) → Calls Try.prog 69 #[.pointer (some ⟨nb, 0, none⟩), c0, c1] wx fun e w' => e = .returned (.int .i64 ce) ∧ (ce = 0 → Has w' nb 86 (pcells q)) ∧ Chg (· = nb) wx w'
set_option maxRecDepth 100000 in
set_option maxHeartbeats 4000000 in
theorem afterOut_any (p q : Pd) (hx : 0 ≤ p.x11 ∧ p.x11 ≤ 65535) (hq : q.x11 = p.x11) (ce : Int) (c0 c1 : Value) (w : World) (hC : ChangeOut w c0 c1 p q ce) :
    Calls Try.prog 66 #[p.V, .func (.func 69) #[] #[c0, c1]] w fun e w' => e = .returned (.tuple #[(aftP p q ce).V, .int .i64 (aftE p ce)]) ∧ New w w' := by
  have HC := Lib.hid hC; clear hC
  obtain ⟨E, hE⟩ : ∃ E, E = aftE p ce := ⟨_, rfl⟩
  obtain ⟨R, hR⟩ : ∃ R, R = aftP p q ce := ⟨_, rfl⟩
  rw [← hE, ← hR]
  unfold aftP at hR
  rw [← hE] at hR
  unfold aftE at hE
  obtain ⟨x0, x1, x2, x3, x4, x5, x6, x7, x8, x9, x10, x11, x12, x13⟩ := p
  obtain ⟨y0, y1, y2, y3, y4, y5, y6, y7, y8, y9, y10, y11, y12, y13⟩ := q
  dsimp only at hx hq hE hR
  replace hq := hq.symm
  subst hq
  have HC : Hid (∀ (nb : Nat) (wx : World), w.heap.size ≤ nb → New w wx → Has wx nb 86 #[.int .i64 x0, .int .i64 x1, .int .i64 x2, .int .i64 x3, .int .i64 x4, .int .i64 x5, .int .i64 x6, .int .i64 x7, .bool x8, .int .i64 x9, .int .i64 x10, .int .i64 x11, .int .i64 x12, .bool x13] → Calls Try.prog 69 #[.pointer (some ⟨nb, 0, none⟩), c0, c1] wx fun e w' => e = .returned (.int .i64 ce) ∧ (ce = 0 → Has w' nb 86 #[.int .i64 y0, .int .i64 y1, .int .i64 y2, .int .i64 y3, .int .i64 y4, .int .i64 y5, .int .i64 y6, .int .i64 y7, .bool y8, .int .i64 y9, .int .i64 y10, .int .i64 x11, .int .i64 y12, .bool y13]) ∧ Chg (· = nb) wx w') := HC.out
  have Hx := Lib.hid hx; clear hx
  go_enter Try.func66, Try.ntmps66
  go_upto_region 1 with (fail)
  obtain ⟨tb, htb⟩ : ∃ tb, tb = w.heap.size := ⟨_, rfl⟩
  obtain ⟨rb, hrb⟩ : ∃ rb, rb = w.heap.size + 1 := ⟨_, rfl⟩
  obtain ⟨w1, hw1⟩ : ∃ w1, w1 = (w.alloc (.cells #[.int .i64 x0, .int .i64 x1, .int .i64 x2, .int .i64 x3, .int .i64 x4, .int .i64 x5, .int .i64 x6, .int .i64 x7, .bool x8, .int .i64 x9, .int .i64 x10, .int .i64 x11, .int .i64 x12, .bool x13] 86)).alloc (.cells #[.int .i64 0, .int .i64 0, .int .i64 0, .int .i64 0, .int .i64 0, .int .i64 0, .int .i64 0, .int .i64 0, .bool false, .int .i64 0, .int .i64 0, .int .i64 0, .int .i64 0, .bool false] 86) := ⟨_, rfl⟩
  have HT : Hid (Has w1 tb 86 #[.int .i64 x0, .int .i64 x1, .int .i64 x2, .int .i64 x3, .int .i64 x4, .int .i64 x5, .int .i64 x6, .int .i64 x7, .bool x8, .int .i64 x9, .int .i64 x10, .int .i64 x11, .int .i64 x12, .bool x13]) := by rw [hw1, htb]; exact (Has.new _ _ _).alloc _
  have HB : Hid (Has w1 rb 86 #[.int .i64 0, .int .i64 0, .int .i64 0, .int .i64 0, .int .i64 0, .int .i64 0, .int .i64 0, .int .i64 0, .bool false, .int .i64 0, .int .i64 0, .int .i64 0, .int .i64 0, .bool false]) := by rw [hw1, hrb]; exact Has.new_at _ _ _ _ (by simp)
  have HN : Hid (New w w1) := by rw [hw1]; exact ((Chg.refl _ _).alloc _).alloc _
  have Hrb : Hid (rb = w.heap.size + 1) := hrb
  have Htb : Hid (tb = w.heap.size) := htb
  rw [← hw1, ← hrb, ← htb]
  clear hw1 hrb htb
  have k0 : w1.cell? ⟨tb, 0, none⟩ = some (.int .i64 x0) := (HT.out.cell 0).trans rfl
  have k1 : w1.cell? ⟨tb, 1, none⟩ = some (.int .i64 x1) := (HT.out.cell 1).trans rfl
  have k2 : w1.cell? ⟨tb, 2, none⟩ = some (.int .i64 x2) := (HT.out.cell 2).trans rfl
  have k3 : w1.cell? ⟨tb, 3, none⟩ = some (.int .i64 x3) := (HT.out.cell 3).trans rfl
  have k4 : w1.cell? ⟨tb, 4, none⟩ = some (.int .i64 x4) := (HT.out.cell 4).trans rfl
  have k5 : w1.cell? ⟨tb, 5, none⟩ = some (.int .i64 x5) := (HT.out.cell 5).trans rfl
  have k6 : w1.cell? ⟨tb, 6, none⟩ = some (.int .i64 x6) := (HT.out.cell 6).trans rfl
  have k7 : w1.cell? ⟨tb, 7, none⟩ = some (.int .i64 x7) := (HT.out.cell 7).trans rfl
  have k8 : w1.cell? ⟨tb, 8, none⟩ = some (.bool x8) := (HT.out.cell 8).trans rfl
  have k9 : w1.cell? ⟨tb, 9, none⟩ = some (.int .i64 x9) := (HT.out.cell 9).trans rfl
  have k10 : w1.cell? ⟨tb, 10, none⟩ = some (.int .i64 x10) := (HT.out.cell 10).trans rfl
  have k11 : w1.cell? ⟨tb, 11, none⟩ = some (.int .i64 x11) := (HT.out.cell 11).trans rfl
  have k12 : w1.cell? ⟨tb, 12, none⟩ = some (.int .i64 x12) := (HT.out.cell 12).trans rfl
  have k13 : w1.cell? ⟨tb, 13, none⟩ = some (.bool x13) := (HT.out.cell 13).trans rfl
  by_cases c1 : x13 = true
  · subst c1
    rw [if_pos rfl] at hE
    subst hE
    rw [if_neg (by decide)] at hR
    have HR := Lib.hid hR
    clear hR
    go_wp2_with (first
      | (refine wpList_store_th rfl (.tmp 4) (.tmp 11) rfl rb pz _ rfl rfl HB.out rfl ?_
         intro wX hX hCX
         have HX := Lib.hid hX
         have HNX := Lib.hid (HN.out.trans hCX (fun i hi h => by rw [h, Hrb.out] at hi; omega))
         clear hX hCX)
      | fail)
    have g0 : wX.cell? ⟨rb, 0, none⟩ = some (.int .i64 pz.x0) := (HX.out.cell 0).trans rfl
    have g1 : wX.cell? ⟨rb, 1, none⟩ = some (.int .i64 pz.x1) := (HX.out.cell 1).trans rfl
    have g2 : wX.cell? ⟨rb, 2, none⟩ = some (.int .i64 pz.x2) := (HX.out.cell 2).trans rfl
    have g3 : wX.cell? ⟨rb, 3, none⟩ = some (.int .i64 pz.x3) := (HX.out.cell 3).trans rfl
    have g4 : wX.cell? ⟨rb, 4, none⟩ = some (.int .i64 pz.x4) := (HX.out.cell 4).trans rfl
    have g5 : wX.cell? ⟨rb, 5, none⟩ = some (.int .i64 pz.x5) := (HX.out.cell 5).trans rfl
    have g6 : wX.cell? ⟨rb, 6, none⟩ = some (.int .i64 pz.x6) := (HX.out.cell 6).trans rfl
    have g7 : wX.cell? ⟨rb, 7, none⟩ = some (.int .i64 pz.x7) := (HX.out.cell 7).trans rfl
    have g8 : wX.cell? ⟨rb, 8, none⟩ = some (.bool pz.x8) := (HX.out.cell 8).trans rfl
    have g9 : wX.cell? ⟨rb, 9, none⟩ = some (.int .i64 pz.x9) := (HX.out.cell 9).trans rfl
    have g10 : wX.cell? ⟨rb, 10, none⟩ = some (.int .i64 pz.x10) := (HX.out.cell 10).trans rfl
    have g11 : wX.cell? ⟨rb, 11, none⟩ = some (.int .i64 pz.x11) := (HX.out.cell 11).trans rfl
    have g12 : wX.cell? ⟨rb, 12, none⟩ = some (.int .i64 pz.x12) := (HX.out.cell 12).trans rfl
    have g13 : wX.cell? ⟨rb, 13, none⟩ = some (.bool pz.x13) := (HX.out.cell 13).trans rfl
    refine bodyPost_ret (v := .tuple #[.agg #[.int .i64 pz.x0, .int .i64 pz.x1, .int .i64 pz.x2, .int .i64 pz.x3, .int .i64 pz.x4, .int .i64 pz.x5, .int .i64 pz.x6, .int .i64 pz.x7, .bool pz.x8, .int .i64 pz.x9, .int .i64 pz.x10, .int .i64 pz.x11, .int .i64 pz.x12, .bool pz.x13], .int .i64 25]) (by simp [results, Try.results66, go_sem, g0, g1, g2, g3, g4, g5, g6, g7, g8, g9, g10, g11, g12, g13]) rfl ?_
    exact ⟨by first | (rw [HR.out]; done) | (rw [HR.out]; rfl), HNX.out⟩
  have c1 : x13 = false := by simpa using c1
  subst c1
  rw [if_neg (by decide)] at hE
  go_upto_region 4 with (fail)
  obtain ⟨nb, hnb⟩ : ∃ nb, nb = w1.heap.size := ⟨_, rfl⟩
  obtain ⟨w2, hw2⟩ : ∃ w2, w2 = w1.alloc (.cells #[.int .i64 x0, .int .i64 x1, .int .i64 x2, .int .i64 x3, .int .i64 x4, .int .i64 x5, .int .i64 x6, .int .i64 x7, .bool x8, .int .i64 x9, .int .i64 x10, .int .i64 x11, .int .i64 x12, .bool false] 86) := ⟨_, rfl⟩
  have HNb : Hid (Has w2 nb 86 #[.int .i64 x0, .int .i64 x1, .int .i64 x2, .int .i64 x3, .int .i64 x4, .int .i64 x5, .int .i64 x6, .int .i64 x7, .bool x8, .int .i64 x9, .int .i64 x10, .int .i64 x11, .int .i64 x12, .bool false]) := by rw [hw2, hnb]; exact Has.new _ _ _
  have HT2 : Hid (Has w2 tb 86 #[.int .i64 x0, .int .i64 x1, .int .i64 x2, .int .i64 x3, .int .i64 x4, .int .i64 x5, .int .i64 x6, .int .i64 x7, .bool x8, .int .i64 x9, .int .i64 x10, .int .i64 x11, .int .i64 x12, .bool false]) := by rw [hw2]; exact HT.out.alloc _
  have HB2 : Hid (Has w2 rb 86 #[.int .i64 0, .int .i64 0, .int .i64 0, .int .i64 0, .int .i64 0, .int .i64 0, .int .i64 0, .int .i64 0, .bool false, .int .i64 0, .int .i64 0, .int .i64 0, .int .i64 0, .bool false]) := by rw [hw2]; exact HB.out.alloc _
  have HN2 : Hid (New w w2) := by rw [hw2]; exact HN.out.alloc _
  have Hnb : Hid (rb < nb ∧ tb < nb ∧ w.heap.size ≤ nb) := by
    have h1 := HB.out.lt
    have h2 := HT.out.lt
    have h3 := HN.out.size
    rw [Hid, hnb]
    exact ⟨h1, h2, h3⟩
  rw [← hw2, ← hnb]
  clear hw2 hnb HT HB HN k0 k1 k2 k3 k4 k5 k6 k7 k8 k9 k10 k11 k12 k13
  go_wp2_with fail
  with_reducible refine (HC.out nb w2 Hnb.out.2.2 HN2.out HNb.out).mono ?_
  rintro e w3 ⟨rfl, hq, hC3⟩
  have HB3 := Lib.hid (HB2.out.chg hC3 (by have := Hnb.out.1; omega))
  have HT3 := Lib.hid (HT2.out.chg hC3 (by have := Hnb.out.2.1; omega))
  have HN3 := Lib.hid (HN2.out.trans hC3 (fun i hi h => by have := Hnb.out.2.2; omega))
  have Hq := Lib.hid hq
  clear hq hC3 HNb HT2 HB2 HN2 HC
  by_cases c2 : ce = 0
  · subst c2
    rw [if_neg (by simp)] at hE
    have HQ := Lib.hid (Hq.out rfl)
    clear Hq
    have k0 : w3.cell? ⟨tb, 0, none⟩ = some (.int .i64 x0) := (HT3.out.cell 0).trans rfl
    have k1 : w3.cell? ⟨tb, 1, none⟩ = some (.int .i64 x1) := (HT3.out.cell 1).trans rfl
    have k2 : w3.cell? ⟨tb, 2, none⟩ = some (.int .i64 x2) := (HT3.out.cell 2).trans rfl
    have k3 : w3.cell? ⟨tb, 3, none⟩ = some (.int .i64 x3) := (HT3.out.cell 3).trans rfl
    have k4 : w3.cell? ⟨tb, 4, none⟩ = some (.int .i64 x4) := (HT3.out.cell 4).trans rfl
    have k5 : w3.cell? ⟨tb, 5, none⟩ = some (.int .i64 x5) := (HT3.out.cell 5).trans rfl
    have k6 : w3.cell? ⟨tb, 6, none⟩ = some (.int .i64 x6) := (HT3.out.cell 6).trans rfl
    have k7 : w3.cell? ⟨tb, 7, none⟩ = some (.int .i64 x7) := (HT3.out.cell 7).trans rfl
    have k8 : w3.cell? ⟨tb, 8, none⟩ = some (.bool x8) := (HT3.out.cell 8).trans rfl
    have k9 : w3.cell? ⟨tb, 9, none⟩ = some (.int .i64 x9) := (HT3.out.cell 9).trans rfl
    have k10 : w3.cell? ⟨tb, 10, none⟩ = some (.int .i64 x10) := (HT3.out.cell 10).trans rfl
    have k11 : w3.cell? ⟨tb, 11, none⟩ = some (.int .i64 x11) := (HT3.out.cell 11).trans rfl
    have k12 : w3.cell? ⟨tb, 12, none⟩ = some (.int .i64 x12) := (HT3.out.cell 12).trans rfl
    have k13 : w3.cell? ⟨tb, 13, none⟩ = some (.bool false) := (HT3.out.cell 13).trans rfl
    have q0 : w3.cell? ⟨nb, 0, none⟩ = some (.int .i64 y0) := (HQ.out.cell 0).trans rfl
    have q1 : w3.cell? ⟨nb, 1, none⟩ = some (.int .i64 y1) := (HQ.out.cell 1).trans rfl
    have q2 : w3.cell? ⟨nb, 2, none⟩ = some (.int .i64 y2) := (HQ.out.cell 2).trans rfl
    have q3 : w3.cell? ⟨nb, 3, none⟩ = some (.int .i64 y3) := (HQ.out.cell 3).trans rfl
    have q4 : w3.cell? ⟨nb, 4, none⟩ = some (.int .i64 y4) := (HQ.out.cell 4).trans rfl
    have q5 : w3.cell? ⟨nb, 5, none⟩ = some (.int .i64 y5) := (HQ.out.cell 5).trans rfl
    have q6 : w3.cell? ⟨nb, 6, none⟩ = some (.int .i64 y6) := (HQ.out.cell 6).trans rfl
    have q7 : w3.cell? ⟨nb, 7, none⟩ = some (.int .i64 y7) := (HQ.out.cell 7).trans rfl
    have q8 : w3.cell? ⟨nb, 8, none⟩ = some (.bool y8) := (HQ.out.cell 8).trans rfl
    have q9 : w3.cell? ⟨nb, 9, none⟩ = some (.int .i64 y9) := (HQ.out.cell 9).trans rfl
    have q10 : w3.cell? ⟨nb, 10, none⟩ = some (.int .i64 y10) := (HQ.out.cell 10).trans rfl
    have q11 : w3.cell? ⟨nb, 11, none⟩ = some (.int .i64 x11) := (HQ.out.cell 11).trans rfl
    have q12 : w3.cell? ⟨nb, 12, none⟩ = some (.int .i64 y12) := (HQ.out.cell 12).trans rfl
    have q13 : w3.cell? ⟨nb, 13, none⟩ = some (.bool y13) := (HQ.out.cell 13).trans rfl
    have qf := HQ.out.free 11
    have ql := HQ.out.lt
    by_cases c3 : x11 = 65535
    · have e1 : decide (65535 ≤ x11) = true := decide_eq_true (by omega)
      rw [if_pos c3] at hE
      subst hE
      rw [if_neg (by decide)] at hR
      have HR := Lib.hid hR
      clear hR c3 qf ql q0 q1 q2 q3 q4 q5 q6 q7 q8 q9 q10 q11 q12 q13
      go_wp2_with (first
        | (refine wpList_store_th rfl (.tmp 4) (.tmp 23) rfl rb pz _ rfl rfl HB3.out rfl ?_
           intro wX hX hCX
           have HX := Lib.hid hX
           have HNX := Lib.hid (HN3.out.trans hCX (fun i hi h => by rw [h, Hrb.out] at hi; omega))
           clear hX hCX)
        | fail)
      have g0 : wX.cell? ⟨rb, 0, none⟩ = some (.int .i64 pz.x0) := (HX.out.cell 0).trans rfl
      have g1 : wX.cell? ⟨rb, 1, none⟩ = some (.int .i64 pz.x1) := (HX.out.cell 1).trans rfl
      have g2 : wX.cell? ⟨rb, 2, none⟩ = some (.int .i64 pz.x2) := (HX.out.cell 2).trans rfl
      have g3 : wX.cell? ⟨rb, 3, none⟩ = some (.int .i64 pz.x3) := (HX.out.cell 3).trans rfl
      have g4 : wX.cell? ⟨rb, 4, none⟩ = some (.int .i64 pz.x4) := (HX.out.cell 4).trans rfl
      have g5 : wX.cell? ⟨rb, 5, none⟩ = some (.int .i64 pz.x5) := (HX.out.cell 5).trans rfl
      have g6 : wX.cell? ⟨rb, 6, none⟩ = some (.int .i64 pz.x6) := (HX.out.cell 6).trans rfl
      have g7 : wX.cell? ⟨rb, 7, none⟩ = some (.int .i64 pz.x7) := (HX.out.cell 7).trans rfl
      have g8 : wX.cell? ⟨rb, 8, none⟩ = some (.bool pz.x8) := (HX.out.cell 8).trans rfl
      have g9 : wX.cell? ⟨rb, 9, none⟩ = some (.int .i64 pz.x9) := (HX.out.cell 9).trans rfl
      have g10 : wX.cell? ⟨rb, 10, none⟩ = some (.int .i64 pz.x10) := (HX.out.cell 10).trans rfl
      have g11 : wX.cell? ⟨rb, 11, none⟩ = some (.int .i64 pz.x11) := (HX.out.cell 11).trans rfl
      have g12 : wX.cell? ⟨rb, 12, none⟩ = some (.int .i64 pz.x12) := (HX.out.cell 12).trans rfl
      have g13 : wX.cell? ⟨rb, 13, none⟩ = some (.bool pz.x13) := (HX.out.cell 13).trans rfl
      refine bodyPost_ret (v := .tuple #[.agg #[.int .i64 pz.x0, .int .i64 pz.x1, .int .i64 pz.x2, .int .i64 pz.x3, .int .i64 pz.x4, .int .i64 pz.x5, .int .i64 pz.x6, .int .i64 pz.x7, .bool pz.x8, .int .i64 pz.x9, .int .i64 pz.x10, .int .i64 pz.x11, .int .i64 pz.x12, .bool pz.x13], .int .i64 29]) (by simp [results, Try.results66, go_sem, g0, g1, g2, g3, g4, g5, g6, g7, g8, g9, g10, g11, g12, g13]) rfl ?_
      exact ⟨by first | (rw [HR.out]; done) | (rw [HR.out]; rfl), HNX.out⟩
    · have e1 : decide (65535 ≤ x11) = false := decide_eq_false (by have := Hx.out; omega)
      have e2 : IntKind.i64.wrap (x11 + 1) = x11 + 1 := IntWalk.i64_in _ (by have := Hx.out; omega)
      have e3 : wrap64 (x11 + 1) = x11 + 1 := w64 _ (by have := Hx.out; omega) (by have := Hx.out; omega)
      rw [if_neg c3] at hE
      subst hE
      rw [if_pos rfl] at hR
      have HR := Lib.hid hR
      clear hR c3
      go_upto_region 10 with (fail)
      obtain ⟨w4, hw4⟩ : ∃ w4, w4 = w3.setCell ⟨nb, 11, none⟩ (.int .i64 (x11 + 1)) := ⟨_, rfl⟩
      have HQ4 : Hid (Has w4 nb 86 #[.int .i64 y0, .int .i64 y1, .int .i64 y2, .int .i64 y3, .int .i64 y4, .int .i64 y5, .int .i64 y6, .int .i64 y7, .bool y8, .int .i64 y9, .int .i64 y10, .int .i64 (x11 + 1), .int .i64 y12, .bool y13]) := by rw [hw4]; exact HQ.out.set 11 _
      have hC4 : Chg (· = nb) w3 w4 := by rw [hw4]; exact Chg.setCell (S := (· = nb)) (Chg.refl _ _) (fun _ => rfl) _
      rw [← hw4]
      clear hw4 qf ql e1 e2 e3 q0 q1 q2 q3 q4 q5 q6 q7 q8 q9 q10 q11 q12 q13 k0 k1 k2 k3 k4 k5 k6 k7 k8 k9 k10 k11 k12 k13
      have HB4 := Lib.hid (HB3.out.chg hC4 (by have := Hnb.out.1; omega))
      have HN4 := Lib.hid (HN3.out.trans hC4 (fun i hi h => by have := Hnb.out.2.2; omega))
      clear hC4
      have q0 : w4.cell? ⟨nb, 0, none⟩ = some (.int .i64 y0) := (HQ4.out.cell 0).trans rfl
      have q1 : w4.cell? ⟨nb, 1, none⟩ = some (.int .i64 y1) := (HQ4.out.cell 1).trans rfl
      have q2 : w4.cell? ⟨nb, 2, none⟩ = some (.int .i64 y2) := (HQ4.out.cell 2).trans rfl
      have q3 : w4.cell? ⟨nb, 3, none⟩ = some (.int .i64 y3) := (HQ4.out.cell 3).trans rfl
      have q4 : w4.cell? ⟨nb, 4, none⟩ = some (.int .i64 y4) := (HQ4.out.cell 4).trans rfl
      have q5 : w4.cell? ⟨nb, 5, none⟩ = some (.int .i64 y5) := (HQ4.out.cell 5).trans rfl
      have q6 : w4.cell? ⟨nb, 6, none⟩ = some (.int .i64 y6) := (HQ4.out.cell 6).trans rfl
      have q7 : w4.cell? ⟨nb, 7, none⟩ = some (.int .i64 y7) := (HQ4.out.cell 7).trans rfl
      have q8 : w4.cell? ⟨nb, 8, none⟩ = some (.bool y8) := (HQ4.out.cell 8).trans rfl
      have q9 : w4.cell? ⟨nb, 9, none⟩ = some (.int .i64 y9) := (HQ4.out.cell 9).trans rfl
      have q10 : w4.cell? ⟨nb, 10, none⟩ = some (.int .i64 y10) := (HQ4.out.cell 10).trans rfl
      have q11 : w4.cell? ⟨nb, 11, none⟩ = some (.int .i64 (x11 + 1)) := (HQ4.out.cell 11).trans rfl
      have q12 : w4.cell? ⟨nb, 12, none⟩ = some (.int .i64 y12) := (HQ4.out.cell 12).trans rfl
      have q13 : w4.cell? ⟨nb, 13, none⟩ = some (.bool y13) := (HQ4.out.cell 13).trans rfl
      go_wp2_with (first
        | (refine wpList_store_th rfl (.tmp 4) (.tmp 30) rfl rb ⟨y0, y1, y2, y3, y4, y5, y6, y7, y8, y9, y10, x11 + 1, y12, y13⟩ _ rfl rfl HB4.out rfl ?_
           intro wX hX hCX
           have HX := Lib.hid hX
           have HNX := Lib.hid (HN4.out.trans hCX (fun i hi h => by rw [h, Hrb.out] at hi; omega))
           clear hX hCX)
        | fail)
      have g0 : wX.cell? ⟨rb, 0, none⟩ = some (.int .i64 y0) := (HX.out.cell 0).trans rfl
      have g1 : wX.cell? ⟨rb, 1, none⟩ = some (.int .i64 y1) := (HX.out.cell 1).trans rfl
      have g2 : wX.cell? ⟨rb, 2, none⟩ = some (.int .i64 y2) := (HX.out.cell 2).trans rfl
      have g3 : wX.cell? ⟨rb, 3, none⟩ = some (.int .i64 y3) := (HX.out.cell 3).trans rfl
      have g4 : wX.cell? ⟨rb, 4, none⟩ = some (.int .i64 y4) := (HX.out.cell 4).trans rfl
      have g5 : wX.cell? ⟨rb, 5, none⟩ = some (.int .i64 y5) := (HX.out.cell 5).trans rfl
      have g6 : wX.cell? ⟨rb, 6, none⟩ = some (.int .i64 y6) := (HX.out.cell 6).trans rfl
      have g7 : wX.cell? ⟨rb, 7, none⟩ = some (.int .i64 y7) := (HX.out.cell 7).trans rfl
      have g8 : wX.cell? ⟨rb, 8, none⟩ = some (.bool y8) := (HX.out.cell 8).trans rfl
      have g9 : wX.cell? ⟨rb, 9, none⟩ = some (.int .i64 y9) := (HX.out.cell 9).trans rfl
      have g10 : wX.cell? ⟨rb, 10, none⟩ = some (.int .i64 y10) := (HX.out.cell 10).trans rfl
      have g11 : wX.cell? ⟨rb, 11, none⟩ = some (.int .i64 (x11 + 1)) := (HX.out.cell 11).trans rfl
      have g12 : wX.cell? ⟨rb, 12, none⟩ = some (.int .i64 y12) := (HX.out.cell 12).trans rfl
      have g13 : wX.cell? ⟨rb, 13, none⟩ = some (.bool y13) := (HX.out.cell 13).trans rfl
      refine bodyPost_ret (v := .tuple #[.agg #[.int .i64 y0, .int .i64 y1, .int .i64 y2, .int .i64 y3, .int .i64 y4, .int .i64 y5, .int .i64 y6, .int .i64 y7, .bool y8, .int .i64 y9, .int .i64 y10, .int .i64 (x11 + 1), .int .i64 y12, .bool y13], .int .i64 0]) (by simp [results, Try.results66, go_sem, g0, g1, g2, g3, g4, g5, g6, g7, g8, g9, g10, g11, g12, g13]) rfl ?_
      exact ⟨by first | (rw [HR.out]; done) | (rw [HR.out]; rfl), HNX.out⟩
  · have e1 : (ce == 0) = false := beq_eq_false_iff_ne.2 c2
    have e1' : (ce != 0) = true := bne_iff_ne.2 c2
    rw [if_pos c2] at hE
    subst hE
    rw [if_neg c2] at hR
    have HR := Lib.hid hR
    clear hR c2 Hq
    go_wp2_with (first
      | (refine wpList_store_th rfl (.tmp 4) (.tmp 17) rfl rb pz _ rfl rfl HB3.out rfl ?_
         intro wX hX hCX
         have HX := Lib.hid hX
         have HNX := Lib.hid (HN3.out.trans hCX (fun i hi h => by rw [h, Hrb.out] at hi; omega))
         clear hX hCX)
      | fail)
    have g0 : wX.cell? ⟨rb, 0, none⟩ = some (.int .i64 pz.x0) := (HX.out.cell 0).trans rfl
    have g1 : wX.cell? ⟨rb, 1, none⟩ = some (.int .i64 pz.x1) := (HX.out.cell 1).trans rfl
    have g2 : wX.cell? ⟨rb, 2, none⟩ = some (.int .i64 pz.x2) := (HX.out.cell 2).trans rfl
    have g3 : wX.cell? ⟨rb, 3, none⟩ = some (.int .i64 pz.x3) := (HX.out.cell 3).trans rfl
    have g4 : wX.cell? ⟨rb, 4, none⟩ = some (.int .i64 pz.x4) := (HX.out.cell 4).trans rfl
    have g5 : wX.cell? ⟨rb, 5, none⟩ = some (.int .i64 pz.x5) := (HX.out.cell 5).trans rfl
    have g6 : wX.cell? ⟨rb, 6, none⟩ = some (.int .i64 pz.x6) := (HX.out.cell 6).trans rfl
    have g7 : wX.cell? ⟨rb, 7, none⟩ = some (.int .i64 pz.x7) := (HX.out.cell 7).trans rfl
    have g8 : wX.cell? ⟨rb, 8, none⟩ = some (.bool pz.x8) := (HX.out.cell 8).trans rfl
    have g9 : wX.cell? ⟨rb, 9, none⟩ = some (.int .i64 pz.x9) := (HX.out.cell 9).trans rfl
    have g10 : wX.cell? ⟨rb, 10, none⟩ = some (.int .i64 pz.x10) := (HX.out.cell 10).trans rfl
    have g11 : wX.cell? ⟨rb, 11, none⟩ = some (.int .i64 pz.x11) := (HX.out.cell 11).trans rfl
    have g12 : wX.cell? ⟨rb, 12, none⟩ = some (.int .i64 pz.x12) := (HX.out.cell 12).trans rfl
    have g13 : wX.cell? ⟨rb, 13, none⟩ = some (.bool pz.x13) := (HX.out.cell 13).trans rfl
    refine bodyPost_ret (v := .tuple #[.agg #[.int .i64 pz.x0, .int .i64 pz.x1, .int .i64 pz.x2, .int .i64 pz.x3, .int .i64 pz.x4, .int .i64 pz.x5, .int .i64 pz.x6, .int .i64 pz.x7, .bool pz.x8, .int .i64 pz.x9, .int .i64 pz.x10, .int .i64 pz.x11, .int .i64 pz.x12, .bool pz.x13], .int .i64 E]) (by simp [results, Try.results66, go_sem, g0, g1, g2, g3, g4, g5, g6, g7, g8, g9, g10, g11, g12, g13]) rfl ?_
    exact ⟨by first | (rw [HR.out]; done) | (rw [HR.out]; rfl), HNX.out⟩
end Go.Proofs.Ytkcokcanakljnaa
