/-
  Package lists: Get.
-/
import Derived.Test.YtficopkjpdfilaaLiO
import Derived.Test.YtficopkjpdfilaaLiP
import Derived.Test.YtficopkjpdfilaaLiJ
namespace Go.Proofs.Ytficopkjpdfilaa
open Go.RowKit
def getT (bs : List Nat) : Int := if getE bs = 0 then (num4 bs 0 : Int) else 0
def getA (bs : List Nat) : List It := if getE bs = 0 then getIts bs 6 (bs.getD 4 0) else []
def getO (bs : List Nat) : List It := if getE bs = 0 then getIts bs (6 + 20 * bs.getD 4 0) (bs.getD 5 0) else []
def GetR (w : World) (bs : List Nat) (e : Ending) (w' : World) : Prop :=
  (∃ A1 c1 A2 c2, e = .returned (.tuple #[.agg #[.int .i64 (getT bs), .slice A1 (getA bs).length c1, .slice A2 (getO bs).length c2], .int .i64 (getE bs)]) ∧ w'.ownsRow w.heap.size 44 5 (.slice A1 (getA bs).length c1) (getA bs).length (ics (getA bs)) ∧ w'.ownsRow w.heap.size 44 5 (.slice A2 (getO bs).length c2) (getO bs).length (ics (getO bs))) ∧ New w w'
theorem GetR.no {w w' : World} {bs : List Nat} {x : Int} (h : getE bs = x) (hx : x ≠ 0) (hN : New w w') : GetR w bs (.returned (.tuple #[.agg #[.int .i64 0, .slice none 0 0, .slice none 0 0], .int .i64 x])) w' := by
  subst h
  refine ⟨⟨none, 0, none, 0, ?_⟩, hN⟩
  unfold getT getA getO
  rw [if_neg hx, if_neg hx, if_neg hx]
  exact ⟨rfl, nil_own _ _, nil_own _ _⟩
theorem GetR.yes {w w' : World} {bs : List Nat} {n m c1 c2 b1 b2 : Nat} {A1 A2 : Option Addr} {tv : Int} (h : getE bs = 0) (hn : n = bs.getD 4 0) (hm : m = bs.getD 5 0) (ht : tv = (num4 bs 0 : Int)) (h1 : w'.ownsRow b1 44 5 (.slice A1 n c1) n (ics (getIts bs 6 n))) (h2 : w'.ownsRow b2 44 5 (.slice A2 m c2) m (ics (getIts bs (6 + 20 * n) m))) (hb1 : w.heap.size ≤ b1) (hb2 : w.heap.size ≤ b2) (hN : New w w') : GetR w bs (.returned (.tuple #[.agg #[.int .i64 tv, .slice A1 n c1, .slice A2 m c2], .int .i64 0])) w' := by
  subst hn hm ht
  refine ⟨⟨A1, c1, A2, c2, ?_⟩, hN⟩
  unfold getT getA getO
  rw [h, if_pos rfl, if_pos rfl, if_pos rfl, getIts_len, getIts_len]
  exact ⟨rfl, own_base h1 (fun k hk => Nat.le_trans hb1 (own_ge h1 k hk)), own_base h2 (fun k hk => Nat.le_trans hb2 (own_ge h2 k hk))⟩
def g3 (i : Nat) : Nat := if i = 0 then 32 else 8
theorem head_sum : sumN g3 3 = 48 := rfl
theorem head_short (len : Nat) (h : len < 6) : (chk (fun i => (g3 i : Int)) 3 (8 * len - (0 : Nat))) = 10 := by
  unfold chk
  rw [if_neg, if_pos]
  · rw [sumTo_cast, head_sum]; omega
  · rintro ⟨i, hi, h⟩
    apply h
    rcases (show i = 0 ∨ i = 1 ∨ i = 2 by omega) with rfl | rfl | rfl <;> decide
theorem head_cells (bs : List Nat) (h : 6 ≤ bs.length) (h256 : ∀ x ∈ bs, x < 256) : (List.range 3).map (nums bs 0 g3) = [.int .i64 (num4 bs 0 : Int), .int .i64 (bs.getD 4 0 : Int), .int .i64 (bs.getD 5 0 : Int)] := by
  have e0 : nums bs 0 g3 0 = .int .i64 (num4 bs 0 : Int) := by
    have := numAt_four bs 0 (by omega) h256
    show jV (numAt bs (0 + 0) 32) = _
    rw [Nat.mul_zero] at this
    rw [Nat.zero_add, this]
    rfl
  have e1 : nums bs 0 g3 1 = .int .i64 (bs.getD 4 0 : Int) := by
    have := numAt_one bs 4 (by omega) h256
    show jV (numAt bs 32 8) = _
    rw [this]
    rfl
  have e2 : nums bs 0 g3 2 = .int .i64 (bs.getD 5 0 : Int) := by
    have := numAt_one bs 5 (by omega) h256
    show jV (numAt bs 40 8) = _
    rw [this]
    rfl
  simp only [List.range, List.range.loop, List.map_cons, List.map_nil]
  rw [e0, e1, e2]
theorem getE_short {bs : List Nat} (h : bs.length < 6) : getE bs = 10 := by unfold getE; rw [if_pos h]
theorem getE_form {bs : List Nat} (h : 6 ≤ bs.length) (hb : inB 1 2147483647 [(num4 bs 0 : Int)] = false ∨ inB 0 64 [(bs.getD 4 0 : Int), (bs.getD 5 0 : Int)] = false) : getE bs = 12 := by
  unfold getE
  rw [if_neg (by omega), if_pos]
  rcases hb with hb | hb <;> rw [hb] <;> simp
theorem getE_rest {bs : List Nat} (h : 6 ≤ bs.length) (h1 : inB 1 2147483647 [(num4 bs 0 : Int)] = true) (h2 : inB 0 64 [(bs.getD 4 0 : Int), (bs.getD 5 0 : Int)] = true) : getE bs = if bs.length < 6 + 20 * (bs.getD 4 0 + bs.getD 5 0) then 10
  else if 6 + 20 * (bs.getD 4 0 + bs.getD 5 0) < bs.length then 14
  else if !((getIts bs 6 (bs.getD 4 0 + bs.getD 5 0)).all layB) then 12 else 0 := by
  unfold getE
  rw [if_neg (by omega), if_neg (by rw [h1, h2]; decide)]
theorem wrap_need (n m : Nat) (hn : n ≤ 64) (hm : m ≤ 64) : IntKind.i64.wrap ((n : Int) + (m : Int)) = (n : Int) + (m : Int) ∧ IntKind.i64.wrap (((n : Int) + (m : Int)) * 160) = ((n : Int) + (m : Int)) * 160 := by
  constructor <;> exact IntWalk.i64_in _ (by omega)
set_option maxRecDepth 100000 in
set_option maxHeartbeats 8000000 in
theorem Get_any (bs : List Nat) (A : Option Addr) (n c : Nat) (F : Nat → Prop) (w : World) (hA : Arr w F A n (fun i => bV (bs.getD i 0))) (hF : ∀ k, F k → k < w.heap.size) (hlen : bs.length = n) (hn : A = none → n = 0 ∧ c = 0) (hb : n ≤ 140737488351232) (h256 : ∀ x ∈ bs, x < 256) :
    Calls Try.prog 23 #[.slice A n c] w fun e w' => GetR w bs e w' := by
  have HRd := Lib.hid (bRead_any A n c F bs (w.alloc (.cells #[.int .i64 0, .slice none 0 0, .slice none 0 0] 37)) (hA.new ((Chg.refl _ _).alloc _) hF) hlen hn hb)
  have H256 := Lib.hid h256; clear h256
  have hlb : bs.length ≤ 140737488351232 := by rw [hlen]; exact hb
  clear hA hF hn hlen
  go_enter Try.func23, Try.ntmps23
  go_wp2_with fail
  with_reducible refine HRd.out.mono ?_
  rintro e w1 ⟨b, rfl, hR, hN, hbl⟩
  have HZ1 := Lib.hid ((Has.new w 37 #[.int .i64 0, .slice none 0 0, .slice none 0 0]).keep hN)
  have HN1 := Lib.hid (((Chg.refl (fun _ => False) w).alloc _).then_new hN)
  have HR1 := Lib.hid hR
  have hbw : w.heap.size < b := by simp at hbl; omega
  clear hR hN hbl HRd
  have hb1 : b < w1.heap.size := by obtain ⟨cs, hcs⟩ := HR1.out.has; exact hcs.lt
  by_cases hs : bs.length < 6
  · have HE := Lib.hid (getE_short hs)
    have HT := Lib.hid (take_no b bs 0 (w1.alloc (.cells #[.int .i64 32, .int .i64 8, .int .i64 8] 3)) (HR1.out.new ((Chg.refl _ _).alloc _)) (by omega) (by omega) (some ⟨w1.heap.size, 0, none⟩) 3 3 (· = w1.heap.size) (fun i => (g3 i : Int)) (by omega) (fun i hi => by
      obtain ⟨a, ha, hb, hc⟩ := Arr.of_has (Has.new w1 3 #[.int .i64 32, .int .i64 8, .int .i64 8]) (n := 3) (by simp) i hi
      refine ⟨a, ha, hb, hc.trans ?_⟩
      rcases (show i = 0 ∨ i = 1 ∨ i = 2 by omega) with rfl | rfl | rfl <;> rfl) (by rw [head_short _ hs]; decide))
    rw [head_short _ hs] at HT
    clear hs
    go_wp2_with fail
    with_reducible refine HT.out.mono ?_
    rintro e w2 ⟨rfl, hR2, hC2⟩
    have HEr := Lib.hid (err_any b bs 0 10 w2 hR2)
    have HZ2 := Lib.hid ((HZ1.out.alloc (.cells #[.int .i64 32, .int .i64 8, .int .i64 8] 3)).chg hC2 (by omega))
    have HN2 := Lib.hid (New.set (HN1.out.alloc (.cells #[.int .i64 32, .int .i64 8, .int .i64 8] 3)) hC2 (by omega))
    clear hR2 hC2
    have zl := HZ2.out.lt
    have z0 : w2.cell? ⟨w.heap.size, 0, none⟩ = some (.int .i64 0) := (HZ2.out.cell 0).trans rfl
    have z1 : w2.cell? ⟨w.heap.size, 1, none⟩ = some (.slice none 0 0) := (HZ2.out.cell 1).trans rfl
    have z2 : w2.cell? ⟨w.heap.size, 2, none⟩ = some (.slice none 0 0) := (HZ2.out.cell 2).trans rfl
    have y0 := HZ2.out.free 0
    have y1 := HZ2.out.free 1
    have y2 := HZ2.out.free 2
    go_wp2_with fail
    with_reducible refine HEr.out.mono ?_
    rintro e w3 ⟨rfl, hw3⟩
    obtain rfl : w3 = w2 := hw3.symm
    clear hw3
    go_wp2_with fail
    obtain ⟨s1, s2⟩ := set3 HZ2.out (.int .i64 0) (.slice none 0 0) (.slice none 0 0)
    generalize ((w3.setCell ⟨w.heap.size, 0, none⟩ (.int .i64 0)).setCell ⟨w.heap.size, 1, none⟩ (.slice none 0 0)).setCell ⟨w.heap.size, 2, none⟩ (.slice none 0 0) = w99 at s1 s2 ⊢
    have q0 := (s1.cell 0).trans rfl
    have q1 := (s1.cell 1).trans rfl
    have q2 := (s1.cell 2).trans rfl
    refine bodyPost_ret (v := .tuple #[.agg #[.int .i64 0, .slice none 0 0, .slice none 0 0], .int .i64 10]) (by simp [results, Try.results23, go_sem, q0, q1, q2]) rfl ?_
    exact GetR.no HE.out (by decide) (New.set HN2.out s2 (Nat.le_refl _))
  · have h6 : 6 ≤ bs.length := by omega
    have HT := Lib.hid (take_ok b bs 0 (w1.alloc (.cells #[.int .i64 32, .int .i64 8, .int .i64 8] 3)) (HR1.out.new ((Chg.refl _ _).alloc _)) (by omega) H256.out (some ⟨w1.heap.size, 0, none⟩) 3 3 (· = w1.heap.size) g3 (by omega) (fun i hi => by
      obtain ⟨a, ha, hb, hc⟩ := Arr.of_has (Has.new w1 3 #[.int .i64 32, .int .i64 8, .int .i64 8]) (n := 3) (by simp) i hi
      refine ⟨a, ha, hb, hc.trans ?_⟩
      rcases (show i = 0 ∨ i = 1 ∨ i = 2 by omega) with rfl | rfl | rfl <;> rfl) (fun k hk => by subst hk; exact ⟨by simp, by omega⟩) (fun i hi => by rcases (show i = 0 ∨ i = 1 ∨ i = 2 by omega) with rfl | rfl | rfl <;> decide) (by rw [head_sum]; omega))
    rw [head_cells bs h6 H256.out, head_sum, Nat.zero_add] at HT
    obtain ⟨tn, htn⟩ : ∃ t, t = num4 bs 0 := ⟨_, rfl⟩
    obtain ⟨an, han⟩ : ∃ t, t = bs.getD 4 0 := ⟨_, rfl⟩
    obtain ⟨on, hon⟩ : ∃ t, t = bs.getD 5 0 := ⟨_, rfl⟩
    rw [← htn, ← han, ← hon] at HT
    have HF0 := Lib.hid (getE_form h6)
    have HR0 := Lib.hid (getE_rest h6)
    rw [← htn, ← han, ← hon] at HF0 HR0
    have Htn := Lib.hid htn; clear htn
    have Han := Lib.hid han; clear han
    have Hon := Lib.hid hon; clear hon
    have HW1 := Lib.hid (fun g w h => within_1 1 2147483647 (tn : Int) g w h)
    have HW2 := Lib.hid (fun g w h => within_2 0 64 (an : Int) (on : Int) g w h)
    obtain ⟨b1, hb1'⟩ : ∃ b, b = inB 1 2147483647 [(tn : Int)] := ⟨_, rfl⟩
    obtain ⟨b2, hb2'⟩ : ∃ b, b = inB 0 64 [(an : Int), (on : Int)] := ⟨_, rfl⟩
    rw [← hb1'] at HW1 HF0 HR0
    rw [← hb2'] at HW2 HF0 HR0
    clear hb1'
    have Hb2 := Lib.hid hb2'; clear hb2'
    go_wp2_with fail
    with_reducible refine HT.out.mono ?_
    rintro e w2 ⟨A2, c2, rfl, hO2, hR2, hC2⟩
    have HEr := Lib.hid (err_any b bs 48 0 w2 hR2)
    have HZ2 := Lib.hid ((HZ1.out.alloc (.cells #[.int .i64 32, .int .i64 8, .int .i64 8] 3)).chg hC2 (by omega))
    have HN2 := Lib.hid (New.set (HN1.out.alloc (.cells #[.int .i64 32, .int .i64 8, .int .i64 8] 3)) hC2 (by omega))
    have HR2 := Lib.hid hR2
    obtain ⟨g2, hg2, hcell⟩ := own_some hO2 (show 0 < 3 by omega)
    subst hg2
    have m0 : w2.cell? ⟨g2, 0, none⟩ = some (.int .i64 (tn : Int)) := hcell 0 (by omega)
    have m1 : w2.cell? ⟨g2, 1, none⟩ = some (.int .i64 (an : Int)) := hcell 1 (by omega)
    have m2 : w2.cell? ⟨g2, 2, none⟩ = some (.int .i64 (on : Int)) := hcell 2 (by omega)
    clear hR2 hC2 hcell hO2
    go_wp2_with fail
    with_reducible refine HEr.out.mono ?_
    rintro e w3 ⟨rfl, hw3⟩
    obtain rfl : w3 = w2 := hw3.symm
    clear hw3
    go_wp2_with fail
    go_region
    clear m0 m1 m2
    obtain ⟨w4, hw4⟩ : ∃ w4, w4 = w3.drew := ⟨_, rfl⟩
    rw [← hw4]
    have HZ4 : Hid (Has w4 w.heap.size 37 #[.int .i64 0, .slice none 0 0, .slice none 0 0]) := by rw [Hid, hw4]; exact HZ2.out
    have HN4 : Hid (New w w4) := by rw [Hid, hw4]; exact HN2.out.drew
    have HR4 : Hid (Rd w4 b bs 48 0) := by rw [Hid, hw4]; exact HR2.out
    clear hw4
    go_wp2_with fail
    with_reducible refine (HW1.out _ _ (Has.new _ _ _)).mono ?_
    rintro e w5 ⟨rfl, hN⟩
    have hNx := ((Chg.refl (fun _ => False) w4).alloc _).then_new hN
    have HZ5 := Lib.hid (HZ4.out.keep hNx)
    have HN5 := Lib.hid (HN4.out.then_new hNx)
    have HR5 := Lib.hid (HR4.out.new hNx)
    clear hN hNx
    cases b1 with
    | false =>
      have HE : Hid (getE bs = 12) := HF0.out (Or.inl (by trivial))
      have zl := HZ5.out.lt
      have z0 : w5.cell? ⟨w.heap.size, 0, none⟩ = some (.int .i64 0) := (HZ5.out.cell 0).trans rfl
      have z1 : w5.cell? ⟨w.heap.size, 1, none⟩ = some (.slice none 0 0) := (HZ5.out.cell 1).trans rfl
      have z2 : w5.cell? ⟨w.heap.size, 2, none⟩ = some (.slice none 0 0) := (HZ5.out.cell 2).trans rfl
      have y0 := HZ5.out.free 0
      have y1 := HZ5.out.free 1
      have y2 := HZ5.out.free 2
      go_wp2_with fail
      obtain ⟨s1, s2⟩ := set3 HZ5.out (.int .i64 0) (.slice none 0 0) (.slice none 0 0)
      generalize ((w5.setCell ⟨w.heap.size, 0, none⟩ (.int .i64 0)).setCell ⟨w.heap.size, 1, none⟩ (.slice none 0 0)).setCell ⟨w.heap.size, 2, none⟩ (.slice none 0 0) = w99 at s1 s2 ⊢
      have q0 := (s1.cell 0).trans rfl
      have q1 := (s1.cell 1).trans rfl
      have q2 := (s1.cell 2).trans rfl
      refine bodyPost_ret (v := .tuple #[.agg #[.int .i64 0, .slice none 0 0, .slice none 0 0], .int .i64 12]) (by simp [results, Try.results23, go_sem, q0, q1, q2]) rfl ?_
      exact GetR.no HE.out (by decide) (New.set HN5.out s2 (Nat.le_refl _))
    | true =>
      go_wp2_with fail
      with_reducible refine (HW2.out _ _ (Has.new _ _ _)).mono ?_
      rintro e w6 ⟨rfl, hN⟩
      have hNx := ((Chg.refl (fun _ => False) w5).alloc _).then_new hN
      have HZ6 := Lib.hid (HZ5.out.keep hNx)
      have HN6 := Lib.hid (HN5.out.then_new hNx)
      have HR6 := Lib.hid (HR5.out.new hNx)
      clear hN hNx
      cases b2 with
      | false =>
        have HE : Hid (getE bs = 12) := HF0.out (Or.inr (by trivial))
        have zl := HZ6.out.lt
        have z0 : w6.cell? ⟨w.heap.size, 0, none⟩ = some (.int .i64 0) := (HZ6.out.cell 0).trans rfl
        have z1 : w6.cell? ⟨w.heap.size, 1, none⟩ = some (.slice none 0 0) := (HZ6.out.cell 1).trans rfl
        have z2 : w6.cell? ⟨w.heap.size, 2, none⟩ = some (.slice none 0 0) := (HZ6.out.cell 2).trans rfl
        have y0 := HZ6.out.free 0
        have y1 := HZ6.out.free 1
        have y2 := HZ6.out.free 2
        go_wp2_with fail
        obtain ⟨s1, s2⟩ := set3 HZ6.out (.int .i64 0) (.slice none 0 0) (.slice none 0 0)
        generalize ((w6.setCell ⟨w.heap.size, 0, none⟩ (.int .i64 0)).setCell ⟨w.heap.size, 1, none⟩ (.slice none 0 0)).setCell ⟨w.heap.size, 2, none⟩ (.slice none 0 0) = w99 at s1 s2 ⊢
        have q0 := (s1.cell 0).trans rfl
        have q1 := (s1.cell 1).trans rfl
        have q2 := (s1.cell 2).trans rfl
        refine bodyPost_ret (v := .tuple #[.agg #[.int .i64 0, .slice none 0 0, .slice none 0 0], .int .i64 12]) (by simp [results, Try.results23, go_sem, q0, q1, q2]) rfl ?_
        exact GetR.no HE.out (by decide) (New.set HN6.out s2 (Nat.le_refl _))
      | true =>
        have hsm : an ≤ 64 ∧ on ≤ 64 := by have h := Hb2.out; simp [inB] at h; omega
        obtain ⟨ha64, ho64⟩ := hsm
        have HE0 := Lib.hid (HR0.out (by trivial) (by trivial))
        have HLf := Lib.hid (rd_left b bs 48 0 w6 HR6.out (by omega) (by omega))
        obtain ⟨wr1, wr2⟩ := wrap_need an on ha64 ho64
        obtain ⟨nd, hnd⟩ : ∃ nd : Int, nd = ((an : Int) + (on : Int)) * 160 := ⟨_, rfl⟩
        obtain ⟨lf, hlf⟩ : ∃ lf : Int, lf = 8 * bs.length - (48 : Nat) := ⟨_, rfl⟩
        rw [← hlf] at HLf
        rw [← hnd] at wr2
        have Hlf := Lib.hid hlf
        have hR7 : ∀ q, Rd (w6.drewN q) b bs 48 0 := fun q => HR6.out.new ((Chg.refl _ _).drewN q)
        have HR7 := Lib.hid hR7; clear hR7
        by_cases hlt : lf < nd
        · have t1 : decide (lf < nd) = true := decide_eq_true hlt
          have HE : Hid (getE bs = 10) := HE0.out.trans (if_pos (by omega))
          have Hnd := Lib.hid hnd.symm
          clear hlf hnd hlt
          go_wp2_with fail
          rw [Hnd.out]
          with_reducible refine HLf.out.mono ?_
          rintro e w7 ⟨rfl, q, hw7⟩
          have HZ7 : Hid (Has w7 w.heap.size 37 #[.int .i64 0, .slice none 0 0, .slice none 0 0]) := by rw [Hid, hw7]; exact HZ6.out.drewN q
          have HN7 : Hid (New w w7) := by rw [Hid, hw7]; exact HN6.out.drewN q
          clear hw7
          have zl := HZ7.out.lt
          have z0 : w7.cell? ⟨w.heap.size, 0, none⟩ = some (.int .i64 0) := (HZ7.out.cell 0).trans rfl
          have z1 : w7.cell? ⟨w.heap.size, 1, none⟩ = some (.slice none 0 0) := (HZ7.out.cell 1).trans rfl
          have z2 : w7.cell? ⟨w.heap.size, 2, none⟩ = some (.slice none 0 0) := (HZ7.out.cell 2).trans rfl
          have y0 := HZ7.out.free 0
          have y1 := HZ7.out.free 1
          have y2 := HZ7.out.free 2
          go_wp2_with fail
          obtain ⟨s1, s2⟩ := set3 HZ7.out (.int .i64 0) (.slice none 0 0) (.slice none 0 0)
          generalize ((w7.setCell ⟨w.heap.size, 0, none⟩ (.int .i64 0)).setCell ⟨w.heap.size, 1, none⟩ (.slice none 0 0)).setCell ⟨w.heap.size, 2, none⟩ (.slice none 0 0) = w99 at s1 s2 ⊢
          have q0 := (s1.cell 0).trans rfl
          have q1 := (s1.cell 1).trans rfl
          have q2 := (s1.cell 2).trans rfl
          refine bodyPost_ret (v := .tuple #[.agg #[.int .i64 0, .slice none 0 0, .slice none 0 0], .int .i64 10]) (by simp [results, Try.results23, go_sem, q0, q1, q2]) rfl ?_
          exact GetR.no HE.out (by decide) (New.set HN7.out s2 (Nat.le_refl _))
        · have t1 : decide (lf < nd) = false := decide_eq_false hlt
          by_cases hgt : nd < lf
          · have t2 : decide (nd < lf) = true := decide_eq_true hgt
            have HE : Hid (getE bs = 14) := HE0.out.trans (by rw [if_neg (by omega), if_pos (by omega)])
            have Hnd := Lib.hid hnd.symm
            clear hlf hnd hlt hgt
            go_wp2_with fail
            rw [Hnd.out]
            with_reducible refine HLf.out.mono ?_
            rintro e w7 ⟨rfl, q, hw7⟩
            have HZ7 : Hid (Has w7 w.heap.size 37 #[.int .i64 0, .slice none 0 0, .slice none 0 0]) := by rw [Hid, hw7]; exact HZ6.out.drewN q
            have HN7 : Hid (New w w7) := by rw [Hid, hw7]; exact HN6.out.drewN q
            have HR7 : Hid (Rd w7 b bs 48 0) := by rw [Hid, hw7]; exact HR7.out q
            have HLg := Lib.hid (rd_left b bs 48 0 w7 HR7.out (by omega) (by omega))
            rw [← Hlf.out] at HLg
            clear hw7
            go_wp2_with fail
            with_reducible refine HLg.out.mono ?_
            rintro e w8 ⟨rfl, q, hw8⟩
            have HZ8 : Hid (Has w8 w.heap.size 37 #[.int .i64 0, .slice none 0 0, .slice none 0 0]) := by rw [Hid, hw8]; exact HZ7.out.drewN q
            have HN8 : Hid (New w w8) := by rw [Hid, hw8]; exact HN7.out.drewN q
            clear hw8
            have zl := HZ8.out.lt
            have z0 : w8.cell? ⟨w.heap.size, 0, none⟩ = some (.int .i64 0) := (HZ8.out.cell 0).trans rfl
            have z1 : w8.cell? ⟨w.heap.size, 1, none⟩ = some (.slice none 0 0) := (HZ8.out.cell 1).trans rfl
            have z2 : w8.cell? ⟨w.heap.size, 2, none⟩ = some (.slice none 0 0) := (HZ8.out.cell 2).trans rfl
            have y0 := HZ8.out.free 0
            have y1 := HZ8.out.free 1
            have y2 := HZ8.out.free 2
            go_wp2_with fail
            obtain ⟨s1, s2⟩ := set3 HZ8.out (.int .i64 0) (.slice none 0 0) (.slice none 0 0)
            generalize ((w8.setCell ⟨w.heap.size, 0, none⟩ (.int .i64 0)).setCell ⟨w.heap.size, 1, none⟩ (.slice none 0 0)).setCell ⟨w.heap.size, 2, none⟩ (.slice none 0 0) = w99 at s1 s2 ⊢
            have q0 := (s1.cell 0).trans rfl
            have q1 := (s1.cell 1).trans rfl
            have q2 := (s1.cell 2).trans rfl
            refine bodyPost_ret (v := .tuple #[.agg #[.int .i64 0, .slice none 0 0, .slice none 0 0], .int .i64 14]) (by simp [results, Try.results23, go_sem, q0, q1, q2]) rfl ?_
            exact GetR.no HE.out (by decide) (New.set HN8.out s2 (Nat.le_refl _))
          · have t2 : decide (nd < lf) = false := decide_eq_false hgt
            have HL : Hid (6 + 20 * (an + on) = bs.length) := by rw [Hid]; omega
            have HE1 : Hid (getE bs = if !((getIts bs 6 (an + on)).all layB) then 12 else 0) := HE0.out.trans (by rw [if_neg (by omega), if_neg (by omega)])
            have Hnd := Lib.hid hnd.symm
            clear hlf hnd hlt hgt
            go_wp2_with fail
            rw [Hnd.out]
            with_reducible refine HLf.out.mono ?_
            rintro e w7 ⟨rfl, q, hw7⟩
            have HZ7 : Hid (Has w7 w.heap.size 37 #[.int .i64 0, .slice none 0 0, .slice none 0 0]) := by rw [Hid, hw7]; exact HZ6.out.drewN q
            have HN7 : Hid (New w w7) := by rw [Hid, hw7]; exact HN6.out.drewN q
            have HR7 : Hid (Rd w7 b bs 48 0) := by rw [Hid, hw7]; exact HR7.out q
            have HLg := Lib.hid (rd_left b bs 48 0 w7 HR7.out (by omega) (by omega))
            rw [← Hlf.out] at HLg
            clear hw7
            go_wp2_with fail
            with_reducible refine HLg.out.mono ?_
            rintro e w8 ⟨rfl, q, hw8⟩
            have HZ8 : Hid (Has w8 w.heap.size 37 #[.int .i64 0, .slice none 0 0, .slice none 0 0]) := by rw [Hid, hw8]; exact HZ7.out.drewN q
            have HN8 : Hid (New w w8) := by rw [Hid, hw8]; exact HN7.out.drewN q
            have hR8 : Rd w8 b bs (8 * 6) 0 := by rw [hw8]; exact HR7.out.new ((Chg.refl _ _).drewN q)
            have HT1 := Lib.hid (takeItems_any b bs 6 an w8 hR8 (by have := HL.out; omega) (by omega) H256.out ha64)
            have HB8 : Hid (b < w8.heap.size) := by obtain ⟨cs, hcs⟩ := hR8.has; exact hcs.lt
            clear hw8 hR8
            go_wp2_with fail
            with_reducible refine HT1.out.mono ?_
            rintro e w9 ⟨A9, c9, rfl, hO9, hR9, hC9⟩
            have HO9 := Lib.hid hO9
            have HZ9 := Lib.hid (HZ8.out.chg hC9 (by omega))
            have HN9 := Lib.hid (New.set HN8.out hC9 (by omega))
            have HT2 := Lib.hid (takeItems_any b bs (6 + 20 * an) on w9 hR9 (by have := HL.out; omega) (by omega) H256.out ho64)
            have hb8 : b < w8.heap.size := HB8.out
            have Hb8 := Lib.hid hb8
            clear hO9 hR9 hC9 hb8
            go_wp2_with fail
            with_reducible refine HT2.out.mono ?_
            rintro e w10 ⟨A10, c10, rfl, hO10, hR10, hC10⟩
            have HO10 := Lib.hid hO10
            have HZ10 := Lib.hid (HZ9.out.chg hC10 (by omega))
            have HN10 := Lib.hid (New.set HN9.out hC10 (by omega))
            have HP9 := Lib.hid (own_chg HO9.out hC10 (fun k hk e => by have h1 := own_ge HO9.out k hk; have h2 := Hb8.out; rw [e] at h1; omega))
            clear hO10 hR10 hC10
            have HG : Hid (∀ wy, New (w10.alloc (.cells #[.int .i64 (tn : Int), .slice A9 an c9, .slice A10 on c10] 37)) wy → Has wy w10.heap.size 37 #[.int .i64 (tn : Int), .slice A9 an c9, .slice A10 on c10]) := fun wy hy => (Has.new w10 37 #[.int .i64 (tn : Int), .slice A9 an c9, .slice A10 on c10]).keep hy
            have hN11 : New w10 (w10.alloc (.cells #[.int .i64 (tn : Int), .slice A9 an c9, .slice A10 on c10] 37)) := (Chg.refl _ _).alloc _
            have HN11 := Lib.hid hN11
            have HY1 := Lib.hid (fun wy (hy : New w10 wy) => layable_any (getIts bs 6 an) A9 an c9 wy _ (getIts_len ..) (by omega) ((Its.of_own HP9.out).new hy (own_lt HP9.out)) (fun k hk => Nat.lt_of_lt_of_le (own_lt HP9.out k hk) hy.size))
            have HY2 := Lib.hid (fun wy (hy : New w10 wy) => layable_any (getIts bs (6 + 20 * an) on) A10 on c10 wy _ (getIts_len ..) (by omega) ((Its.of_own HO10.out).new hy (own_lt HO10.out)) (fun k hk => Nat.lt_of_lt_of_le (own_lt HO10.out k hk) hy.size))
            obtain ⟨d1, hd1⟩ : ∃ d, d = (getIts bs 6 an).all layB := ⟨_, rfl⟩
            obtain ⟨d2, hd2⟩ : ∃ d, d = (getIts bs (6 + 20 * an) on).all layB := ⟨_, rfl⟩
            have HE2 : Hid (getE bs = if !(d1 && d2) then 12 else 0) := HE1.out.trans (by rw [getIts_add, List.all_append, hd1, hd2])
            rw [← hd1] at HY1
            rw [← hd2] at HY2
            clear hd1 hd2 hN11
            go_wp2_with fail
            with_reducible refine (HY1.out _ HN11.out).mono ?_
            rintro e w12 ⟨rfl, hN12⟩
            have HM12 := Lib.hid hN12
            have hG := HG.out _ HM12.out
            have gl := hG.lt
            have g0 : w12.cell? ⟨w10.heap.size, 0, none⟩ = some (.int .i64 (tn : Int)) := (hG.cell 0).trans rfl
            have g1 : w12.cell? ⟨w10.heap.size, 1, none⟩ = some (.slice A9 an c9) := (hG.cell 1).trans rfl
            have g2 : w12.cell? ⟨w10.heap.size, 2, none⟩ = some (.slice A10 on c10) := (hG.cell 2).trans rfl
            have HZ12 := Lib.hid (HZ10.out.keep (HN11.out.then_new HM12.out))
            have HN12 := Lib.hid (HN10.out.then_new (HN11.out.then_new HM12.out))
            clear hN12 hG
            cases d1 with
            | false =>
              have HE : Hid (getE bs = 12) := HE2.out.trans (by simp)
              have zl := HZ12.out.lt
              have z0 : w12.cell? ⟨w.heap.size, 0, none⟩ = some (.int .i64 0) := (HZ12.out.cell 0).trans rfl
              have z1 : w12.cell? ⟨w.heap.size, 1, none⟩ = some (.slice none 0 0) := (HZ12.out.cell 1).trans rfl
              have z2 : w12.cell? ⟨w.heap.size, 2, none⟩ = some (.slice none 0 0) := (HZ12.out.cell 2).trans rfl
              have y0 := HZ12.out.free 0
              have y1 := HZ12.out.free 1
              have y2 := HZ12.out.free 2
              go_wp2_with fail
              obtain ⟨s1, s2⟩ := set3 HZ12.out (.int .i64 0) (.slice none 0 0) (.slice none 0 0)
              generalize ((w12.setCell ⟨w.heap.size, 0, none⟩ (.int .i64 0)).setCell ⟨w.heap.size, 1, none⟩ (.slice none 0 0)).setCell ⟨w.heap.size, 2, none⟩ (.slice none 0 0) = w99 at s1 s2 ⊢
              have q0 := (s1.cell 0).trans rfl
              have q1 := (s1.cell 1).trans rfl
              have q2 := (s1.cell 2).trans rfl
              refine bodyPost_ret (v := .tuple #[.agg #[.int .i64 0, .slice none 0 0, .slice none 0 0], .int .i64 12]) (by simp [results, Try.results23, go_sem, q0, q1, q2]) rfl ?_
              exact GetR.no HE.out (by decide) (New.set HN12.out s2 (Nat.le_refl _))
            | true =>
              go_wp2_with fail
              with_reducible refine (HY2.out _ (HN11.out.then_new HM12.out)).mono ?_
              rintro e w13 ⟨rfl, hN13⟩
              have HM13 := Lib.hid (HM12.out.then_new hN13)
              have HZ13 := Lib.hid (HZ10.out.keep (HN11.out.then_new HM13.out))
              have HN13 := Lib.hid (HN10.out.then_new (HN11.out.then_new HM13.out))
              clear hN13 g0 g1 g2 gl
              cases d2 with
              | false =>
                have HE : Hid (getE bs = 12) := HE2.out.trans (by simp)
                have zl := HZ13.out.lt
                have z0 : w13.cell? ⟨w.heap.size, 0, none⟩ = some (.int .i64 0) := (HZ13.out.cell 0).trans rfl
                have z1 : w13.cell? ⟨w.heap.size, 1, none⟩ = some (.slice none 0 0) := (HZ13.out.cell 1).trans rfl
                have z2 : w13.cell? ⟨w.heap.size, 2, none⟩ = some (.slice none 0 0) := (HZ13.out.cell 2).trans rfl
                have y0 := HZ13.out.free 0
                have y1 := HZ13.out.free 1
                have y2 := HZ13.out.free 2
                go_wp2_with fail
                obtain ⟨s1, s2⟩ := set3 HZ13.out (.int .i64 0) (.slice none 0 0) (.slice none 0 0)
                generalize ((w13.setCell ⟨w.heap.size, 0, none⟩ (.int .i64 0)).setCell ⟨w.heap.size, 1, none⟩ (.slice none 0 0)).setCell ⟨w.heap.size, 2, none⟩ (.slice none 0 0) = w99 at s1 s2 ⊢
                have q0 := (s1.cell 0).trans rfl
                have q1 := (s1.cell 1).trans rfl
                have q2 := (s1.cell 2).trans rfl
                refine bodyPost_ret (v := .tuple #[.agg #[.int .i64 0, .slice none 0 0, .slice none 0 0], .int .i64 12]) (by simp [results, Try.results23, go_sem, q0, q1, q2]) rfl ?_
                exact GetR.no HE.out (by decide) (New.set HN13.out s2 (Nat.le_refl _))
              | true =>
                have HE : Hid (getE bs = 0) := HE2.out.trans (by simp)
                have hG := HG.out _ HM13.out
                have gl := hG.lt
                have g0 : w13.cell? ⟨w10.heap.size, 0, none⟩ = some (.int .i64 (tn : Int)) := (hG.cell 0).trans rfl
                have g1 : w13.cell? ⟨w10.heap.size, 1, none⟩ = some (.slice A9 an c9) := (hG.cell 1).trans rfl
                have g2 : w13.cell? ⟨w10.heap.size, 2, none⟩ = some (.slice A10 on c10) := (hG.cell 2).trans rfl
                clear hG
                have zl := HZ13.out.lt
                have z0 : w13.cell? ⟨w.heap.size, 0, none⟩ = some (.int .i64 0) := (HZ13.out.cell 0).trans rfl
                have z1 : w13.cell? ⟨w.heap.size, 1, none⟩ = some (.slice none 0 0) := (HZ13.out.cell 1).trans rfl
                have z2 : w13.cell? ⟨w.heap.size, 2, none⟩ = some (.slice none 0 0) := (HZ13.out.cell 2).trans rfl
                have y0 := HZ13.out.free 0
                have y1 := HZ13.out.free 1
                have y2 := HZ13.out.free 2
                go_wp2_with fail
                obtain ⟨s1, s2⟩ := set3 HZ13.out (.int .i64 (tn : Int)) (.slice A9 an c9) (.slice A10 on c10)
                generalize ((w13.setCell ⟨w.heap.size, 0, none⟩ (.int .i64 (tn : Int))).setCell ⟨w.heap.size, 1, none⟩ (.slice A9 an c9)).setCell ⟨w.heap.size, 2, none⟩ (.slice A10 on c10) = w99 at s1 s2 ⊢
                have q0 := (s1.cell 0).trans rfl
                have q1 := (s1.cell 1).trans rfl
                have q2 := (s1.cell 2).trans rfl
                refine bodyPost_ret (v := .tuple #[.agg #[.int .i64 (tn : Int), .slice A9 an c9, .slice A10 on c10], .int .i64 0]) (by simp [results, Try.results23, go_sem, q0, q1, q2]) rfl ?_
                have hO1 := own_new HP9.out (HN11.out.then_new HM13.out)
                have hO2 := own_new HO10.out (HN11.out.then_new HM13.out)
                exact GetR.yes HE.out Han.out Hon.out (by rw [Htn.out]) (own_chg hO1 s2 (fun k hk e => own_apart hO1 HZ13.out (by decide) (by rw [hk]; exact congrArg some e))) (own_chg hO2 s2 (fun k hk e => own_apart hO2 HZ13.out (by decide) (by rw [hk]; exact congrArg some e))) HN8.out.size HN9.out.size (New.set HN13.out s2 (Nat.le_refl _))
end Go.Proofs.Ytficopkjpdfilaa
