/-
  What the document's own Stores comes to.
-/
import Derived.Test.YtjkpijinpfimiaaRefP
import Derived.Test.YtjkpijinpfimiaaRefQ
namespace Go.Proofs.Ytjkpijinpfimiaa
open Go.RowKit
theorem valid_ways {k o i : Int} {bad : Bool} (h : bad = !decide (1 ≤ k ∧ k ≤ 4 ∧ 1 ≤ o ∧ o ≤ 4 ∧ 1 ≤ i ∧ i ≤ 65535)) :
    (bad = true ∧ decide (k < 1) = true) ∨ (bad = true ∧ decide (k < 1) = false ∧ decide (4 < k) = true) ∨ (bad = true ∧ decide (k < 1) = false ∧ decide (4 < k) = false ∧ decide (o < 1) = true) ∨ (bad = true ∧ decide (k < 1) = false ∧ decide (4 < k) = false ∧ decide (o < 1) = false ∧ decide (4 < o) = true) ∨ (bad = true ∧ decide (k < 1) = false ∧ decide (4 < k) = false ∧ decide (o < 1) = false ∧ decide (4 < o) = false ∧ decide (i < 1) = true) ∨ (bad = !!decide (65535 < i) ∧ decide (k < 1) = false ∧ decide (4 < k) = false ∧ decide (o < 1) = false ∧ decide (4 < o) = false ∧ decide (i < 1) = false) := by
  subst h
  simp only [Bool.not_not, Bool.not_eq_true', decide_eq_true_eq, decide_eq_false_iff_not]
  by_cases h : 1 ≤ k ∧ k ≤ 4 ∧ 1 ≤ o ∧ o ≤ 4 ∧ 1 ≤ i
  · right; right; right; right; right
    refine ⟨?_, by omega, by omega, by omega, by omega, by omega⟩
    by_cases h2 : i ≤ 65535
    · rw [decide_eq_true (show 1 ≤ k ∧ k ≤ 4 ∧ 1 ≤ o ∧ o ≤ 4 ∧ 1 ≤ i ∧ i ≤ 65535 by omega), decide_eq_false (show ¬ 65535 < i by omega)]; rfl
    · rw [decide_eq_false (show ¬ (1 ≤ k ∧ k ≤ 4 ∧ 1 ≤ o ∧ o ≤ 4 ∧ 1 ≤ i ∧ i ≤ 65535) by omega), decide_eq_true (show 65535 < i by omega)]; rfl
  · omega
theorem own_put4 {w : World} {base e g c n : Nat} {xs : List Value} (h : w.ownsRow base e 4 (.slice (some ⟨g, 0, none⟩) n c) n xs) (i : Nat) (u : Value) : (w.setCell ⟨g, i, none⟩ u).ownsRow base e 4 (.slice (some ⟨g, 0, none⟩) n c) n (xs.set i u) := by
  refine ⟨by rw [List.length_set]; exact h.1, ?_⟩
  rcases h.2 with ⟨hv, _⟩ | ⟨g', cap, cur, hv, hb, hg, hnc, hcm, hcs, ht⟩
  · cases hv
  · simp only [Value.slice.injEq, Option.some.injEq, Addr.mk.injEq, and_true, true_and] at hv
    obtain ⟨rfl, rfl⟩ := hv
    refine Or.inr ⟨g, c, cur.setIfInBounds i u, rfl, hb, Has.set hg i u, hnc, hcm, by simp [hcs], ?_⟩
    rw [← ht, Array.toList_setIfInBounds, List.take_set]
theorem enRow_set (e : En) : ∀ (l : List En) (j : Nat), j < l.length → ((((enRow l).set (j * 4) (.int .i64 e.k)).set (j * 4 + 1) (.int .i64 e.o)).set (j * 4 + 2) (.int .i64 e.i)).set (j * 4 + 3) (.int .i64 e.s) = enRow (l.set j e)
  | [], j, h => by simp at h
  | f :: l, 0, _ => rfl
  | f :: l, j + 1, h => by
    have ih := enRow_set e l j (by simpa using h)
    have h1 : enRow (f :: l) = enCells f ++ enRow l := rfl
    have h4 : (enCells f).length = 4 := rfl
    rw [List.set_cons_succ, show enRow (f :: l.set j e) = enCells f ++ enRow (l.set j e) from rfl, ← ih, h1]
    rw [List.set_append_right _ _ (by omega), List.set_append_right _ _ (by omega), List.set_append_right _ _ (by omega), List.set_append_right _ _ (by omega), h4]
    rw [show (j + 1) * 4 - 4 = j * 4 by omega, show (j + 1) * 4 + 1 - 4 = j * 4 + 1 by omega, show (j + 1) * 4 + 2 - 4 = j * 4 + 2 by omega, show (j + 1) * 4 + 3 - 4 = j * 4 + 3 by omega]
def StrR (v : Vw) (e : En) (body : List Nat) (w : World) (x : Ending) (w' : World) : Prop :=
  (stE v e body.length ≠ 0 ∧ x = .returned (.tuple #[.slice none 0 0, .int .i64 (stE v e body.length)])) ∨
  (stE v e body.length = 0 ∧ ∃ g, x = .returned (.tuple #[.slice (some ⟨g, 0, none⟩) 3 3, .int .i64 0]) ∧ Rws w' (fun k => w.heap.size ≤ k ∧ k < w'.heap.size) (some ⟨g, 0, none⟩) (stR v e body))
theorem StrR.no {v : Vw} {e : En} {body : List Nat} {w w' : World} {x : Int} (h : stE v e body.length = x) (h0 : x ≠ 0) : StrR v e body w (.returned (.tuple #[.slice none 0 0, .int .i64 x])) w' := Or.inl ⟨by rw [h]; exact h0, by rw [h]⟩
set_option maxRecDepth 100000 in
set_option maxHeartbeats 8000000 in
theorem rStores_any (v : Vw) (e : En) (A : Option Addr) (n c : Nat) (A2 : Option Addr) (m c2 : Nat) (body : List Nat) (F : Nat → Prop) (w : World) (hE : Ents w F A v.es) (hF : ∀ k, F k → k < w.heap.size) (hn : v.es.length = n) (hnil : A = none → n = 0 ∧ c = 0) (hv : v.fine) (hA : Arr w F A2 m (fun i => bV (body.getD i 0))) (hm : body.length = m) (hb : ∀ x ∈ body, x < 256) (hm9 : m ≤ 140737488351232) :
    Calls Try.prog 27 #[.agg #[.int .i64 v.c, .int .i64 v.u, .int .i64 v.q, .int .i64 v.p, .slice A n c], .agg #[.int .i64 e.k, .int .i64 e.o, .int .i64 e.i, .int .i64 e.s], .slice A2 m c2] w fun x w' => StrR v e body w x w' ∧ New w w' := by
  obtain ⟨i0, hi, hz0, hz1, hz2⟩ := info_parts Try.infos60
  have HE := Lib.hid hE; clear hE
  have HF := Lib.hid hF; clear hF
  have Hn := Lib.hid hn; clear hn
  have Hnil := Lib.hid hnil; clear hnil
  have Hv := Lib.hid hv; clear hv
  have HA := Lib.hid hA; clear hA
  have Hm := Lib.hid hm; clear hm
  have Hbs := Lib.hid hb; clear hb
  have hn5 : n ≤ 5 := by rw [← Hn.out]; exact Hv.out.len
  obtain ⟨cd, hcd⟩ : ∃ x, x = v.c := ⟨_, rfl⟩
  obtain ⟨u, hu⟩ : ∃ x, x = v.u := ⟨_, rfl⟩
  obtain ⟨q, hq⟩ : ∃ q : Nat, v.q = (q : Int) := ⟨v.q.toNat, by have := Hv.out.q1; omega⟩
  obtain ⟨p, hp⟩ : ∃ p : Nat, v.p = (p : Int) := ⟨v.p.toNat, by rcases Hv.out.p with h | h <;> omega⟩
  obtain ⟨ek, hek⟩ : ∃ x, x = e.k := ⟨_, rfl⟩
  obtain ⟨eo, heo⟩ : ∃ x, x = e.o := ⟨_, rfl⟩
  obtain ⟨ei, hei⟩ : ∃ x, x = e.i := ⟨_, rfl⟩
  obtain ⟨es, hes⟩ : ∃ x, x = e.s := ⟨_, rfl⟩
  have hq1 : q ≤ 65535 := by have := Hv.out.q2; omega
  have hp1 : p = 1 ∨ p = 2 := by rcases Hv.out.p with h | h <;> omega
  rw [← hcd, ← hu, hq, hp, ← hek, ← heo, ← hei, ← hes]
  have Hq := Lib.hid hq
  have Hp := Lib.hid hp
  have Hek := Lib.hid hek
  have Heo := Lib.hid heo
  have Hei := Lib.hid hei
  clear hcd hu hq hp hek heo hei hes
  have HvE : Hid (stE v e body.length = if (1 ≤ ek ∧ ek ≤ 4 ∧ 1 ≤ eo ∧ eo ≤ 4 ∧ 1 ≤ ei ∧ ei ≤ 65535) then (if 64 < m then 11 else if atI eo ei v.es < 0 ∧ 5 ≤ n then 20 else if 65535 ≤ (q : Int) then 29 else if freeI v.es < 0 then 21 else 0) else 2) := by
    rw [Hid]
    unfold stE
    rw [Hm.out, Hn.out, Hq.out, Hek.out, Heo.out, Hei.out]
  obtain ⟨vb, hvb⟩ : ∃ b, b = w.heap.size := ⟨_, rfl⟩
  obtain ⟨eb, heb⟩ : ∃ b, b = w.heap.size + 1 := ⟨_, rfl⟩
  go_enter Try.func27, Try.ntmps27
  go_wp2_with fail
  obtain ⟨w1, hw1⟩ : ∃ w1, w1 = (w.alloc (.cells #[.int .i64 cd, .int .i64 u, .int .i64 (q : Int), .int .i64 (p : Int), .slice A n c] 34)).alloc (.cells #[.int .i64 ek, .int .i64 eo, .int .i64 ei, .int .i64 es] 60) := ⟨_, rfl⟩
  have HV1 : Hid (Has w1 vb 34 #[.int .i64 cd, .int .i64 u, .int .i64 (q : Int), .int .i64 (p : Int), .slice A n c]) := by rw [hw1, hvb]; exact (Has.new w 34 _).alloc _
  have HB1 : Hid (Has w1 eb 60 #[.int .i64 ek, .int .i64 eo, .int .i64 ei, .int .i64 es]) := by rw [hw1, heb]; exact Has.new_at _ 60 _ _ (by simp)
  have HN1 : Hid (New w w1) := by rw [hw1]; exact ((Chg.refl _ _).alloc _).alloc _
  rw [← hw1, ← heb, ← hvb]
  have Hve : Hid (vb ≠ eb ∧ w.heap.size ≤ vb ∧ w.heap.size ≤ eb) := by show _ ∧ _ ∧ _; omega
  clear hw1 hvb heb
  with_reducible refine (rAt_any cd u q p eo ei A n c F v.es w1 (HE.out.new HN1.out HF.out) (fun k hk => Nat.lt_of_lt_of_le (HF.out k hk) HN1.out.size) Hn.out (by omega)).mono ?_
  rintro x w2 ⟨rfl, hN2⟩
  have HV2 := Lib.hid (HV1.out.keep hN2)
  have HB2 := Lib.hid (HB1.out.keep hN2)
  have HN2 := Lib.hid (HN1.out.then_new hN2)
  clear hN2 HV1 HB1 HN1
  have e0 : w2.cell? ⟨eb, 0, none⟩ = some (.int .i64 ek) := (HB2.out.cell 0).trans rfl
  have e1 : w2.cell? ⟨eb, 1, none⟩ = some (.int .i64 eo) := (HB2.out.cell 1).trans rfl
  have e2 : w2.cell? ⟨eb, 2, none⟩ = some (.int .i64 ei) := (HB2.out.cell 2).trans rfl
  obtain ⟨bad, hbad⟩ : ∃ bad : Bool, bad = !decide (1 ≤ ek ∧ ek ≤ 4 ∧ 1 ≤ eo ∧ eo ≤ 4 ∧ 1 ≤ ei ∧ ei ≤ 65535) := ⟨_, rfl⟩
  have Hbad := Lib.hid hbad; clear hbad
  obtain ⟨at_, hat⟩ : ∃ a, a = atI eo ei v.es := ⟨_, rfl⟩
  rw [← hat] at HvE ⊢
  have Hat := Lib.hid hat; clear hat
  go_upto_region 2 with (fail)
  go_cut [46] (fun s46 wx => s46 = .bool bad ∧ w2 = wx)
  case first =>
    rcases valid_ways Hbad.out with ⟨hb, b0⟩ | ⟨hb, b0, b1⟩ | ⟨hb, b0, b1, b2⟩ | ⟨hb, b0, b1, b2, b3⟩ | ⟨hb, b0, b1, b2, b3, b4⟩ | ⟨hb, b0, b1, b2, b3, b4⟩
    all_goals
      go_wp2_with fail
      go_meet
      case rel => exact ⟨by first | (rw [hb]; done) | (rw [hb]; simp), rfl⟩
  case rest =>
  obtain ⟨rfl, hwc⟩ := hcut
  subst hwc
  have v2 : w2.cell? ⟨vb, 2, none⟩ = some (.int .i64 (q : Int)) := (HV2.out.cell 2).trans rfl
  have v4 : w2.cell? ⟨vb, 4, none⟩ = some (.slice A n c) := (HV2.out.cell 4).trans rfl
  cases bad with
  | true =>
    have Hd : Hid (stE v e body.length = 2) := by rw [Hid, HvE.out, if_neg (by have h := Hbad.out.symm; rw [Bool.not_eq_true', decide_eq_false_iff_not] at h; exact h)]
    go_wp2_with fail
    go_ret2
    exact ⟨StrR.no Hd.out (by decide), HN2.out⟩
  | false =>
  have Hok : Hid (1 ≤ ek ∧ ek ≤ 4 ∧ 1 ≤ eo ∧ eo ≤ 4 ∧ 1 ≤ ei ∧ ei ≤ 65535) := by have h := Hbad.out.symm; rw [Bool.not_eq_false', decide_eq_true_eq] at h; exact h
  rw [if_pos Hok.out] at HvE
  clear Hbad
  by_cases hm64 : m ≤ 64
  case neg =>
    have Hd : Hid (stE v e body.length = 11) := by rw [Hid, HvE.out, if_pos (by omega)]
    have tm : decide (64 < (m : Int)) = true := by simp only [decide_eq_true_eq]; omega
    go_wp2_with fail
    go_ret2
    exact ⟨StrR.no Hd.out (by decide), HN2.out⟩
  case pos =>
  have tm : decide (64 < (m : Int)) = false := by simp only [decide_eq_false_iff_not]; omega
  rw [if_neg (by omega)] at HvE
  by_cases hfull : at_ < 0 ∧ 5 ≤ n
  case pos =>
    have Hd : Hid (stE v e body.length = 20) := by rw [Hid, HvE.out, if_pos hfull]
    have ta : decide (at_ < 0) = true := by simp only [decide_eq_true_eq]; omega
    have tn : decide (5 ≤ (n : Int)) = true := by simp only [decide_eq_true_eq]; omega
    go_wp2_with fail
    go_ret2
    exact ⟨StrR.no Hd.out (by decide), HN2.out⟩
  case neg =>
  rw [if_neg hfull] at HvE
  go_upto_region 6 with (fail)
  go_cut [57] (fun s57 wx => s57 = .bool false ∧ w2 = wx)
  case first =>
    by_cases ha : at_ < 0
    · have ta : decide (at_ < 0) = true := by simpa using ha
      have tn : decide (5 ≤ (n : Int)) = false := by simp only [decide_eq_false_iff_not]; omega
      go_wp2_with fail
      go_meet
      case rel => exact ⟨rfl, rfl⟩
    · have ta : decide (at_ < 0) = false := by simpa using ha
      go_wp2_with fail
      go_meet
      case rel => exact ⟨rfl, rfl⟩
  case rest =>
  obtain ⟨rfl, hwc⟩ := hcut
  subst hwc
  by_cases hq2 : q = 65535
  case pos =>
    subst hq2
    have Hd : Hid (stE v e body.length = 29) := by rw [Hid, HvE.out, if_pos (by omega)]
    go_wp2_with fail
    go_ret2
    exact ⟨StrR.no Hd.out (by decide), HN2.out⟩
  case neg =>
  have tq : decide (65535 ≤ (q : Int)) = false := by simp only [decide_eq_false_iff_not]; omega
  rw [if_neg (by omega)] at HvE
  have v0 : w2.cell? ⟨vb, 0, none⟩ = some (.int .i64 cd) := (HV2.out.cell 0).trans rfl
  have v1 : w2.cell? ⟨vb, 1, none⟩ = some (.int .i64 u) := (HV2.out.cell 1).trans rfl
  have v3 : w2.cell? ⟨vb, 3, none⟩ = some (.int .i64 (p : Int)) := (HV2.out.cell 3).trans rfl
  go_wp2_with fail
  with_reducible refine (rFree_any cd u q p A n c F v.es w2 (HE.out.new HN2.out HF.out) (fun k hk => Nat.lt_of_lt_of_le (HF.out k hk) HN2.out.size) Hn.out (by omega)).mono ?_
  rintro x w3 ⟨rfl, hN3⟩
  have HV3 := Lib.hid (HV2.out.keep hN3)
  have HB3 := Lib.hid (HB2.out.keep hN3)
  have HN3 := Lib.hid (HN2.out.then_new hN3)
  clear hN3 HV2 HB2 HN2 e0 e1 e2 v0 v1 v2 v3 v4
  rcases freeI_cases v.es with hf | ⟨t, hf, ht6, hfree⟩
  · have Hd : Hid (stE v e body.length = 21) := by rw [Hid, HvE.out, if_pos (by omega)]
    rw [hf]
    go_wp2_with fail
    go_ret2
    exact ⟨StrR.no Hd.out (by decide), HN3.out⟩
  have Hd : Hid (stE v e body.length = 0) := by rw [Hid, HvE.out, if_neg (by omega)]
  rw [hf]
  have Hft := Lib.hid hf
  clear hf hfree HvE
  have e3 : w3.cell? ⟨eb, 3, none⟩ = some (.int .i64 es) := (HB3.out.cell 3).trans rfl
  have z3 := HB3.out.free 3
  go_upto_region 14 with (fail)
  obtain ⟨w4, hw4⟩ : ∃ w4, w4 = w3.setCell ⟨eb, 3, none⟩ (.int .i64 (t : Int)) := ⟨_, rfl⟩
  have hG4 : Chg (· = eb) w3 w4 := by rw [hw4]; exact Chg.setCell (S := (· = eb)) (Chg.refl _ _) (fun _ => rfl) _
  have HB4 : Hid (Has w4 eb 60 #[.int .i64 ek, .int .i64 eo, .int .i64 ei, .int .i64 (t : Int)]) := by rw [hw4]; exact HB3.out.set 3 _
  have HV4 := Lib.hid (HV3.out.chg hG4 Hve.out.1)
  have HN4 : Hid (New w w4) := HN3.out.trans hG4 (fun i hi h => by have := Hve.out; omega)
  rw [← hw4]
  clear hw4 hG4 HV3 HB3 HN3 e3 z3
  go_wp2_with (at_make; refine wpList_make_row rfl _ _ rfl 64 64 rfl rfl rfl (by omega) ?_)
  intro fb w5 Hfb hR5 hN5
  have HR5 := Lib.hid hR5
  have HB5 := Lib.hid (HB4.out.keep hN5)
  have HV5 := Lib.hid (HV4.out.keep hN5)
  have HN5 := Lib.hid (HN4.out.then_new hN5)
  have Hfv : Hid (fb ≠ vb ∧ fb ≠ eb ∧ w.heap.size ≤ fb) := by have := HV4.out.lt; have := HB4.out.lt; have := Hfb.out; have := HN4.out.size; show _ ∧ _ ∧ _; omega
  clear hR5 hN5 HB4 HV4 HN4
  go_wp2_with fail
  go_loopg [11] m (fun gk x wr => ∃ k : Nat, k ≤ m ∧ gk = m - k ∧ x = .int .i64 k ∧ Row wr fb (padk 64 body k) ∧ Has wr eb 60 #[.int .i64 ek, .int .i64 eo, .int .i64 ei, .int .i64 (t : Int)] ∧ Has wr vb 34 #[.int .i64 cd, .int .i64 u, .int .i64 (q : Int), .int .i64 (p : Int), .slice A n c] ∧ New w wr)
  case atStart => exact ⟨0, by omega, by omega, rfl, by rw [padk_zero]; exact HR5.out, HB5.out, HV5.out, HN5.out⟩
  case round =>
    clear HR5 HB5 HV5 HN5
    obtain ⟨k, hk, rfl, rfl, hR, hB, hV, hN⟩ := hrel
    have HB := Lib.hid hB
    have HV := Lib.hid hV
    have HN := Lib.hid hN
    by_cases hlt : k < m
    · obtain ⟨a, rfl, hab, hc⟩ := (HA.out.new hN HF.out) k hlt
      obtain ⟨y, hy⟩ : ∃ y, y = body.getD k 0 := ⟨_, rfl⟩
      replace hc : wr.cell? (a.add k) = some (.int .u8 (y : Int)) := by rw [hy]; exact hc
      obtain ⟨z, hzc⟩ : ∃ z, wr.cell? ⟨fb, k, none⟩ = some z := by
        rw [Has.cell hR k]
        exact ⟨_, Array.getElem?_eq_getElem (by simp [padk_len 64 body k (by omega)]; omega)⟩
      have hzf : wr.frozen? ⟨fb, k, none⟩ = false := Has.free hR k
      have hst : (padk 64 body k).set k y = padk 64 body (k + 1) := by rw [hy]; exact padk_step 64 body k (by rw [Hm.out]; exact hlt) (by rw [Hm.out]; exact hm64)
      have Hst := Lib.hid hst
      have HR := Lib.hid hR
      clear hR hB hV hN hst hy
      go_wp2_with fail
      go_roundg (m - (k + 1))
      case measure => omega
      case rel =>
        have hG : Chg (· = fb) wr (wr.setCell ⟨fb, k, none⟩ (.int .u8 (y : Int))) := Chg.setCell (S := (· = fb)) (Chg.refl _ _) (fun _ => rfl) _
        exact ⟨k + 1, by omega, rfl, by go_num, by rw [← Hst.out]; exact HR.out.set, HB.out.chg hG (fun h => Hfv.out.2.1 h.symm), HV.out.chg hG (fun h => Hfv.out.1 h.symm), HN.out.trans hG (fun i hi h => by have := Hfv.out; omega)⟩
    · obtain rfl : k = m := by omega
      have ep : padk 64 body k = pad 64 body := by rw [← Hm.out]; exact padk_all 64 body (by rw [Hm.out]; exact hm64)
      rw [ep] at hR
      have HR := Lib.hid hR
      have v4 : wr.cell? ⟨vb, 4, none⟩ = some (.slice A n c) := (hV.cell 4).trans rfl
      clear hR hB hV hN ep
      go_wp2_with (at_builtin; refine wpList_append_src rfl _ _ 28 rfl w.heap.size 60 i0 (.agg #[.int .i64 0, .int .i64 0, .int .i64 0, .int .i64 0]) 4 32 Try.underlying28 hi hz0 hz1 hz2 rfl (by decide) (.slice none 0 0) 0 [] rfl (World.ownsRow_nil _ _ _ _) A n c (enRow v.es) rfl Hnil.out (by rw [enRow_len, Hn.out]) (Ents.news (HE.out.new HN.out HF.out)) (enRow_one _) (by simp only [maxLen]; omega) (by omega) HN.out.size ?_)
      intro A7 c7 w7 hO7 hC7 hf7
      have hM7 : New wr w7 := hC7.mono (fun i _ h => by cases h)
      have HO7 := Lib.hid hO7
      have HB7 := Lib.hid (HB.out.keep hM7)
      have HV7 := Lib.hid (HV.out.keep hM7)
      have HR7 := Lib.hid (HR.out.new hM7)
      have HN7 := Lib.hid (HN.out.then_new hM7)
      clear hO7 hC7 hf7 hM7 HB HV HR HN v4
      obtain ⟨L, hL⟩ : ∃ L, L = stL v.es e := ⟨_, rfl⟩
      have HSnd : Hid (Sound L ∧ L.length ≤ 5) := by
        rw [hL]
        refine stL_fine Hv.out.sound Hv.out.len ?_ ?_ ?_
        · have h := Hok.out; rw [Hek.out, Heo.out, Hei.out] at h; exact h
        · rw [← Heo.out, ← Hei.out, ← Hat.out, Hn.out]; exact hfull
        · rw [Hft.out]; omega
      have HL1 : Hid (at_ < 0 → enRow L = enRow v.es ++ [.int .i64 ek, .int .i64 eo, .int .i64 ei, .int .i64 (t : Int)] ∧ L.length = n + 1) := by
        intro h
        have e8 : L = v.es ++ [e.at_ (t : Int)] := by rw [hL]; unfold stL; rw [← Heo.out, ← Hei.out, ← Hat.out, if_pos h, Hft.out]
        rw [e8, enRow_push, List.length_append, Hn.out, Hek.out, Heo.out, Hei.out]
        exact ⟨rfl, rfl⟩
      have HL2 : Hid (∀ j : Nat, at_ = j → j < n → enRow L = ((((enRow v.es).set (j * 4) (.int .i64 ek)).set (j * 4 + 1) (.int .i64 eo)).set (j * 4 + 2) (.int .i64 ei)).set (j * 4 + 3) (.int .i64 (t : Int)) ∧ L.length = n) := by
        intro j h hjn
        have e8 : L = v.es.set j (e.at_ (t : Int)) := by rw [hL]; unfold stL; rw [← Heo.out, ← Hei.out, ← Hat.out, h, if_neg (by omega), Hft.out, Int.toNat_natCast]
        rw [e8, ← enRow_set _ _ _ (by rw [Hn.out]; exact hjn), List.length_set, Hn.out, Hek.out, Heo.out, Hei.out]
        exact ⟨rfl, rfl⟩
      have HLd := Lib.hid hL; clear hL
      go_upto_if 86 with (fail)
      go_cut [12] (fun s12 wx => ∃ (B : Option Addr) (k cb : Nat), s12 = .slice B k cb ∧ L.length = k ∧ wx.ownsRow w.heap.size 60 4 (.slice B k cb) k (enRow L) ∧ Has wx vb 34 #[.int .i64 cd, .int .i64 u, .int .i64 (q : Int), .int .i64 (p : Int), .slice A n c] ∧ Row wx fb (pad 64 body) ∧ New w wx)
      case first =>
        have e0 : w7.cell? ⟨eb, 0, none⟩ = some (.int .i64 ek) := (HB7.out.cell 0).trans rfl
        have e1 : w7.cell? ⟨eb, 1, none⟩ = some (.int .i64 eo) := (HB7.out.cell 1).trans rfl
        have e2 : w7.cell? ⟨eb, 2, none⟩ = some (.int .i64 ei) := (HB7.out.cell 2).trans rfl
        have e3 : w7.cell? ⟨eb, 3, none⟩ = some (.int .i64 (t : Int)) := (HB7.out.cell 3).trans rfl
        have hebl := HB7.out.lt
        rcases atI_cases eo ei v.es with ⟨k1, k2⟩ | ⟨j, f, k1, k2, k3, k4⟩
        · rw [← Hat.out] at k1
          subst k1
          clear k2
          go_wp2_with (at_builtin; refine wpList_append_one rfl _ _ 28 rfl w.heap.size 60 i0 (.agg #[.int .i64 0, .int .i64 0, .int .i64 0, .int .i64 0]) 4 32 Try.underlying28 hi hz0 hz1 hz2 rfl (by decide) (.slice A7 n c7) n (enRow v.es) rfl HO7.out #[.int .i64 ek, .int .i64 eo, .int .i64 ei, .int .i64 (t : Int)] rfl rfl (by simp [Value.oneCell']) (by simp only [maxLen]; omega) (by omega) HN7.out.size ?_)
          intro A8 c8 w8 hO8 hC8 hf8
          have HO8 := Lib.hid hO8
          have HV8 := Lib.hid (HV7.out.chg hC8 (fun h => own_apart HO7.out HV7.out (by decide) h))
          have HR8 := Lib.hid (HR7.out.chg hC8 (fun h => own_apart HO7.out HR7.out (by decide) h))
          have HN8 : Hid (New w w8) := HN7.out.trans hC8 (fun x hx h => by have := (HO7.out.lt x h).1; omega)
          clear hO8 hC8 hf8
          go_wp2_with fail
          go_meet
          case rel => exact ⟨A8, n + 1, c8, rfl, (HL1.out (by omega)).2, by rw [(HL1.out (by omega)).1]; exact HO8.out, HV8.out, HR8.out, HN8.out⟩
        · rw [← Hat.out] at k1
          have hjn : j < n := by rw [← Hn.out]; exact (List.getElem?_eq_some_iff.1 k2).1
          have h2 := HL2.out j k1 hjn
          subst k1
          clear k2 k3 k4
          have HL3 := Lib.hid h2; clear h2
          obtain ⟨g7, rfl⟩ : ∃ g7, A7 = some ⟨g7, 0, none⟩ := by
            rcases HO7.out.2 with ⟨_, hn0⟩ | ⟨g', cap, cur, hv', _⟩
            · omega
            · simp only [Value.slice.injEq] at hv'
              exact ⟨g', hv'.1⟩
          have hlen := HO7.out.1
          have hcell : ∀ i, i < 4 → ∃ z, w7.cell? ⟨g7, j * 4 + i, none⟩ = some z := fun i hi' => by
            rw [HO7.out.cellAt (j * 4 + i) (by omega)]
            exact ⟨_, List.getElem?_eq_getElem (by omega)⟩
          obtain ⟨y0, hy0⟩ := hcell 0 (by omega)
          obtain ⟨y1, hy1⟩ := hcell 1 (by omega)
          obtain ⟨y2, hy2⟩ := hcell 2 (by omega)
          obtain ⟨y3, hy3⟩ := hcell 3 (by omega)
          rw [Nat.add_zero] at hy0
          have hfz : ∀ i, w7.frozen? ⟨g7, i, none⟩ = false := fun i => by
            rcases HO7.out.2 with ⟨hv', _⟩ | ⟨g', cap, cur, hv', _, hg', _⟩
            · cases hv'
            · simp only [Value.slice.injEq, Option.some.injEq, Addr.mk.injEq, and_true, true_and] at hv'
              obtain ⟨rfl, rfl⟩ := hv'
              exact Has.free hg' i
          have f0 := hfz (j * 4)
          have f1 := hfz (j * 4 + 1)
          have f2 := hfz (j * 4 + 2)
          have f3 := hfz (j * 4 + 3)
          clear hcell hfz hlen
          go_wp2_with fail
          go_meet
          case rel =>
            have hG : Chg (· = g7) w7 ((((w7.setCell ⟨g7, j * 4, none⟩ (.int .i64 ek)).setCell ⟨g7, j * 4 + 1, none⟩ (.int .i64 eo)).setCell ⟨g7, j * 4 + 2, none⟩ (.int .i64 ei)).setCell ⟨g7, j * 4 + 3, none⟩ (.int .i64 (t : Int))) := Chg.setCell (S := (· = g7)) (Chg.setCell (S := (· = g7)) (Chg.setCell (S := (· = g7)) (Chg.setCell (S := (· = g7)) (Chg.refl _ _) (fun _ => rfl) _) (fun _ => rfl) _) (fun _ => rfl) _) (fun _ => rfl) _
            have hO := own_put4 (own_put4 (own_put4 (own_put4 HO7.out (j * 4) (.int .i64 ek)) (j * 4 + 1) (.int .i64 eo)) (j * 4 + 2) (.int .i64 ei)) (j * 4 + 3) (.int .i64 (t : Int))
            exact ⟨_, n, c7, rfl, HL3.out.2, by rw [HL3.out.1]; exact hO, HV7.out.chg hG (fun h => own_apart HO7.out HV7.out (by decide) (by rw [h]; rfl)), HR7.out.chg hG (fun h => own_apart HO7.out HR7.out (by decide) (by rw [h]; rfl)), HN7.out.trans hG (fun i hi h => by have := (HO7.out.lt g7 rfl).1; omega)⟩
      case rest =>
        obtain ⟨B, n8, cb, rfl, hLn, hO8, hV8, hR8, hN8⟩ := hcut
        clear HO7 HB7 HV7 HR7 HN7 HL1 HL2
        have b2 : wc.cell? ⟨vb, 2, none⟩ = some (.int .i64 (q : Int)) := (hV8.cell 2).trans rfl
        have b3 : wc.cell? ⟨vb, 3, none⟩ = some (.int .i64 (p : Int)) := (hV8.cell 3).trans rfl
        have hm5 : n8 ≤ 5 := by rw [← hLn]; exact HSnd.out.2
        have HLm := Lib.hid hLn
        have hdr : New wc wc.drew := (Chg.refl _ _).drew
        have HEd := Lib.hid (Ents.of_own (own_new hO8 hdr))
        have HFd := Lib.hid (own_below (own_new hO8 hdr))
        have HBd := Lib.hid (hV8.keep hdr)
        have HRd := Lib.hid (hR8.new hdr)
        have HNd := Lib.hid (hN8.then_new hdr)
        clear hdr hO8 hV8 hR8 hN8 hLn
        obtain ⟨q', hq'⟩ : ∃ q', q' = q + 1 := ⟨_, rfl⟩
        obtain ⟨p', hp'⟩ : ∃ p', p' = 3 - p := ⟨_, rfl⟩
        obtain ⟨ta, hta⟩ : ∃ x, x = 3 + 2 * t := ⟨_, rfl⟩
        obtain ⟨tb, htb⟩ : ∃ x, x = 4 + 2 * t := ⟨_, rfl⟩
        have fq : (q : Int) + 1 = (q' : Int) := by omega
        have fp : 3 - (p : Int) = (p' : Int) := by omega
        have fta : 3 + 2 * (t : Int) = (ta : Int) := by omega
        have ftb : 4 + 2 * (t : Int) = (tb : Int) := by omega
        have hq'' : q' ≤ 65535 := by omega
        have fq2 : IntKind.i64.wrap ((q : Int) + 1) = (q' : Int) := by rw [fq]; exact IntWalk.i64_in _ (by omega)
        have fp2 : IntKind.i64.wrap (3 - (p : Int)) = (p' : Int) := by rw [fp]; exact IntWalk.i64_in _ (by omega)
        have fq3 : IntKind.i64.wrap (q' : Int) = (q' : Int) := IntWalk.i64_in _ (by omega)
        have fp3 : IntKind.i64.wrap (p' : Int) = (p' : Int) := IntWalk.i64_in _ (by omega)
        have ft1 : IntKind.i64.wrap (2 * (t : Int)) = 2 * (t : Int) := IntWalk.i64_in _ (by omega)
        have ft2 : IntKind.i64.wrap (ta : Int) = (ta : Int) := IntWalk.i64_in _ (by omega)
        have ft3 : IntKind.i64.wrap (tb : Int) = (tb : Int) := IntWalk.i64_in _ (by omega)
        have HR : Hid (stR v e body = [(ta, (pad 64 body).take 32), (tb, (pad 64 body).drop 32), (p', sectorB (listB q' L))]) := by
          rw [Hid]
          unfold stR dirR
          rw [Hft.out, ← HLd.out, Hp.out, Hq.out, show (3 - (p : Int)).toNat = p' by omega, show ((q : Int) + 1).toNat = q' by omega, show (3 + 2 * (t : Int)).toNat = ta by omega, show (4 + 2 * (t : Int)).toNat = tb by omega]
        clear hq' hp' hta htb
        have hsA : ∀ wy, (Instr.slice 22 (.slice (some ⟨fb, 0, none⟩) 64 64) none (some (.int .i64 32)) none).run Try.prog wy = .ok (.slice (some ⟨fb, 0, none⟩) 32 64) wy := fun wy => slice_to ⟨fb, 0, none⟩ 64 64 32 (by omega) wy
        have hsB : ∀ wy, (Instr.slice 22 (.slice (some ⟨fb, 0, none⟩) 64 64) (some (.int .i64 32)) none none).run Try.prog wy = .ok (.slice (some ⟨fb, 32, none⟩) 32 32) wy := fun wy => slice_from ⟨fb, 0, none⟩ 64 64 32 (by omega) (by omega) wy
        go_upto_region 24 with (fail)
        go_region_held3 (fun w' => w'.cell? ⟨vb, 2, none⟩ = some (.int .i64 (q : Int)) ∧ w'.cell? ⟨vb, 3, none⟩ = some (.int .i64 (p : Int)))
          (first | exact ⟨g2, g3⟩ | exact ⟨((HB7.out.alloc _).cell 2).trans rfl, ((HB7.out.alloc _).cell 3).trans rfl⟩ | exact ⟨f2, f3⟩ | exact ⟨b2, b3⟩)
          (first
            | (go_at_call 23; (with_reducible refine (rSector_any A6 (3 + 5 * n8) c6 _ (listB q' L) w6 (own_arr_bs (by rw [listB_len, HLm.out]) HO6.out) (own_below HO6.out) (by rw [listB_len, HLm.out]) (listB_small q' L hq'' HSnd.out.2 HSnd.out.1.1) (by omega)).mono ?_); rintro x w7 ⟨A7, c7, rfl, hO7, hN7⟩
               have HO7 := Lib.hid hO7
               have HN7 := Lib.hid (HN6.out.then_new hN7)
               have hB7 := HB6.out.keep hN7
               have HR7 := Lib.hid (HR6.out.new hN7)
               have g2 : w7.cell? ⟨vb, 2, none⟩ = some (.int .i64 (q : Int)) := (hB7.cell 2).trans rfl
               have g3 : w7.cell? ⟨vb, 3, none⟩ = some (.int .i64 (p : Int)) := (hB7.cell 3).trans rfl
               have Hb7 : Hid (∀ x, Value.ownBlock (.slice A7 32 c7) = some x → w.heap.size ≤ x ∧ x < w7.heap.size) := fun x hx => ⟨by have := (hO7.lt x hx).1; have := HN6.out.size; omega, (hO7.lt x hx).2⟩
               have HB7 := Lib.hid hB7
               clear hO7 hN7 hB7)
            | (go_at_call 24; (with_reducible refine (rList_any q' B n8 cb _ L wc.drew HEd.out HFd.out HLm.out hm5 hq'' HSnd.out.1.1).mono ?_); rintro x w6 ⟨A6, c6, rfl, hO6, hN6⟩
               have HO6 := Lib.hid hO6
               have HN6 := Lib.hid (HNd.out.then_new hN6)
               have HB6 := Lib.hid (HBd.out.keep hN6)
               have HR6 := Lib.hid (HRd.out.new hN6)
               have f2 : w6.cell? ⟨vb, 2, none⟩ = some (.int .i64 (q : Int)) := (HB6.out.cell 2).trans rfl
               have f3 : w6.cell? ⟨vb, 3, none⟩ = some (.int .i64 (p : Int)) := (HB6.out.cell 3).trans rfl
               clear hO6 hN6))
        all_goals
          clear fq fp fta ftb fq2 fp2 fq3 fp3 ft1 ft2 ft3 hsA hsB
          go_wp2_with fail
          go_ret2
          have hNz : New w7 (w7.alloc (.cells #[.int .i64 (ta : Int), .slice (some ⟨fb, 0, none⟩) 32 64, .int .i64 (tb : Int), .slice (some ⟨fb, 32, none⟩) 32 32, .int .i64 (p' : Int), .slice A7 32 c7] 52)) := (Chg.refl _ _).alloc _
          refine ⟨Or.inr ⟨Hd.out, w7.heap.size, rfl, ?_⟩, HN7.out.then_new hNz⟩
          have hH := Has.new w7 52 #[.int .i64 (ta : Int), .slice (some ⟨fb, 0, none⟩) 32 64, .int .i64 (tb : Int), .slice (some ⟨fb, 32, none⟩) 32 32, .int .i64 (p' : Int), .slice A7 32 c7]
          have hlt := hH.lt
          have hO8 := own_new HO7.out hNz
          have hR8 := HR7.out.new hNz
          have hfl := hR8.lt
          have hfw := Hfv.out.2.2
          have hAr := hR8.arr (pad_len 64 body)
          have hA0 := Arr.take (m := 32) hAr (by omega)
          have hA1 := Arr.cut (l := 32) (m := 32) hAr (by omega)
          rw [List.take_of_length_le (by rw [List.length_drop, pad_len]; omega)] at hA1
          generalize w7.alloc (.cells #[.int .i64 (ta : Int), .slice (some ⟨fb, 0, none⟩) 32 64, .int .i64 (tb : Int), .slice (some ⟨fb, 32, none⟩) 32 32, .int .i64 (p' : Int), .slice A7 32 c7] 52) = wz at hNz hH hlt hO8 hR8 hfl hAr hA0 hA1 ⊢
          intro j r hr
          rw [HR.out] at hr
          have hj3 : j < 3 := (List.getElem?_eq_some_iff.1 hr).1
          rcases (show j = 0 ∨ j = 1 ∨ j = 2 by omega) with rfl | rfl | rfl
          · simp only [List.getElem?_cons_zero, Option.some.injEq] at hr
            subst hr
            exact ⟨⟨w7.heap.size, 0, none⟩, some ⟨fb, 0, none⟩, 64, rfl, ⟨HN7.out.size, hlt⟩, (hH.cell 0).trans rfl, (hH.cell 1).trans rfl, hA0.mono (fun x hx => by rw [hx]; exact ⟨hfw, hfl⟩)⟩
          · simp only [List.getElem?_cons_succ, List.getElem?_cons_zero, Option.some.injEq] at hr
            subst hr
            exact ⟨⟨w7.heap.size, 0, none⟩, some ⟨fb, 32, none⟩, 32, rfl, ⟨HN7.out.size, hlt⟩, (hH.cell 2).trans rfl, (hH.cell 3).trans rfl, Arr.mono hA1 (fun x hx => by rw [hx]; exact ⟨hfw, hfl⟩)⟩
          · simp only [List.getElem?_cons_succ, List.getElem?_cons_zero, Option.some.injEq] at hr
            subst hr
            exact ⟨⟨w7.heap.size, 0, none⟩, A7, c7, rfl, ⟨HN7.out.size, hlt⟩, (hH.cell 4).trans rfl, (hH.cell 5).trans rfl, (own_arr_bs (sector_len _) hO8).mono (fun x hx => ⟨(Hb7.out x hx).1, (own_below hO8) x hx⟩)⟩
end Go.Proofs.Ytjkpijinpfimiaa
