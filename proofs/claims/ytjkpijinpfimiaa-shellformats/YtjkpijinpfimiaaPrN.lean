/-
  What the program's with does: the entries behind a Store.
-/
import Derived.Test.YtjkpijinpfimiaaPrM
import Derived.Test.YtjkpijinpfimiaaRefT
namespace Go.Proofs.Ytjkpijinpfimiaa
open Go.RowKit
/-- the entries with this one in place of that of the same product, or behind them -/
def wiL (l : List En) (e : En) : List En := if atI e.o e.i l < 0 then l ++ [e] else l.set (atI e.o e.i l).toNat e
theorem wiL_st (l : List En) (e : En) : wiL l (e.at_ (freeI l)) = stL l e := rfl
set_option maxRecDepth 100000 in
set_option maxHeartbeats 4000000 in
theorem with_any (c u q p : Int) (A : Option Addr) (n cc : Nat) (F : Nat → Prop) (l : List En) (K O I S : Int) (w : World) (hE : Ents w F A l) (hF : ∀ k, F k → k < w.heap.size) (hl : l.length = n) (hnil : A = none → n = 0 ∧ cc = 0) (hn : n ≤ 5) :
    Calls Try.prog 59 #[.agg #[.int .i64 c, .int .i64 u, .int .i64 q, .int .i64 p, .slice A n cc], .agg #[.int .i64 K, .int .i64 O, .int .i64 I, .int .i64 S]] w fun e w' => ∃ A' m c', e = .returned (.slice A' m c') ∧ m = (wiL l ⟨K, O, I, S⟩).length ∧ w'.ownsRow w.heap.size 60 4 (.slice A' m c') m (enRow (wiL l ⟨K, O, I, S⟩)) ∧ New w w' := by
  obtain ⟨i0, hi, hz0, hz1, hz2⟩ := info_parts Try.info60
  have HE := Lib.hid hE; clear hE
  have HF := Lib.hid hF; clear hF
  have Hl := Lib.hid hl; clear hl
  have Hnil := Lib.hid hnil; clear hnil
  obtain ⟨vb, hvb⟩ : ∃ vb, vb = w.heap.size := ⟨_, rfl⟩
  obtain ⟨eb, heb⟩ : ∃ eb, eb = w.heap.size + 1 := ⟨_, rfl⟩
  go_enter Try.func59, Try.ntmps59
  go_upto_region 1 with (fail)
  obtain ⟨w1, hw1⟩ : ∃ w1, w1 = (w.alloc (.cells #[.int .i64 c, .int .i64 u, .int .i64 q, .int .i64 p, .slice A n cc] 30)).alloc (.cells #[.int .i64 K, .int .i64 O, .int .i64 I, .int .i64 S] 60) := ⟨_, rfl⟩
  have HV1 : Hid (Has w1 vb 30 #[.int .i64 c, .int .i64 u, .int .i64 q, .int .i64 p, .slice A n cc]) := by rw [hw1, hvb]; exact (Has.new w 30 _).alloc _
  have HB1 : Hid (Has w1 eb 60 #[.int .i64 K, .int .i64 O, .int .i64 I, .int .i64 S]) := by rw [hw1, heb]; exact Has.new_at _ 60 _ _ (by simp)
  have HN1 : Hid (New w w1) := by rw [hw1]; exact ((Chg.refl _ _).alloc _).alloc _
  rw [← hw1, ← heb]
  clear hw1
  rw [← hvb]
  clear hvb heb
  have v4 : w1.cell? ⟨vb, 4, none⟩ = some (.slice A n cc) := (HV1.out.cell 4).trans rfl
  go_wp2_with fail
  with_reducible refine (CloneE_any A n cc F l w1 (HE.out.new HN1.out HF.out) (fun k hk => Nat.lt_of_lt_of_le (HF.out k hk) HN1.out.size) Hl.out Hnil.out (by omega)).mono ?_
  rintro e w2 ⟨A2, c2, rfl, hO2, hN2⟩
  have HO2 := Lib.hid hO2
  have HV2 := Lib.hid (HV1.out.keep hN2)
  have HB2 := Lib.hid (HB1.out.keep hN2)
  have HN2 := Lib.hid (HN1.out.then_new hN2)
  have HM2 : Hid (w1.heap.size ≤ w2.heap.size) := hN2.size
  clear hO2 hN2 v4
  have v0 : w2.cell? ⟨vb, 0, none⟩ = some (.int .i64 c) := (HV2.out.cell 0).trans rfl
  have v1 : w2.cell? ⟨vb, 1, none⟩ = some (.int .i64 u) := (HV2.out.cell 1).trans rfl
  have v2 : w2.cell? ⟨vb, 2, none⟩ = some (.int .i64 q) := (HV2.out.cell 2).trans rfl
  have v3 : w2.cell? ⟨vb, 3, none⟩ = some (.int .i64 p) := (HV2.out.cell 3).trans rfl
  have v4 : w2.cell? ⟨vb, 4, none⟩ = some (.slice A n cc) := (HV2.out.cell 4).trans rfl
  have y0 : w2.cell? ⟨eb, 0, none⟩ = some (.int .i64 K) := (HB2.out.cell 0).trans rfl
  have y1 : w2.cell? ⟨eb, 1, none⟩ = some (.int .i64 O) := (HB2.out.cell 1).trans rfl
  have y2 : w2.cell? ⟨eb, 2, none⟩ = some (.int .i64 I) := (HB2.out.cell 2).trans rfl
  have y3 : w2.cell? ⟨eb, 3, none⟩ = some (.int .i64 S) := (HB2.out.cell 3).trans rfl
  go_wp2_with fail
  with_reducible refine (pAt_any c u q p O I A n cc F l w2 (HE.out.new HN2.out HF.out) (fun k hk => Nat.lt_of_lt_of_le (HF.out k hk) HN2.out.size) Hl.out (by omega)).mono ?_
  rintro e w3 ⟨rfl, hN3⟩
  have HO3 := Lib.hid (own_new HO2.out hN3)
  have HB3 := Lib.hid (HB2.out.keep hN3)
  have HN3 := Lib.hid (HN2.out.then_new hN3)
  have Hsz : Hid (w.heap.size ≤ w1.heap.size ∧ w1.heap.size ≤ w3.heap.size) := ⟨HN1.out.size, Nat.le_trans HM2.out hN3.size⟩
  clear hN3 v0 v1 v2 v3 v4 y0 y1 y2 y3
  have x0 : w3.cell? ⟨eb, 0, none⟩ = some (.int .i64 K) := (HB3.out.cell 0).trans rfl
  have x1 : w3.cell? ⟨eb, 1, none⟩ = some (.int .i64 O) := (HB3.out.cell 1).trans rfl
  have x2 : w3.cell? ⟨eb, 2, none⟩ = some (.int .i64 I) := (HB3.out.cell 2).trans rfl
  have x3 : w3.cell? ⟨eb, 3, none⟩ = some (.int .i64 S) := (HB3.out.cell 3).trans rfl
  have hebl := HB3.out.lt
  rcases atI_cases O I l with ⟨k1, k2⟩ | ⟨j, f, k1, k2, k3, k4⟩
  · have Hw : Hid (wiL l ⟨K, O, I, S⟩ = l ++ [⟨K, O, I, S⟩]) := by
      show _ = _
      unfold wiL
      rw [show atI (En.mk K O I S).o (En.mk K O I S).i l = -1 from k1, if_pos (by omega)]
    rw [k1]
    clear k1 k2
    go_wp2_with (at_builtin; refine wpList_append_one rfl _ _ 28 rfl w1.heap.size 60 i0 (.agg #[.int .i64 0, .int .i64 0, .int .i64 0, .int .i64 0]) 4 32 Try.underlying28 hi hz0 hz1 hz2 rfl (by decide) (.slice A2 n c2) n (enRow l) rfl HO3.out #[.int .i64 K, .int .i64 O, .int .i64 I, .int .i64 S] rfl rfl (by simp [Value.oneCell']) (by simp only [maxLen]; omega) (by omega) Hsz.out.2 ?_)
    intro A8 c8 w8 hO8 hC8 hf8
    have HN8 : Hid (New w w8) := HN3.out.trans hC8 (fun x hx h => by have := (HO3.out.lt x h).1; have := Hsz.out; omega)
    have HO8 : Hid (w8.ownsRow w.heap.size 60 4 (.slice A8 (n + 1) c8) (n + 1) (enRow (wiL l ⟨K, O, I, S⟩))) := by
      rw [Hw.out, enRow_append]
      exact own_base hO8 (fun k hk => by have := (hO8.lt k hk).1; have := Hsz.out; omega)
    clear hO8 hC8 hf8
    go_wp2_with fail
    go_ret
    exact ⟨A8, n + 1, c8, rfl, by rw [Hw.out, List.length_append, Hl.out]; rfl, HO8.out, HN8.out⟩
  · have hjn : j < n := by rw [← Hl.out]; exact (List.getElem?_eq_some_iff.1 k2).1
    have Hw : Hid (wiL l ⟨K, O, I, S⟩ = l.set j ⟨K, O, I, S⟩) := by
      show _ = _
      unfold wiL
      rw [show atI (En.mk K O I S).o (En.mk K O I S).i l = j from k1, if_neg (by omega), Int.toNat_natCast]
    have Hen := Lib.hid (enRow_set ⟨K, O, I, S⟩ l j (by rw [Hl.out]; exact hjn))
    rw [k1]
    clear k1 k2 k3 k4
    obtain ⟨g7, rfl⟩ : ∃ g7, A2 = some ⟨g7, 0, none⟩ := by
      rcases HO3.out.2 with ⟨_, hn0⟩ | ⟨g', cap, cur, hv', _⟩
      · omega
      · simp only [Value.slice.injEq] at hv'
        exact ⟨g', hv'.1⟩
    have hlen := HO3.out.1
    have hcell : ∀ i, i < 4 → ∃ z, w3.cell? ⟨g7, j * 4 + i, none⟩ = some z := fun i hi' => by
      rw [HO3.out.cellAt (j * 4 + i) (by omega)]
      exact ⟨_, List.getElem?_eq_getElem (by omega)⟩
    obtain ⟨y0, hy0⟩ := hcell 0 (by omega)
    obtain ⟨y1, hy1⟩ := hcell 1 (by omega)
    obtain ⟨y2, hy2⟩ := hcell 2 (by omega)
    obtain ⟨y3, hy3⟩ := hcell 3 (by omega)
    rw [Nat.add_zero] at hy0
    have hfz : ∀ i, w3.frozen? ⟨g7, i, none⟩ = false := fun i => by
      rcases HO3.out.2 with ⟨hv', _⟩ | ⟨g', cap, cur, hv', _, hg', _⟩
      · cases hv'
      · simp only [Value.slice.injEq, Option.some.injEq, Addr.mk.injEq, and_true, true_and] at hv'
        obtain ⟨rfl, rfl⟩ := hv'
        exact Has.free hg' i
    have f0 := hfz (j * 4)
    have f1 := hfz (j * 4 + 1)
    have f2 := hfz (j * 4 + 2)
    have f3 := hfz (j * 4 + 3)
    clear hcell hfz hlen
    go_wp2_with fail
    go_ret
    have hG : Chg (· = g7) w3 ((((w3.setCell ⟨g7, j * 4, none⟩ (.int .i64 K)).setCell ⟨g7, j * 4 + 1, none⟩ (.int .i64 O)).setCell ⟨g7, j * 4 + 2, none⟩ (.int .i64 I)).setCell ⟨g7, j * 4 + 3, none⟩ (.int .i64 S)) := Chg.setCell (S := (· = g7)) (Chg.setCell (S := (· = g7)) (Chg.setCell (S := (· = g7)) (Chg.setCell (S := (· = g7)) (Chg.refl _ _) (fun _ => rfl) _) (fun _ => rfl) _) (fun _ => rfl) _) (fun _ => rfl) _
    have hO := own_put4 (own_put4 (own_put4 (own_put4 HO3.out (j * 4) (.int .i64 K)) (j * 4 + 1) (.int .i64 O)) (j * 4 + 2) (.int .i64 I)) (j * 4 + 3) (.int .i64 S)
    refine ⟨_, n, c2, rfl, by rw [Hw.out, List.length_set, Hl.out], ?_, HN3.out.trans hG (fun i hi h => by have := (HO3.out.lt g7 rfl).1; have := Hsz.out; omega)⟩
    have he := Hen.out
    rw [Hw.out, ← he]
    exact own_base hO (fun k hk => by have := (hO.lt k hk).1; have := Hsz.out; omega)
end Go.Proofs.Ytjkpijinpfimiaa
