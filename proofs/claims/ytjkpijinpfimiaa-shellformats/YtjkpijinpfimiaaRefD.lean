/-
  What the document's own Directory comes to.
-/
import Derived.Test.YtjkpijinpfimiaaRefL
namespace Go.Proofs.Ytjkpijinpfimiaa
open Go.RowKit
theorem Try.info60 : (Try.prog.info? 60).map (fun i => (i.zero, i.size, i.bytes)) = some (some (.agg #[.int .i64 0, .int .i64 0, .int .i64 0, .int .i64 0]), 4, 32) := by kernel_rfl
/-- a view's cells -/
def vwCells (c u q p : Int) (v : Value) : Array Value := #[.int .i64 c, .int .i64 u, .int .i64 q, .int .i64 p, v]
/-- what Directory tells of a sector's bytes -/
def DirR (bs : List Nat) (w : World) (e : Ending) (w' : World) : Prop :=
  (dirB bs = true ∧ ∃ A c, e = .returned (.tuple #[.agg #[.int .i64 0, .int .i64 0, .int .i64 (seqN bs : Nat), .int .i64 0, .slice A (bs.getD 2 0) c], .bool true]) ∧ w'.ownsRow w.heap.size 60 4 (.slice A (bs.getD 2 0) c) (bs.getD 2 0) (enRow (ens bs (bs.getD 2 0)))) ∨
  (dirB bs = false ∧ ∃ (s : Int) (A : Option Addr) (n c : Nat), e = .returned (.tuple #[.agg #[.int .i64 0, .int .i64 0, .int .i64 s, .int .i64 0, .slice A n c], .bool false]))
theorem ens_step (b : List Nat) (k : Nat) : ens b (k + 1) = ens b k ++ [enAt b k] := by unfold ens; rw [List.range_succ, List.map_append]; rfl
theorem ens_get (b : List Nat) (n j : Nat) (h : j < n) : (ens b n)[j]? = some (enAt b j) := by unfold ens; rw [List.getElem?_map, List.getElem?_range h]; rfl
/-- why a sector is no directory -/
theorem dir_no_sum {b : List Nat} (h : sumOk b = false) : dirB b = false := by unfold dirB; rw [h]; rfl
theorem dir_no_many {b : List Nat} (h : ¬ b.getD 2 0 ≤ 5) : dirB b = false := by unfold dirB; rw [decide_eq_false h]; simp
theorem dir_no_sound {b : List Nat} (h : ¬ Sound (ens b (b.getD 2 0))) : dirB b = false := by unfold dirB; rw [decide_eq_false h]; simp
theorem not_good {b : List Nat} {k : Nat} (hk : k < b.getD 2 0) (h : ¬ (enAt b k).good) : dirB b = false :=
  dir_no_sound fun hs => h (hs.1 _ (List.mem_of_getElem? (ens_get b _ k hk)))
theorem not_apart {b : List Nat} {k t : Nat} (hk : k < b.getD 2 0) (ht : t < k) (h : clash (enAt b k) (enAt b t)) : dirB b = false :=
  dir_no_sound fun hs => pair_get hs.2 (ens_get b _ k hk) (ens_get b _ t (by omega)) (by omega) h
theorem sound_step {b : List Nat} {k : Nat} (hs : Sound (ens b k)) (hg : (enAt b k).good) (hc : ∀ t, t < k → ¬ clash (enAt b k) (enAt b t)) : Sound (ens b (k + 1)) := by
  rw [ens_step]
  refine ⟨?_, ?_⟩
  · intro e he
    rcases List.mem_append.1 he with he | he
    · exact hs.1 e he
    · rw [List.mem_singleton.1 he]; exact hg
  · rw [List.pairwise_append]
    refine ⟨hs.2, by simp, ?_⟩
    intro e he f hf
    rw [List.mem_singleton.1 hf]
    obtain ⟨t, ht⟩ := List.mem_iff_getElem?.1 he
    have htk : t < k := by
      have := (List.getElem?_eq_some_iff.1 ht).1
      rw [ens_len] at this
      exact this
    rw [ens_get b k t htk] at ht
    cases ht
    have := hc t htk
    unfold clash at this ⊢
    rintro (h | ⟨h, h'⟩)
    · exact this (Or.inl h.symm)
    · exact this (Or.inr ⟨h.symm, h'.symm⟩)
theorem cell_at {w : World} {F : Nat → Prop} {a : Addr} {n : Nat} {bs : List Nat} (h : Arr w F (some a) n (fun i => bV (bs.getD i 0))) (i : Nat) (hi : i < n) (h0 : i ≠ 0) : w.cell? ⟨a.block, a.off + i, none⟩ = some (.int .u8 (bs.getD i 0 : Nat)) := by
  obtain ⟨a', ha, _, hc⟩ := h i hi
  cases ha
  have h : a.add i = ⟨a.block, a.off + i, none⟩ := by unfold Addr.add; rw [if_neg h0]
  rw [h] at hc
  exact hc
theorem cell_nought {w : World} {F : Nat → Prop} {a : Addr} {n : Nat} {bs : List Nat} (h : Arr w F (some a) n (fun i => bV (bs.getD i 0))) (hi : 0 < n) : w.cell? a = some (.int .u8 (bs.getD 0 0 : Nat)) := by
  obtain ⟨a', ha, _, hc⟩ := h 0 hi
  cases ha
  rw [add_zero] at hc
  exact hc
theorem dir_bad {y0 y1 y y4 : Nat} {bad : Bool} (h : bad = !decide (1 ≤ y0 ∧ y0 ≤ 4 ∧ 1 ≤ y1 ∧ y1 ≤ 4 ∧ 1 ≤ y ∧ y4 ≤ 5)) :
    (bad = true ∧ decide ((y0 : Int) < 1) = true) ∨ (bad = true ∧ decide ((y0 : Int) < 1) = false ∧ decide (4 < (y0 : Int)) = true) ∨ (bad = true ∧ decide ((y0 : Int) < 1) = false ∧ decide (4 < (y0 : Int)) = false ∧ decide ((y1 : Int) < 1) = true) ∨ (bad = true ∧ decide ((y0 : Int) < 1) = false ∧ decide (4 < (y0 : Int)) = false ∧ decide ((y1 : Int) < 1) = false ∧ decide (4 < (y1 : Int)) = true) ∨ (bad = true ∧ decide ((y0 : Int) < 1) = false ∧ decide (4 < (y0 : Int)) = false ∧ decide ((y1 : Int) < 1) = false ∧ decide (4 < (y1 : Int)) = false ∧ decide ((y : Int) < 1) = true) ∨ (bad = true ∧ decide ((y0 : Int) < 1) = false ∧ decide (4 < (y0 : Int)) = false ∧ decide ((y1 : Int) < 1) = false ∧ decide (4 < (y1 : Int)) = false ∧ decide ((y : Int) < 1) = false ∧ decide (5 < (y4 : Int)) = true) ∨ (bad = false ∧ decide ((y0 : Int) < 1) = false ∧ decide (4 < (y0 : Int)) = false ∧ decide ((y1 : Int) < 1) = false ∧ decide (4 < (y1 : Int)) = false ∧ decide ((y : Int) < 1) = false ∧ decide (5 < (y4 : Int)) = false) := by
  subst h
  simp only [Bool.not_eq_true', Bool.not_eq_false', decide_eq_true_eq, decide_eq_false_iff_not]
  omega
theorem dir_not {y0 y1 y y4 : Nat} (h : true = !decide (1 ≤ y0 ∧ y0 ≤ 4 ∧ 1 ≤ y1 ∧ y1 ≤ 4 ∧ 1 ≤ y ∧ y4 ≤ 5)) : ¬ (En.mk (y0 : Nat) (y1 : Nat) (y : Nat) (y4 : Nat)).good := by
  rintro ⟨⟨b1, b2, b3, b4, b5, b6⟩, b7, b8⟩
  simp only at b1 b2 b3 b4 b5 b6 b7 b8
  have h' := h.symm
  rw [Bool.not_eq_true', decide_eq_false_iff_not] at h'
  omega
theorem dir_good {y0 y1 y y4 : Nat} (h : false = !decide (1 ≤ y0 ∧ y0 ≤ 4 ∧ 1 ≤ y1 ∧ y1 ≤ 4 ∧ 1 ≤ y ∧ y4 ≤ 5)) (hy : y ≤ 65535) : (En.mk (y0 : Nat) (y1 : Nat) (y : Nat) (y4 : Nat)).good := by
  have h' := h.symm
  rw [Bool.not_eq_false', decide_eq_true_eq] at h'
  exact ⟨⟨by simp only; omega, by simp only; omega, by simp only; omega, by simp only; omega, by simp only; omega, by simp only; omega⟩, by simp only; omega, by simp only; omega⟩
theorem clash_ways {f1 f2 f3 : Int} {y1 y y4 : Nat} {bad : Bool} (h : bad = decide (f3 = (y4 : Int) ∨ (f1 = (y1 : Int) ∧ f2 = (y : Int)))) :
    (bad = true ∧ (f3 == (y4 : Int)) = true) ∨ (bad = false ∧ (f3 == (y4 : Int)) = false ∧ (f1 == (y1 : Int)) = false) ∨ (bad = true ∧ (f3 == (y4 : Int)) = false ∧ (f1 == (y1 : Int)) = true ∧ (f2 == (y : Int)) = true) ∨ (bad = false ∧ (f3 == (y4 : Int)) = false ∧ (f1 == (y1 : Int)) = true ∧ (f2 == (y : Int)) = false) := by
  subst h
  simp only [decide_eq_true_eq, decide_eq_false_iff_not, beq_iff_eq, beq_eq_false_iff_ne, ne_eq]
  omega
theorem set5 {w : World} {g : Nat} {y0 y1 y2 y3 y4 : Value} (h : Has w g 34 #[y0, y1, y2, y3, y4]) (x0 x1 x2 x3 x4 : Value) :
    Has (((((w.setCell ⟨g, 0, none⟩ x0).setCell ⟨g, 1, none⟩ x1).setCell ⟨g, 2, none⟩ x2).setCell ⟨g, 3, none⟩ x3).setCell ⟨g, 4, none⟩ x4) g 34 #[x0, x1, x2, x3, x4] ∧
      Chg (· = g) w (((((w.setCell ⟨g, 0, none⟩ x0).setCell ⟨g, 1, none⟩ x1).setCell ⟨g, 2, none⟩ x2).setCell ⟨g, 3, none⟩ x3).setCell ⟨g, 4, none⟩ x4) := by
  refine ⟨?_, ?_⟩
  · have := ((((h.set 0 x0).set 1 x1).set 2 x2).set 3 x3).set 4 x4
    simpa using this
  · exact Chg.setCell (S := (· = g)) (Chg.setCell (S := (· = g)) (Chg.setCell (S := (· = g)) (Chg.setCell (S := (· = g)) (Chg.setCell (S := (· = g)) (Chg.refl _ _) (fun _ => rfl) _) (fun _ => rfl) _) (fun _ => rfl) _) (fun _ => rfl) _) (fun _ => rfl) _
set_option maxRecDepth 100000 in
set_option maxHeartbeats 8000000 in
theorem rDir_any (a : Addr) (c : Nat) (F : Nat → Prop) (bs : List Nat) (w : World) (hA : Arr w F (some a) 32 (fun i => bV (bs.getD i 0))) (hF : ∀ k, F k → k < w.heap.size) (hl : bs.length = 32) (hb : ∀ x ∈ bs, x < 256) (hc : 32 ≤ c) :
    Calls Try.prog 38 #[.slice (some a) 32 c] w fun e w' => DirR bs w e w' ∧ New w w' := by
  obtain ⟨i0, hi, hz0, hz1, hz2⟩ := info_parts Try.info60
  have HA := Lib.hid hA; clear hA
  have HF := Lib.hid hF; clear hF
  have Hl := Lib.hid hl; clear hl
  have Hb := Lib.hid hb; clear hb
  obtain ⟨n, hn⟩ : ∃ n, n = bs.getD 2 0 := ⟨_, rfl⟩
  have hn256 : n < 256 := by rw [hn]; exact getD_lt bs Hb.out 2
  have Hn := Lib.hid hn; clear hn
  obtain ⟨rb, hrb⟩ : ∃ rb, rb = w.heap.size := ⟨_, rfl⟩
  obtain ⟨vb, hvb⟩ : ∃ vb, vb = w.heap.size + 1 := ⟨_, rfl⟩
  have hab : a.block < w.heap.size := by
    obtain ⟨a', ha, hf, _⟩ := HA.out 0 (by omega)
    cases ha
    exact HF.out _ hf
  have h2 : w.cell? ⟨a.block, a.off + 2, none⟩ = some (.int .u8 (n : Int)) := by rw [Hn.out]; exact cell_at HA.out 2 (by omega) (by omega)
  go_enter Try.func38, Try.ntmps38
  go_wp2_with fail
  obtain ⟨w1, hw1⟩ : ∃ w1, w1 = (w.alloc (.cells #[.int .i64 0, .int .i64 0, .int .i64 0, .int .i64 0, .slice none 0 0] 34)).alloc (.cells #[.int .i64 0, .int .i64 0, .int .i64 0, .int .i64 0, .slice none 0 0] 34) := ⟨_, rfl⟩
  have HR1 : Hid (Has w1 rb 34 #[.int .i64 0, .int .i64 0, .int .i64 0, .int .i64 0, .slice none 0 0]) := by rw [hw1, hrb]; exact (Has.new w 34 _).alloc _
  have HV1 : Hid (Has w1 vb 34 #[.int .i64 0, .int .i64 0, .int .i64 0, .int .i64 0, .slice none 0 0]) := by rw [hw1, hvb]; exact Has.new_at _ 34 _ _ (by simp)
  have HN1 : Hid (New w w1) := by rw [hw1]; exact ((Chg.refl _ _).alloc _).alloc _
  have Hrv : Hid (rb ≠ vb ∧ w.heap.size ≤ rb ∧ w.heap.size ≤ vb) := by show _ ∧ _ ∧ _; omega
  rw [← hw1, ← hvb, ← hrb]
  clear hw1 hrb hvb h2
  have HA1 := Lib.hid (HA.out.new HN1.out HF.out)
  with_reducible refine (rSealed_any a c F bs w1 HA1.out (fun k hk => Nat.lt_of_lt_of_le (HF.out k hk) HN1.out.size) Hl.out Hb.out hc).mono ?_
  rintro e w2 ⟨rfl, hN2⟩
  have hR2 := HR1.out.keep hN2
  have hV2 := HV1.out.keep hN2
  have HN2 := Lib.hid (HN1.out.then_new hN2)
  have r0 : w2.cell? ⟨rb, 0, none⟩ = some (.int .i64 0) := (hR2.cell 0).trans rfl
  have r1 : w2.cell? ⟨rb, 1, none⟩ = some (.int .i64 0) := (hR2.cell 1).trans rfl
  have r2 : w2.cell? ⟨rb, 2, none⟩ = some (.int .i64 0) := (hR2.cell 2).trans rfl
  have r3 : w2.cell? ⟨rb, 3, none⟩ = some (.int .i64 0) := (hR2.cell 3).trans rfl
  have r4 : w2.cell? ⟨rb, 4, none⟩ = some (.slice none 0 0) := (hR2.cell 4).trans rfl
  have v0 : w2.cell? ⟨vb, 0, none⟩ = some (.int .i64 0) := (hV2.cell 0).trans rfl
  have v1 : w2.cell? ⟨vb, 1, none⟩ = some (.int .i64 0) := (hV2.cell 1).trans rfl
  have v2 : w2.cell? ⟨vb, 2, none⟩ = some (.int .i64 0) := (hV2.cell 2).trans rfl
  have v3 : w2.cell? ⟨vb, 3, none⟩ = some (.int .i64 0) := (hV2.cell 3).trans rfl
  have v4 : w2.cell? ⟨vb, 4, none⟩ = some (.slice none 0 0) := (hV2.cell 4).trans rfl
  have z0 := hR2.free 0
  have z1 := hR2.free 1
  have z2 := hR2.free 2
  have z3 := hR2.free 3
  have z4 := hR2.free 4
  have HR2 := Lib.hid hR2
  have HV2 := Lib.hid hV2
  clear hR2 hV2 hN2 HR1 HV1 HA1 HN1
  cases hsum : sumOk bs with
  | false =>
    have Hd := Lib.hid (dir_no_sum hsum)
    go_wp2_with fail
    obtain ⟨hX, hGX⟩ := set5 HR2.out (.int .i64 0) (.int .i64 0) (.int .i64 0) (.int .i64 0) (.slice none 0 0)
    generalize (((((w2.setCell ⟨rb, 0, none⟩ (.int .i64 0)).setCell ⟨rb, 1, none⟩ (.int .i64 0)).setCell ⟨rb, 2, none⟩ (.int .i64 0)).setCell ⟨rb, 3, none⟩ (.int .i64 0)).setCell ⟨rb, 4, none⟩ (.slice none 0 0)) = wX at hX hGX ⊢
    have e0 := (hX.cell 0).trans rfl
    have e1 := (hX.cell 1).trans rfl
    have e2 := (hX.cell 2).trans rfl
    have e3 := (hX.cell 3).trans rfl
    have e4 := (hX.cell 4).trans rfl
    refine bodyPost_ret (v := .tuple #[.agg #[.int .i64 0, .int .i64 0, .int .i64 0, .int .i64 0, .slice none 0 0], .bool false]) (by simp [results, Try.results38, go_sem, e0, e1, e2, e3, e4]) rfl ?_
    exact ⟨Or.inr ⟨Hd.out, _, _, _, _, rfl⟩, HN2.out.trans hGX (fun i hi h => by have := Hrv.out; omega)⟩
  | true =>
    by_cases hn5 : n ≤ 5
    case neg =>
      have Hd := Lib.hid (dir_no_many (b := bs) (by rw [← Hn.out]; exact hn5))
      have t5 : decide (5 < (n : Int)) = true := by simp only [decide_eq_true_eq]; omega
      go_wp2_with fail
      obtain ⟨hX, hGX⟩ := set5 HR2.out (.int .i64 0) (.int .i64 0) (.int .i64 0) (.int .i64 0) (.slice none 0 0)
      generalize (((((w2.setCell ⟨rb, 0, none⟩ (.int .i64 0)).setCell ⟨rb, 1, none⟩ (.int .i64 0)).setCell ⟨rb, 2, none⟩ (.int .i64 0)).setCell ⟨rb, 3, none⟩ (.int .i64 0)).setCell ⟨rb, 4, none⟩ (.slice none 0 0)) = wX at hX hGX ⊢
      have e0 := (hX.cell 0).trans rfl
      have e1 := (hX.cell 1).trans rfl
      have e2 := (hX.cell 2).trans rfl
      have e3 := (hX.cell 3).trans rfl
      have e4 := (hX.cell 4).trans rfl
      refine bodyPost_ret (v := .tuple #[.agg #[.int .i64 0, .int .i64 0, .int .i64 0, .int .i64 0, .slice none 0 0], .bool false]) (by simp [results, Try.results38, go_sem, e0, e1, e2, e3, e4]) rfl ?_
      exact ⟨Or.inr ⟨Hd.out, _, _, _, _, rfl⟩, HN2.out.trans hGX (fun i hi h => by have := Hrv.out; omega)⟩
    case pos =>
    clear r0 r1 r2 r3 r4 v0 v1 v3 v4 z0 z1 z2 z3 z4
    have t5 : decide (5 < (n : Int)) = false := by simp only [decide_eq_false_iff_not]; omega
    obtain ⟨q, hq⟩ : ∃ q, q = seqN bs := ⟨_, rfl⟩
    obtain ⟨x0, hx0⟩ : ∃ x, x = bs.getD 0 0 := ⟨_, rfl⟩
    obtain ⟨x1, hx1⟩ : ∃ x, x = bs.getD 1 0 := ⟨_, rfl⟩
    have hx0l : x0 < 256 := by rw [hx0]; exact getD_lt bs Hb.out 0
    have hx1l : x1 < 256 := by rw [hx1]; exact getD_lt bs Hb.out 1
    have hA2 := HA.out.new HN2.out HF.out
    have c0 : w2.cell? a = some (.int .u8 (x0 : Int)) := by rw [hx0]; exact cell_nought hA2 (by omega)
    have c1 : w2.cell? ⟨a.block, a.off + 1, none⟩ = some (.int .u8 (x1 : Int)) := by rw [hx1]; exact cell_at hA2 1 (by omega) (by omega)
    have fq : (x0 : Int) * 256 + (x1 : Int) = (q : Int) := by rw [hq, hx0, hx1]; unfold seqN; omega
    have zf := HV2.out.free 2
    have Hq := Lib.hid hq
    clear hA2 hx0 hx1 hq
    go_upto_region 5 with (fail)
    go_region
    obtain ⟨w3, hw3⟩ : ∃ w3, w3 = (w2.setCell ⟨vb, 2, none⟩ (.int .i64 (q : Int))).drew := ⟨_, rfl⟩
    have hG3 : Chg (· = vb) w2 w3 := by rw [hw3]; exact Chg.drew (Chg.setCell (S := (· = vb)) (Chg.refl _ _) (fun _ => rfl) _)
    have HV3 : Hid (Has w3 vb 34 #[.int .i64 0, .int .i64 0, .int .i64 (q : Int), .int .i64 0, .slice none 0 0]) := by rw [hw3]; exact HV2.out.set 2 _
    have HR3 := Lib.hid (HR2.out.chg hG3 Hrv.out.1)
    have HN3 : Hid (New w w3) := HN2.out.trans hG3 (fun i hi h => by have := Hrv.out; omega)
    rw [← hw3]
    clear hw3 hG3 HV2 HR2 HN2 v2 zf c0 c1 fq
    go_wp2_with fail
    go_loopg [6] n (fun gk x wr => ∃ (k : Nat) (A : Option Addr) (cc : Nat), k ≤ n ∧ gk = n - k ∧ x = .int .i64 k ∧ Has wr vb 34 #[.int .i64 0, .int .i64 0, .int .i64 (q : Int), .int .i64 0, .slice A k cc] ∧ Has wr rb 34 #[.int .i64 0, .int .i64 0, .int .i64 0, .int .i64 0, .slice none 0 0] ∧ wr.ownsRow w.heap.size 60 4 (.slice A k cc) k (enRow (ens bs k)) ∧ Sound (ens bs k) ∧ New w wr)
    case atStart => exact ⟨0, none, 0, by omega, by omega, rfl, HV3.out, HR3.out, World.ownsRow_nil _ _ _ _, ⟨by simp [ens], by simp [ens]⟩, HN3.out⟩
    case round =>
      clear HV3 HR3 HN3
      obtain ⟨k, A, cc, hk, rfl, rfl, hV, hR, hO, hS, hN⟩ := hrel
      by_cases hlt : k < n
      · have hAr := HA.out.new hN HF.out
        have hsl : ∀ wy, (Instr.slice 22 (.slice (some a) 32 c) (some (.int .i64 (3 + 5 * (k : Int)))) (some (.int .i64 (8 + 5 * (k : Int)))) none).run Try.prog wy = .ok (.slice (some ⟨a.block, a.off + (3 + 5 * k), none⟩) 5 (c - (3 + 5 * k))) wy := by
          intro wy
          have h := slice_cut a 32 c (3 + 5 * k) (8 + 5 * k) (by omega) (by omega) (by omega) wy
          rw [show ((3 + 5 * k : Nat) : Int) = 3 + 5 * (k : Int) by omega, show ((8 + 5 * k : Nat) : Int) = 8 + 5 * (k : Int) by omega, show 8 + 5 * k - (3 + 5 * k) = 5 by omega] at h
          have ha : a.add (3 + 5 * k) = ⟨a.block, a.off + (3 + 5 * k), none⟩ := by unfold Addr.add; rw [if_neg (by omega)]
          rw [ha] at h
          exact h
        obtain ⟨of_, hof⟩ : ∃ o, o = a.off + (3 + 5 * k) := ⟨_, rfl⟩
        obtain ⟨y0, hy0⟩ : ∃ y, y = bs.getD (3 + 5 * k) 0 := ⟨_, rfl⟩
        obtain ⟨y1, hy1⟩ : ∃ y, y = bs.getD (4 + 5 * k) 0 := ⟨_, rfl⟩
        obtain ⟨y2, hy2⟩ : ∃ y, y = bs.getD (5 + 5 * k) 0 := ⟨_, rfl⟩
        obtain ⟨y3, hy3⟩ : ∃ y, y = bs.getD (6 + 5 * k) 0 := ⟨_, rfl⟩
        obtain ⟨y4, hy4⟩ : ∃ y, y = bs.getD (7 + 5 * k) 0 := ⟨_, rfl⟩
        have m0 : y0 < 256 := by rw [hy0]; exact getD_lt bs Hb.out _
        have m1 : y1 < 256 := by rw [hy1]; exact getD_lt bs Hb.out _
        have m2 : y2 < 256 := by rw [hy2]; exact getD_lt bs Hb.out _
        have m3 : y3 < 256 := by rw [hy3]; exact getD_lt bs Hb.out _
        have m4 : y4 < 256 := by rw [hy4]; exact getD_lt bs Hb.out _
        have d0 : wr.cell? ⟨a.block, of_, none⟩ = some (.int .u8 (y0 : Int)) := by rw [hof, hy0]; exact cell_at hAr (3 + 5 * k) (by omega) (by omega)
        have d1 : wr.cell? ⟨a.block, of_ + 1, none⟩ = some (.int .u8 (y1 : Int)) := by rw [hof, hy1, show a.off + (3 + 5 * k) + 1 = a.off + (4 + 5 * k) by omega]; exact cell_at hAr (4 + 5 * k) (by omega) (by omega)
        have d2 : wr.cell? ⟨a.block, of_ + 2, none⟩ = some (.int .u8 (y2 : Int)) := by rw [hof, hy2, show a.off + (3 + 5 * k) + 2 = a.off + (5 + 5 * k) by omega]; exact cell_at hAr (5 + 5 * k) (by omega) (by omega)
        have d3 : wr.cell? ⟨a.block, of_ + 3, none⟩ = some (.int .u8 (y3 : Int)) := by rw [hof, hy3, show a.off + (3 + 5 * k) + 3 = a.off + (6 + 5 * k) by omega]; exact cell_at hAr (6 + 5 * k) (by omega) (by omega)
        have d4 : wr.cell? ⟨a.block, of_ + 4, none⟩ = some (.int .u8 (y4 : Int)) := by rw [hof, hy4, show a.off + (3 + 5 * k) + 4 = a.off + (7 + 5 * k) by omega]; exact cell_at hAr (7 + 5 * k) (by omega) (by omega)
        obtain ⟨y, hy⟩ : ∃ y, y = y2 * 256 + y3 := ⟨_, rfl⟩
        have fy : (y2 : Int) * 256 + (y3 : Int) = (y : Int) := by omega
        have He : Hid (enAt bs k = ⟨(y0 : Nat), (y1 : Nat), (y : Nat), (y4 : Nat)⟩) := by
          show _ = _
          unfold enAt
          rw [hy, hy0, hy1, hy2, hy3, hy4]
        have hyl : y ≤ 65535 := by omega
        rw [← hof] at hsl
        have habr : a.block < wr.heap.size := Nat.lt_of_lt_of_le hab hN.size
        have HV := Lib.hid hV
        have HR := Lib.hid hR
        have HO := Lib.hid hO
        have HS := Lib.hid hS
        have HN := Lib.hid hN
        clear hV hR hO hS hN hAr hof hy0 hy1 hy2 hy3 hy4 hy
        obtain ⟨eb, heb⟩ : ∃ eb, eb = wr.heap.size := ⟨_, rfl⟩
        go_upto_region 10 with (fail)
        go_cut [8] (fun s8 wx => s8 = .pointer (some ⟨eb, 0, none⟩) ∧ Has wx eb 60 #[.int .i64 (y0 : Int), .int .i64 (y1 : Int), .int .i64 (y : Int), .int .i64 (y4 : Int)] ∧ New wr wx)
        case first =>
          go_region
          go_wp2_with fail
          go_meet
          case rel => exact ⟨by rw [heb], by rw [heb]; exact Has.new wr 60 _, ((Chg.refl _ _).alloc _).drew⟩
        case rest =>
        obtain ⟨rfl, hE4, hM4⟩ := hcut
        have HE4 := Lib.hid hE4
        have HV4 := Lib.hid (HV.out.keep hM4)
        have HR4 := Lib.hid (HR.out.keep hM4)
        have HO4 := Lib.hid (own_new HO.out hM4)
        have HN4 := Lib.hid (HN.out.then_new hM4)
        have Hown : Hid (∀ x, Value.ownBlock (.slice A k cc) = some x → w.heap.size ≤ x ∧ x < eb) := fun x hx => by rw [heb]; exact HO.out.lt x hx
        have Heb : Hid (w.heap.size ≤ eb) := by rw [Hid, heb]; exact HN.out.size
        have e0 : wc.cell? ⟨eb, 0, none⟩ = some (.int .i64 (y0 : Int)) := (hE4.cell 0).trans rfl
        have e1 : wc.cell? ⟨eb, 1, none⟩ = some (.int .i64 (y1 : Int)) := (hE4.cell 1).trans rfl
        have e2 : wc.cell? ⟨eb, 2, none⟩ = some (.int .i64 (y : Int)) := (hE4.cell 2).trans rfl
        have e3 : wc.cell? ⟨eb, 3, none⟩ = some (.int .i64 (y4 : Int)) := (hE4.cell 3).trans rfl
        clear heb hM4 hE4 HV HR HO HN d0 d1 d2 d3 d4 hsl fy habr
        obtain ⟨bad, hbad⟩ : ∃ bad : Bool, bad = !decide (1 ≤ y0 ∧ y0 ≤ 4 ∧ 1 ≤ y1 ∧ y1 ≤ 4 ∧ 1 ≤ y ∧ y4 ≤ 5) := ⟨_, rfl⟩
        have Hbad := Lib.hid hbad; clear hbad
        go_upto_region 11 with (fail)
        go_cut [97] (fun s97 wx => s97 = .bool bad ∧ wc = wx)
        case first =>
          have hall := dir_bad Hbad.out
          rcases hall with ⟨hb, b0⟩ | ⟨hb, b0, b1⟩ | ⟨hb, b0, b1, b2⟩ | ⟨hb, b0, b1, b2, b3⟩ | ⟨hb, b0, b1, b2, b3, b4⟩ | ⟨hb, b0, b1, b2, b3, b4, b5⟩ | ⟨hb, b0, b1, b2, b3, b4, b5⟩
          all_goals
            go_wp2_with fail
            go_meet
            case rel => exact ⟨by rw [hb], rfl⟩
        case rest =>
        obtain ⟨rfl, hwc⟩ := hcut
        subst hwc
        have v0 : wc.cell? ⟨vb, 0, none⟩ = some (.int .i64 0) := (HV4.out.cell 0).trans rfl
        have v1 : wc.cell? ⟨vb, 1, none⟩ = some (.int .i64 0) := (HV4.out.cell 1).trans rfl
        have v2 : wc.cell? ⟨vb, 2, none⟩ = some (.int .i64 (q : Int)) := (HV4.out.cell 2).trans rfl
        have v3 : wc.cell? ⟨vb, 3, none⟩ = some (.int .i64 0) := (HV4.out.cell 3).trans rfl
        have v4 : wc.cell? ⟨vb, 4, none⟩ = some (.slice A k cc) := (HV4.out.cell 4).trans rfl
        have r0 : wc.cell? ⟨rb, 0, none⟩ = some (.int .i64 0) := (HR4.out.cell 0).trans rfl
        have r1 : wc.cell? ⟨rb, 1, none⟩ = some (.int .i64 0) := (HR4.out.cell 1).trans rfl
        have r2 : wc.cell? ⟨rb, 2, none⟩ = some (.int .i64 0) := (HR4.out.cell 2).trans rfl
        have r3 : wc.cell? ⟨rb, 3, none⟩ = some (.int .i64 0) := (HR4.out.cell 3).trans rfl
        have r4 : wc.cell? ⟨rb, 4, none⟩ = some (.slice none 0 0) := (HR4.out.cell 4).trans rfl
        have z0 := HR4.out.free 0
        have z1 := HR4.out.free 1
        have z2 := HR4.out.free 2
        have z3 := HR4.out.free 3
        have z4 := HR4.out.free 4
        cases bad with
        | true =>
          have Hd : Hid (dirB bs = false) := not_good (k := k) (by rw [← Hn.out]; exact hlt) (by rw [He.out]; exact dir_not Hbad.out)
          go_wp2_with fail
          obtain ⟨hX, hGX⟩ := set5 HR4.out (.int .i64 0) (.int .i64 0) (.int .i64 (q : Int)) (.int .i64 0) (.slice A k cc)
          generalize (((((wc.setCell ⟨rb, 0, none⟩ (.int .i64 0)).setCell ⟨rb, 1, none⟩ (.int .i64 0)).setCell ⟨rb, 2, none⟩ (.int .i64 (q : Int))).setCell ⟨rb, 3, none⟩ (.int .i64 0)).setCell ⟨rb, 4, none⟩ (.slice A k cc)) = wX at hX hGX ⊢
          have g0 := (hX.cell 0).trans rfl
          have g1 := (hX.cell 1).trans rfl
          have g2 := (hX.cell 2).trans rfl
          have g3 := (hX.cell 3).trans rfl
          have g4 := (hX.cell 4).trans rfl
          refine bodyPost_ret (v := .tuple #[.agg #[.int .i64 0, .int .i64 0, .int .i64 (q : Int), .int .i64 0, .slice A k cc], .bool false]) (by simp [results, Try.results38, go_sem, g0, g1, g2, g3, g4]) rfl ?_
          exact ⟨Or.inr ⟨Hd.out, _, _, _, _, rfl⟩, HN4.out.trans hGX (fun i hi h => by have := Hrv.out; omega)⟩
        | false =>
          have Hgood : Hid ((enAt bs k).good) := by
            show (enAt bs k).good
            rw [He.out]
            exact dir_good Hbad.out hyl
          clear v0 v1 v2 v3 v4 r0 r1 r2 r3 r4 z0 z1 z2 z3 z4 e0 e1 e2 e3 Hbad
          go_wp2_with fail
          go_loopg [9] k (fun gk x wy => ∃ t : Nat, t ≤ k ∧ gk = k - t ∧ x = .int .i64 t ∧ (∀ t', t' < t → ¬ clash (enAt bs k) (enAt bs t')) ∧ New wc wy)
          case atStart => exact ⟨0, by omega, by omega, rfl, fun t' h => by omega, Chg.refl _ _⟩
          case round =>
            obtain ⟨t, ht, rfl, rfl, hno, hNy⟩ := hrel
            have hV := HV4.out.keep hNy
            have hR := HR4.out.keep hNy
            have hE := HE4.out.keep hNy
            have hO := own_new HO4.out hNy
            have v0 : wr.cell? ⟨vb, 0, none⟩ = some (.int .i64 0) := (hV.cell 0).trans rfl
            have v1 : wr.cell? ⟨vb, 1, none⟩ = some (.int .i64 0) := (hV.cell 1).trans rfl
            have v2 : wr.cell? ⟨vb, 2, none⟩ = some (.int .i64 (q : Int)) := (hV.cell 2).trans rfl
            have v3 : wr.cell? ⟨vb, 3, none⟩ = some (.int .i64 0) := (hV.cell 3).trans rfl
            have v4 : wr.cell? ⟨vb, 4, none⟩ = some (.slice A k cc) := (hV.cell 4).trans rfl
            have e0 : wr.cell? ⟨eb, 0, none⟩ = some (.int .i64 (y0 : Int)) := (hE.cell 0).trans rfl
            have e1 : wr.cell? ⟨eb, 1, none⟩ = some (.int .i64 (y1 : Int)) := (hE.cell 1).trans rfl
            have e2 : wr.cell? ⟨eb, 2, none⟩ = some (.int .i64 (y : Int)) := (hE.cell 2).trans rfl
            have e3 : wr.cell? ⟨eb, 3, none⟩ = some (.int .i64 (y4 : Int)) := (hE.cell 3).trans rfl
            have HNo := Lib.hid hno
            have HNy := Lib.hid hNy
            have HNz := Lib.hid (HN4.out.then_new hNy)
            have HVy := Lib.hid hV
            have HRy := Lib.hid hR
            have HEy := Lib.hid hE
            have HOy := Lib.hid hO
            clear hno hNy hV hR hE hO
            by_cases htl : t < k
            · have hEt := Ents.of_own HOy.out t (enAt bs t) (ens_get bs k t htl)
              obtain ⟨A', rfl, hF', h0, h1, h2, h3⟩ := hEt
              obtain ⟨f0, hf0⟩ : ∃ x, x = (enAt bs t).k := ⟨_, rfl⟩
              obtain ⟨f1, hf1⟩ : ∃ x, x = (enAt bs t).o := ⟨_, rfl⟩
              obtain ⟨f2, hf2⟩ : ∃ x, x = (enAt bs t).i := ⟨_, rfl⟩
              obtain ⟨f3, hf3⟩ : ∃ x, x = (enAt bs t).s := ⟨_, rfl⟩
              rw [← hf0] at h0
              rw [← hf1] at h1
              rw [← hf2] at h2
              rw [← hf3] at h3
              have hAb : (A'.add (t * 4)).block < wr.heap.size := World.block_lt_of_cell? _ _ h0
              have Hcl : Hid (clash (enAt bs k) (enAt bs t) ↔ (f3 = (y4 : Int) ∨ (f1 = (y1 : Int) ∧ f2 = (y : Int)))) := by
                rw [Hid]
                unfold clash
                rw [He.out, ← hf1, ← hf2, ← hf3]
              clear hf0 hf1 hf2 hf3 hF'
              have hebl := HEy.out.lt
              obtain ⟨bad, hbad⟩ : ∃ bad : Bool, bad = decide (f3 = (y4 : Int) ∨ (f1 = (y1 : Int) ∧ f2 = (y : Int))) := ⟨_, rfl⟩
              have Hbad := Lib.hid hbad; clear hbad
              go_upto_region 17 with (fail)
              obtain ⟨ob, hob⟩ : ∃ ob, ob = wr.heap.size := ⟨_, rfl⟩
              obtain ⟨w5, hw5⟩ : ∃ w5, w5 = wr.alloc (.cells #[.int .i64 f0, .int .i64 f1, .int .i64 f2, .int .i64 f3] 60) := ⟨_, rfl⟩
              have hM5 : New wr w5 := by rw [hw5]; exact (Chg.refl _ _).alloc _
              have hH5 : Has w5 ob 60 #[.int .i64 f0, .int .i64 f1, .int .i64 f2, .int .i64 f3] := by rw [hw5, hob]; exact Has.new wr 60 _
              rw [← hw5, ← hob]
              have o1 : w5.cell? ⟨ob, 1, none⟩ = some (.int .i64 f1) := (hH5.cell 1).trans rfl
              have o2 : w5.cell? ⟨ob, 2, none⟩ = some (.int .i64 f2) := (hH5.cell 2).trans rfl
              have o3 : w5.cell? ⟨ob, 3, none⟩ = some (.int .i64 f3) := (hH5.cell 3).trans rfl
              have hE5 := HEy.out.keep hM5
              have HV5 := Lib.hid (HVy.out.keep hM5)
              have HR5 := Lib.hid (HRy.out.keep hM5)
              have HN5 := Lib.hid (HNz.out.then_new hM5)
              have HM5 := Lib.hid (HNy.out.then_new hM5)
              clear e0 e1 e2 e3 v0 v1 v2 v3 v4 h0 h1 h2 h3 hAb hebl hw5 hob hM5 hH5
              have e0 : w5.cell? ⟨eb, 0, none⟩ = some (.int .i64 (y0 : Int)) := (hE5.cell 0).trans rfl
              have e1 : w5.cell? ⟨eb, 1, none⟩ = some (.int .i64 (y1 : Int)) := (hE5.cell 1).trans rfl
              have e2 : w5.cell? ⟨eb, 2, none⟩ = some (.int .i64 (y : Int)) := (hE5.cell 2).trans rfl
              have e3 : w5.cell? ⟨eb, 3, none⟩ = some (.int .i64 (y4 : Int)) := (hE5.cell 3).trans rfl
              clear hE5
              go_cut [127] (fun s127 wx => s127 = .bool bad ∧ w5 = wx)
              case first =>
                have hall := clash_ways Hbad.out
                rcases hall with ⟨hb, b0⟩ | ⟨hb, b0, b1⟩ | ⟨hb, b0, b1, b2⟩ | ⟨hb, b0, b1, b2⟩
                all_goals
                  go_wp2_with fail
                  go_meet
                  case rel => exact ⟨by rw [hb], rfl⟩
              case rest =>
              obtain ⟨rfl, hwc⟩ := hcut
              subst hwc
              clear e0 e1 e2 e3 o1 o2 o3
              have v0 : w5.cell? ⟨vb, 0, none⟩ = some (.int .i64 0) := (HV5.out.cell 0).trans rfl
              have v1 : w5.cell? ⟨vb, 1, none⟩ = some (.int .i64 0) := (HV5.out.cell 1).trans rfl
              have v2 : w5.cell? ⟨vb, 2, none⟩ = some (.int .i64 (q : Int)) := (HV5.out.cell 2).trans rfl
              have v3 : w5.cell? ⟨vb, 3, none⟩ = some (.int .i64 0) := (HV5.out.cell 3).trans rfl
              have v4 : w5.cell? ⟨vb, 4, none⟩ = some (.slice (some A') k cc) := (HV5.out.cell 4).trans rfl
              have r0 : w5.cell? ⟨rb, 0, none⟩ = some (.int .i64 0) := (HR5.out.cell 0).trans rfl
              have r1 : w5.cell? ⟨rb, 1, none⟩ = some (.int .i64 0) := (HR5.out.cell 1).trans rfl
              have r2 : w5.cell? ⟨rb, 2, none⟩ = some (.int .i64 0) := (HR5.out.cell 2).trans rfl
              have r3 : w5.cell? ⟨rb, 3, none⟩ = some (.int .i64 0) := (HR5.out.cell 3).trans rfl
              have r4 : w5.cell? ⟨rb, 4, none⟩ = some (.slice none 0 0) := (HR5.out.cell 4).trans rfl
              have z0 := HR5.out.free 0
              have z1 := HR5.out.free 1
              have z2 := HR5.out.free 2
              have z3 := HR5.out.free 3
              have z4 := HR5.out.free 4
              cases bad with
              | true =>
                have Hd : Hid (dirB bs = false) := not_apart (k := k) (t := t) (by rw [← Hn.out]; exact hlt) htl (Hcl.out.2 (of_decide_eq_true Hbad.out.symm))
                go_wp2_with fail
                obtain ⟨hX, hGX⟩ := set5 HR5.out (.int .i64 0) (.int .i64 0) (.int .i64 (q : Int)) (.int .i64 0) (.slice (some A') k cc)
                generalize (((((w5.setCell ⟨rb, 0, none⟩ (.int .i64 0)).setCell ⟨rb, 1, none⟩ (.int .i64 0)).setCell ⟨rb, 2, none⟩ (.int .i64 (q : Int))).setCell ⟨rb, 3, none⟩ (.int .i64 0)).setCell ⟨rb, 4, none⟩ (.slice (some A') k cc)) = wX at hX hGX ⊢
                have g0 := (hX.cell 0).trans rfl
                have g1 := (hX.cell 1).trans rfl
                have g2 := (hX.cell 2).trans rfl
                have g3 := (hX.cell 3).trans rfl
                have g4 := (hX.cell 4).trans rfl
                refine bodyPost_ret (v := .tuple #[.agg #[.int .i64 0, .int .i64 0, .int .i64 (q : Int), .int .i64 0, .slice (some A') k cc], .bool false]) (by simp [results, Try.results38, go_sem, g0, g1, g2, g3, g4]) rfl ?_
                exact ⟨Or.inr ⟨Hd.out, _, _, _, _, rfl⟩, HN5.out.trans hGX (fun i hi h => by have := Hrv.out; omega)⟩
              | false =>
                clear v0 v1 v2 v3 v4 r0 r1 r2 r3 r4 z0 z1 z2 z3 z4
                go_wp2_with fail
                go_roundg (k - (t + 1))
                case measure => omega
                case rel =>
                  refine ⟨t + 1, by omega, rfl, by go_num, fun t' ht' => ?_, HM5.out⟩
                  rcases Nat.lt_or_ge t' t with h | h
                  · exact HNo.out t' h
                  · obtain rfl : t' = t := by omega
                    exact fun h => of_decide_eq_false Hbad.out.symm (Hcl.out.1 h)
            · obtain rfl : t = k := by omega
              have Hsnd := Lib.hid (sound_step HS.out Hgood.out HNo.out)
              have hvb := HVy.out.lt
              have hebl := HEy.out.lt
              have Hov : Hid (∀ x, Value.ownBlock (.slice A t cc) = some x → x ≠ vb ∧ x ≠ rb) := fun x hx => ⟨fun h => own_apart HOy.out HVy.out (by decide) (by rw [hx, h]), fun h => own_apart HOy.out HRy.out (by decide) (by rw [hx, h])⟩
              clear v0 v1 v2 v3
              go_wp2_with (at_builtin; refine wpList_append_one rfl _ _ 28 rfl w.heap.size 60 i0 (.agg #[.int .i64 0, .int .i64 0, .int .i64 0, .int .i64 0]) 4 32 Try.underlying28 hi hz0 hz1 hz2 rfl (by decide) (.slice A t cc) t (enRow (ens bs t)) rfl HOy.out #[.int .i64 (y0 : Int), .int .i64 (y1 : Int), .int .i64 (y : Int), .int .i64 (y4 : Int)] rfl rfl (by simp [Value.oneCell']) (by simp only [maxLen]; omega) (by omega) HNz.out.size ?_)
              intro A6 c6 w6 hO6 hC6 hf6
              have HV6 := Lib.hid (HVy.out.chg hC6 (fun h => (Hov.out vb h).1 rfl))
              have HR6 := Lib.hid (HRy.out.chg hC6 (fun h => (Hov.out rb h).2 rfl))
              have HN6 : Hid (New w w6) := HNz.out.trans hC6 (fun x hx h => by have := (HOy.out.lt x h).1; omega)
              have v4' : w6.cell? ⟨vb, 4, none⟩ = some (.slice A t cc) := (HV6.out.cell 4).trans rfl
              have z4' := HV6.out.free 4
              have HO6 := Lib.hid hO6
              clear hO6 hC6 hf6 v4
              go_wp2_with fail
              go_roundg (n - (t + 1))
              case measure => omega
              case rel =>
                have hG7 : Chg (· = vb) w6 (w6.setCell ⟨vb, 4, none⟩ (.slice A6 (t + 1) c6)) := Chg.setCell (S := (· = vb)) (Chg.refl _ _) (fun _ => rfl) _
                refine ⟨t + 1, A6, c6, by omega, rfl, by go_num, HV6.out.set 4 _, HR6.out.chg hG7 Hrv.out.1, ?_, Hsnd.out, HN6.out.trans hG7 (fun i hi h => by have := Hrv.out; omega)⟩
                have h8 := own_chg HO6.out hG7 (fun x hx h => own_apart HO6.out HV6.out (by decide) (by rw [hx, h]))
                have e8 : enRow (ens bs (t + 1)) = enRow (ens bs t) ++ [.int .i64 (y0 : Int), .int .i64 (y1 : Int), .int .i64 (y : Int), .int .i64 (y4 : Int)] := by
                  rw [ens_step, enRow, List.flatMap_append, He.out]
                  rfl
                rw [e8]
                exact h8
      · obtain rfl : k = n := by omega
        have v0 : wr.cell? ⟨vb, 0, none⟩ = some (.int .i64 0) := (hV.cell 0).trans rfl
        have v1 : wr.cell? ⟨vb, 1, none⟩ = some (.int .i64 0) := (hV.cell 1).trans rfl
        have v2 : wr.cell? ⟨vb, 2, none⟩ = some (.int .i64 (q : Int)) := (hV.cell 2).trans rfl
        have v3 : wr.cell? ⟨vb, 3, none⟩ = some (.int .i64 0) := (hV.cell 3).trans rfl
        have v4 : wr.cell? ⟨vb, 4, none⟩ = some (.slice A k cc) := (hV.cell 4).trans rfl
        have r0 : wr.cell? ⟨rb, 0, none⟩ = some (.int .i64 0) := (hR.cell 0).trans rfl
        have r1 : wr.cell? ⟨rb, 1, none⟩ = some (.int .i64 0) := (hR.cell 1).trans rfl
        have r2 : wr.cell? ⟨rb, 2, none⟩ = some (.int .i64 0) := (hR.cell 2).trans rfl
        have r3 : wr.cell? ⟨rb, 3, none⟩ = some (.int .i64 0) := (hR.cell 3).trans rfl
        have r4 : wr.cell? ⟨rb, 4, none⟩ = some (.slice none 0 0) := (hR.cell 4).trans rfl
        have z0 := hR.free 0
        have z1 := hR.free 1
        have z2 := hR.free 2
        have z3 := hR.free 3
        have z4 := hR.free 4
        have HV := Lib.hid hV
        have HR := Lib.hid hR
        have HO := Lib.hid hO
        have HN := Lib.hid hN
        have Hov : Hid (∀ x, Value.ownBlock (.slice A k cc) = some x → x ≠ rb) := fun x hx h => own_apart hO hR (by decide) (by rw [hx, h])
        have HDir : Hid (dirB bs = (decide (0 < q) && nil0 bs (3 + 5 * k))) := by
          rw [Hid]
          unfold dirB
          rw [hsum, ← Hn.out, decide_eq_true hn5, decide_eq_true hS, ← Hq.out]
          simp
        obtain ⟨z, hz⟩ : ∃ z, z = nil0 bs (3 + 5 * k) := ⟨_, rfl⟩
        have HZ : Hid (∀ wx, New wr wx → Calls Try.prog 37 #[.slice (some ⟨a.block, a.off + (3 + 5 * k), none⟩) (27 - 5 * k) (c - (3 + 5 * k))] wx fun e w' => e = .returned (.bool z) ∧ w' = wx) := by
          intro wx hx
          have hAx := HA.out.new (hN.then_new hx) HF.out
          have hcut := Arr.cut (l := 3 + 5 * k) (m := 27 - 5 * k) hAx (by omega)
          have ha : a.add (3 + 5 * k) = ⟨a.block, a.off + (3 + 5 * k), none⟩ := by unfold Addr.add; rw [if_neg (by omega)]
          rw [ha] at hcut
          have hz' : z = ((bs.drop (3 + 5 * k)).take (27 - 5 * k)).all (· == 0) := by
            rw [hz]
            unfold nil0
            rw [List.drop_take, show 30 - (3 + 5 * k) = 27 - 5 * k by omega]
          rw [hz']
          exact rZeros_any _ _ _ F _ wx hcut (by rw [List.length_take, List.length_drop, Hl.out]; omega) (by omega)
        have hsl : ∀ wy, (Instr.slice 22 (.slice (some a) 32 c) (some (.int .i64 (3 + 5 * (k : Int)))) (some (.int .i64 30)) none).run Try.prog wy = .ok (.slice (some ⟨a.block, a.off + (3 + 5 * k), none⟩) (27 - 5 * k) (c - (3 + 5 * k))) wy := by
          intro wy
          have h := slice_cut a 32 c (3 + 5 * k) 30 (by omega) (by omega) (by omega) wy
          rw [show ((3 + 5 * k : Nat) : Int) = 3 + 5 * (k : Int) by omega, show 30 - (3 + 5 * k) = 27 - 5 * k by omega] at h
          have ha : a.add (3 + 5 * k) = ⟨a.block, a.off + (3 + 5 * k), none⟩ := by unfold Addr.add; rw [if_neg (by omega)]
          rw [ha] at h
          exact h
        rw [← hz] at HDir
        have Hrb := HR.out.lt
        have hw1 : IntKind.i64.wrap (5 * (k : Int)) = 5 * (k : Int) := IntWalk.i64_in _ (by omega)
        have hw2 : IntKind.i64.wrap (3 + 5 * (k : Int)) = 3 + 5 * (k : Int) := IntWalk.i64_in _ (by omega)
        clear hV hR hO hN hz hS hsum
        obtain ⟨of_, hof⟩ : ∃ o, o = a.off + (3 + 5 * k) := ⟨_, rfl⟩
        obtain ⟨m, hm⟩ : ∃ m, m = 27 - 5 * k := ⟨_, rfl⟩
        obtain ⟨cx, hcx⟩ : ∃ cx, cx = c - (3 + 5 * k) := ⟨_, rfl⟩
        rw [← hof, ← hm, ← hcx] at hsl HZ
        clear hof hm hcx
        by_cases hq0 : 0 < q
        · have tq : decide (0 < (q : Int)) = true := by simp only [decide_eq_true_eq]; omega
          have tq' : decide (0 < q) = true := decide_eq_true hq0
          rw [tq', Bool.true_and] at HDir
          go_upto_region 20 with (fail)
          have HKv : Hid (∀ wx, Chg (· = rb) wr wx → wx.cell? ⟨vb, 0, none⟩ = some (.int .i64 0) ∧ wx.cell? ⟨vb, 1, none⟩ = some (.int .i64 0) ∧ wx.cell? ⟨vb, 2, none⟩ = some (.int .i64 (q : Int)) ∧ wx.cell? ⟨vb, 3, none⟩ = some (.int .i64 0) ∧ wx.cell? ⟨vb, 4, none⟩ = some (.slice A k cc)) := by
            intro wx hx
            have h := HV.out.chg hx (fun h => Hrv.out.1 h.symm)
            exact ⟨(h.cell 0).trans rfl, (h.cell 1).trans rfl, (h.cell 2).trans rfl, (h.cell 3).trans rfl, (h.cell 4).trans rfl⟩
          have HZd := Lib.hid (HZ.out _ (Chg.refl _ wr).drew)
          clear HZ v0 v1 v2 v3 v4
          go_region_held_law (fun wx => wx.cell? ⟨vb, 0, none⟩ = some (.int .i64 0) ∧ wx.cell? ⟨vb, 1, none⟩ = some (.int .i64 0) ∧ wx.cell? ⟨vb, 2, none⟩ = some (.int .i64 (q : Int)) ∧ wx.cell? ⟨vb, 3, none⟩ = some (.int .i64 0) ∧ wx.cell? ⟨vb, 4, none⟩ = some (.slice A k cc))
            (with_reducible refine HKv.out _ ?_; with_reducible repeat (first | exact Chg.refl _ _ | refine Chg.drew ?_ | refine Chg.setCell (S := (· = rb)) ?_ (fun _ => by dsimp only) _))
            (first
              | (go_at_call 37; (with_reducible refine HZd.out.mono ?_); rintro e w' ⟨rfl, rfl⟩))
          all_goals
            go_wp2_with fail
            obtain ⟨hX, hGX⟩ := set5 HR.out (.int .i64 0) (.int .i64 0) (.int .i64 (q : Int)) (.int .i64 0) (.slice A k cc)
            generalize (((((wr.setCell ⟨rb, 0, none⟩ (.int .i64 0)).setCell ⟨rb, 1, none⟩ (.int .i64 0)).setCell ⟨rb, 2, none⟩ (.int .i64 (q : Int))).setCell ⟨rb, 3, none⟩ (.int .i64 0)).setCell ⟨rb, 4, none⟩ (.slice A k cc)) = wX at hX hGX ⊢
            have g0 := (hX.cell 0).trans rfl
            have g1 := (hX.cell 1).trans rfl
            have g2 := (hX.cell 2).trans rfl
            have g3 := (hX.cell 3).trans rfl
            have g4 := (hX.cell 4).trans rfl
            refine bodyPost_ret (v := .tuple #[.agg #[.int .i64 0, .int .i64 0, .int .i64 (q : Int), .int .i64 0, .slice A k cc], .bool z]) (by simp [results, Try.results38, go_sem, g0, g1, g2, g3, g4]) rfl ?_
            have hNX : New w wX.drew := (HN.out.trans hGX (fun i hi h => by have := Hrv.out; omega)).drew
            cases z with
            | true =>
              refine ⟨Or.inl ⟨HDir.out, A, cc, ?_, ?_⟩, hNX⟩
              · rw [← Hn.out, ← Hq.out]
              · rw [← Hn.out]
                exact own_new (own_chg HO.out hGX (fun x hx h => Hov.out x hx h)) (Chg.refl _ _).drew
            | false => exact ⟨Or.inr ⟨HDir.out, _, _, _, _, rfl⟩, hNX⟩
        · have tq : decide (0 < (q : Int)) = false := by simp only [decide_eq_false_iff_not]; omega
          have tq' : decide (0 < q) = false := decide_eq_false hq0
          rw [tq', Bool.false_and] at HDir
          obtain rfl : q = 0 := by omega
          clear HZ tq tq' hq0
          go_upto_region 20 with (fail)
          go_region
          all_goals
            go_wp2_with fail
            obtain ⟨hX, hGX⟩ := set5 HR.out (.int .i64 0) (.int .i64 0) (.int .i64 0) (.int .i64 0) (.slice A k cc)
            generalize (((((wr.setCell ⟨rb, 0, none⟩ (.int .i64 0)).setCell ⟨rb, 1, none⟩ (.int .i64 0)).setCell ⟨rb, 2, none⟩ (.int .i64 0)).setCell ⟨rb, 3, none⟩ (.int .i64 0)).setCell ⟨rb, 4, none⟩ (.slice A k cc)) = wX at hX hGX ⊢
            have g0 := (hX.cell 0).trans rfl
            have g1 := (hX.cell 1).trans rfl
            have g2 := (hX.cell 2).trans rfl
            have g3 := (hX.cell 3).trans rfl
            have g4 := (hX.cell 4).trans rfl
            refine bodyPost_ret (v := .tuple #[.agg #[.int .i64 0, .int .i64 0, .int .i64 0, .int .i64 0, .slice A k cc], .bool false]) (by simp [results, Try.results38, go_sem, g0, g1, g2, g3, g4]) rfl ?_
            have hNX : New w wX.drew := (HN.out.trans hGX (fun i hi h => by have := Hrv.out; omega)).drew
            exact ⟨Or.inr ⟨HDir.out, _, _, _, _, rfl⟩, hNX⟩
end Go.Proofs.Ytjkpijinpfimiaa
