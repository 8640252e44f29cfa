/-
  What the law's own view and entries come to.
-/
import Derived.Test.YtjkpijinpfimiaaRefD
namespace Go.Proofs.Ytjkpijinpfimiaa
open Go.RowKit
theorem Ents.news {w : World} {F : Nat → Prop} {A : Option Addr} {l : List En} (h : Ents w F A l) (j : Nat) (u : Value) (hu : (enRow l)[j]? = some u) : ∃ ad, A = some ad ∧ w.cell? (ad.add j) = some u := by
  have hj : j < (enRow l).length := (List.getElem?_eq_some_iff.1 hu).1
  rw [enRow_len] at hj
  have hlt : j / 4 < l.length := by omega
  have he : l[j / 4]? = some l[j / 4] := List.getElem?_eq_getElem hlt
  have hr : j % 4 < 4 := Nat.mod_lt _ (by omega)
  have hg := enRow_get l (j / 4) (j % 4) _ he hr
  rw [show j / 4 * 4 + j % 4 = j by omega, hu] at hg
  obtain ⟨a, ha, _, h0, h1, h2, h3⟩ := h _ _ he
  refine ⟨a, ha, ?_⟩
  generalize l[j / 4] = e at hg h0 h1 h2 h3
  rw [show j = j / 4 * 4 + j % 4 by omega]
  have hadd : ∀ r, r ≠ 0 → a.add (j / 4 * 4 + r) = ⟨(a.add (j / 4 * 4)).block, (a.add (j / 4 * 4)).off + r, none⟩ := by
    intro r hr0
    rw [← add_add]
    unfold Addr.add
    rw [if_neg hr0]
  generalize j % 4 = r at hg hr ⊢
  rcases (show r = 0 ∨ r = 1 ∨ r = 2 ∨ r = 3 by omega) with rfl | rfl | rfl | rfl
  · rw [Nat.add_zero, h0]; exact hg.symm
  · rw [hadd 1 (by omega), h1]; exact hg.symm
  · rw [hadd 2 (by omega), h2]; exact hg.symm
  · rw [hadd 3 (by omega), h3]; exact hg.symm
theorem enRow_one (l : List En) : ∀ u ∈ enRow l, u.oneCell' = true := by
  intro u hu
  simp only [enRow, List.mem_flatMap, enCells, List.mem_cons, List.not_mem_nil, or_false] at hu
  obtain ⟨e, _, rfl | rfl | rfl | rfl⟩ := hu <;> rfl
theorem own_emptyE {w : World} {g base : Nat} (h : Has w g 60 #[]) (hb : base ≤ g) : w.ownsRow base 60 4 (.slice (some ⟨g, 0, none⟩) 0 0) 0 [] :=
  ⟨by simp, Or.inr ⟨g, 0, #[], rfl, hb, h, Nat.le_refl _, by decide, rfl, rfl⟩⟩
set_option maxRecDepth 100000 in
set_option maxHeartbeats 8000000 in
theorem view_any (cd u q p : Int) (A : Option Addr) (n c : Nat) (F : Nat → Prop) (l : List En) (w : World) (hE : Ents w F A l) (hF : ∀ k, F k → k < w.heap.size) (hn : l.length = n) (hnil : A = none → n = 0 ∧ c = 0) (hn5 : n ≤ 1000) :
    Calls Try.prog 15 #[.agg #[.int .i64 cd, .int .i64 u, .int .i64 q, .int .i64 p, .slice A n c]] w fun e w' => ∃ A' c', e = .returned (.agg #[.int .i64 cd, .int .i64 u, .int .i64 q, .int .i64 p, .slice A' n c']) ∧ w'.ownsRow w.heap.size 60 4 (.slice A' n c') n (enRow l) ∧ New w w' := by
  obtain ⟨i0, hi, hz0, hz1, hz2⟩ := info_parts Try.info60
  have HE := Lib.hid hE; clear hE
  have HF := Lib.hid hF; clear hF
  have Hn := Lib.hid hn; clear hn
  have Hnil := Lib.hid hnil; clear hnil
  obtain ⟨b, hb⟩ : ∃ b, b = w.heap.size := ⟨_, rfl⟩
  obtain ⟨rb, hrb⟩ : ∃ rb, rb = w.heap.size + 1 := ⟨_, rfl⟩
  go_enter Try.func15, Try.ntmps15
  go_upto_region 1 with (fail)
  obtain ⟨w1, hw1⟩ : ∃ w1, w1 = (w.alloc (.cells #[.int .i64 cd, .int .i64 u, .int .i64 q, .int .i64 p, .slice A n c] 30)).alloc (.cells #[.int .i64 0, .int .i64 0, .int .i64 0, .int .i64 0, .slice none 0 0] 34) := ⟨_, rfl⟩
  have HB1 : Hid (Has w1 b 30 #[.int .i64 cd, .int .i64 u, .int .i64 q, .int .i64 p, .slice A n c]) := by rw [hw1, hb]; exact (Has.new w 30 _).alloc _
  have HR1 : Hid (Has w1 rb 34 #[.int .i64 0, .int .i64 0, .int .i64 0, .int .i64 0, .slice none 0 0]) := by rw [hw1, hrb]; exact Has.new_at _ 34 _ _ (by simp)
  have HN1 : Hid (New w w1) := by rw [hw1]; exact ((Chg.refl _ _).alloc _).alloc _
  rw [← hw1, ← hrb, ← hb]
  have HK : Hid (∀ wx, Chg (fun k => w1.heap.size ≤ k ∨ k = rb) w1 wx → wx.cell? ⟨b, 0, none⟩ = some (.int .i64 cd) ∧ wx.cell? ⟨b, 1, none⟩ = some (.int .i64 u) ∧ wx.cell? ⟨b, 2, none⟩ = some (.int .i64 q) ∧ wx.cell? ⟨b, 3, none⟩ = some (.int .i64 p) ∧ wx.cell? ⟨b, 4, none⟩ = some (.slice A n c)) := by
    intro wx hx
    have h := HB1.out.chg hx (fun h => by have := HB1.out.lt; omega)
    exact ⟨(h.cell 0).trans rfl, (h.cell 1).trans rfl, (h.cell 2).trans rfl, (h.cell 3).trans rfl, (h.cell 4).trans rfl⟩
  have HEx : Hid (∀ wx, New w1 wx → Ents wx F A l) := fun wx hx => HE.out.new (HN1.out.then_new hx) HF.out
  have Hrb : Hid (w.heap.size ≤ rb ∧ rb < w1.heap.size) := by have := HR1.out.lt; show _ ∧ _; omega
  clear hw1 hb hrb
  go_region_held_law (fun wx => wx.cell? ⟨b, 0, none⟩ = some (.int .i64 cd) ∧ wx.cell? ⟨b, 1, none⟩ = some (.int .i64 u) ∧ wx.cell? ⟨b, 2, none⟩ = some (.int .i64 q) ∧ wx.cell? ⟨b, 3, none⟩ = some (.int .i64 p) ∧ wx.cell? ⟨b, 4, none⟩ = some (.slice A n c))
    (first
      | (with_reducible exact HK3.out)
      | (with_reducible refine HK4.out _ ?_; with_reducible repeat (first | exact Chg.refl _ _ | refine Chg.drew ?_ | refine Chg.setCell (S := (· = rb)) ?_ (fun _ => by dsimp only) _))
      | (with_reducible refine HK.out _ ?_; with_reducible repeat (first | exact Chg.refl _ _ | refine Chg.alloc ?_ _ | refine Chg.drew ?_)))
    (first
      | (refine step_append_src rfl (.tmp 11) (.tmp 13) 28 rfl w.heap.size 60 i0 (.agg #[.int .i64 0, .int .i64 0, .int .i64 0, .int .i64 0]) 4 32 Try.underlying28 hi hz0 hz1 hz2 rfl (by decide) (.slice (some ⟨w1.heap.size, 0, none⟩) 0 0) 0 [] rfl (own_emptyE (by ((with_reducible repeat (first | exact Has.new_at _ _ _ _ rfl | refine Has.drew ?_ | refine Has.alloc ?_ _)); fail_if_success (have := True.intro))) HN1.out.size) A n c (enRow l) rfl Hnil.out (by rw [enRow_len, Hn.out]) (Ents.news (HEx.out _ (by ((with_reducible repeat (first | exact Chg.refl _ _ | refine Chg.alloc ?_ _ | refine Chg.drew ?_)); fail_if_success (have := True.intro))))) (enRow_one l) (by simp only [maxLen]; omega) (by omega) (by have := HN1.out.size; simp; omega) ?_
         intro A3 c3 w3 hO3 hC3 hf3
         have hG3 : Chg (fun k => w1.heap.size ≤ k) w1 w3 := Chg.trans (S := fun k => w1.heap.size ≤ k) (by with_reducible repeat (first | exact Chg.refl _ _ | refine Chg.alloc ?_ _ | refine Chg.drew ?_)) hC3 (fun i hi h => by simp only [Value.ownBlock, Option.some.injEq] at h; omega)
         have HK3 := Lib.hid (HK.out w3 (hG3.mono fun i _ h => Or.inl h))
         have HK4 : Hid (∀ wx, Chg (· = rb) w3 wx → wx.cell? ⟨b, 0, none⟩ = some (.int .i64 cd) ∧ wx.cell? ⟨b, 1, none⟩ = some (.int .i64 u) ∧ wx.cell? ⟨b, 2, none⟩ = some (.int .i64 q) ∧ wx.cell? ⟨b, 3, none⟩ = some (.int .i64 p) ∧ wx.cell? ⟨b, 4, none⟩ = some (.slice A n c)) := fun wx hx => HK.out wx ((hG3.mono fun i _ h => Or.inl h).trans hx (fun i _ h => Or.inr h))
         have HO3 := Lib.hid hO3
         have HN3 : Hid (New w w3) := HN1.out.trans hG3 (fun i hi h => by have := HN1.out.size; omega)
         have HR3 := Lib.hid (HR1.out.chg hG3 (fun h => by have := Hrb.out; omega))
         have r0 : w3.cell? ⟨rb, 0, none⟩ = some (.int .i64 0) := (HR3.out.cell 0).trans rfl
         have r1 : w3.cell? ⟨rb, 1, none⟩ = some (.int .i64 0) := (HR3.out.cell 1).trans rfl
         have r2 : w3.cell? ⟨rb, 2, none⟩ = some (.int .i64 0) := (HR3.out.cell 2).trans rfl
         have r3 : w3.cell? ⟨rb, 3, none⟩ = some (.int .i64 0) := (HR3.out.cell 3).trans rfl
         have r4 : w3.cell? ⟨rb, 4, none⟩ = some (.slice none 0 0) := (HR3.out.cell 4).trans rfl
         have z0 := HR3.out.free 0
         have z1 := HR3.out.free 1
         have z2 := HR3.out.free 2
         have z3 := HR3.out.free 3
         have z4 := HR3.out.free 4
         clear hO3 hC3 hf3 hG3))
  go_wp2_with fail
  obtain ⟨hX, hGX⟩ := set5 HR3.out (.int .i64 cd) (.int .i64 u) (.int .i64 q) (.int .i64 p) (.slice A3 n c3)
  generalize (((((w3.setCell ⟨rb, 0, none⟩ (.int .i64 cd)).setCell ⟨rb, 1, none⟩ (.int .i64 u)).setCell ⟨rb, 2, none⟩ (.int .i64 q)).setCell ⟨rb, 3, none⟩ (.int .i64 p)).setCell ⟨rb, 4, none⟩ (.slice A3 n c3)) = wX at hX hGX ⊢
  have g0 := (hX.cell 0).trans rfl
  have g1 := (hX.cell 1).trans rfl
  have g2 := (hX.cell 2).trans rfl
  have g3 := (hX.cell 3).trans rfl
  have g4 := (hX.cell 4).trans rfl
  refine bodyPost_ret (v := .agg #[.int .i64 cd, .int .i64 u, .int .i64 q, .int .i64 p, .slice A3 n c3]) (by simp [results, Try.results15, go_sem, g0, g1, g2, g3, g4]) rfl ?_
  have hO : w3.ownsRow w.heap.size 60 4 (.slice A3 n c3) n (enRow l) := by have h := HO3.out; simpa using h
  exact ⟨A3, c3, rfl, own_chg hO hGX (fun x hx h => own_apart hO HR3.out (by decide) (by rw [hx, h])), HN3.out.trans hGX (fun i hi h => by have := Hrb.out; omega)⟩
end Go.Proofs.Ytjkpijinpfimiaa
