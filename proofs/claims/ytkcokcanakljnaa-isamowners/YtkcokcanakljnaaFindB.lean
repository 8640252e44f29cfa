/-
  Find: the first element of a tag, in new memory.
-/
import Derived.Test.YtkcokcanakljnaaFindA
namespace Go.Proofs.Ytkcokcanakljnaa
open Go.RowKit
set_option maxRecDepth 100000 in
set_option maxHeartbeats 1000000 in
theorem index35 (f : Int → List Nat → Tr → Bool) (T : Tr) (n M : Nat) (A : Option Addr) (c : Nat) (w : World) (F : Nat → Prop) (g : Nat) (hn : T.len = n) (hM : T.size ≤ M) (hL : Lay w F A 0 T) (hF : ∀ k, F k → k < w.heap.size) (hs : n * 56 ≤ 140737488351232) (hC : Asks 81 (.pointer (some ⟨g, 0, none⟩)) F w M f) :
    Calls Try.prog 80 #[.slice A n c, .func (.func 81) #[] #[.pointer (some ⟨g, 0, none⟩)]] w fun e w' => e = .returned (.int .i64 (idx f 0 T)) ∧ New w w' := by
  have Hn := Lib.hid hn; clear hn
  have HL := Lib.hid hL; clear hL
  have HF := Lib.hid hF; clear hF
  have HC := Lib.hid hC; clear hC
  have HM := Lib.hid hM; clear hM
  go_enter Try.func80, Try.ntmps80
  go_wp2_with fail
  go_loopg [8] n (fun gk i wr => ∃ (k : Nat) (R : Tr), k + R.len = n ∧ gk = n - k ∧ i = .int .i64 k ∧ Lay w F A k R ∧ R.size ≤ M ∧ idx f k R = idx f 0 T ∧ New w wr)
  case atStart => exact ⟨0, T, by rw [Hn.out]; omega, by omega, rfl, HL.out, HM.out, rfl, Chg.refl _ _⟩
  case round =>
    obtain ⟨k, R, hk, rfl, rfl, hLR, hRs, hR, hN⟩ := hrel
    have HR := Lib.hid hR; clear hR
    cases R with
    | nil =>
      obtain rfl : k = n := by rw [← hk]; rfl
      have HN := Lib.hid hN
      clear hk hLR hRs hN
      go_wp2_with fail
      go_ret
      exact ⟨by rw [← HR.out]; rfl, HN.out⟩
    | cons t bs sub rest =>
      obtain ⟨⟨vb, B, cb, h3, hb, hnil, hsl, ht, hLs⟩, hLr⟩ := hLR
      obtain ⟨a, rfl, hab, h0, h1, h2⟩ := h3.chg hN (fun k hk => ⟨HF.out k hk, fun f => f⟩)
      simp only [Tr.len] at hk
      simp only [Tr.size] at hRs
      have hlt : k < n := by omega
      have Hk := Lib.hid hk; clear hk
      have HLr := Lib.hid hLr; clear hLr
      have HCo := Lib.hid (HC.out t bs sub vb B cb wr hN (hb.new hN HF.out) (hLs.new hN HF.out) hsl (by omega))
      have HRs := Lib.hid hRs; clear hRs
      have HN := Lib.hid hN; clear hN
      clear hab hnil hLs h3 hb hsl ht
      obtain ⟨p, hp⟩ : ∃ p, p = sub.len := ⟨_, rfl⟩
      rw [← hp] at h2 HCo
      clear hp
      go_wp2_with fail
      with_reducible refine HCo.out.mono ?_
      rintro e w' ⟨rfl, hN2⟩
      have HN2 := Lib.hid hN2; clear hN2
      cases hd : f t bs sub with
      | true =>
        go_wp2_with fail
        go_ret
        refine ⟨?_, HN.out.then_new HN2.out⟩
        rw [← HR.out, idx_cons, if_pos hd]; rfl
      | false =>
        go_wp2_with fail
        go_roundg (n - (k + 1))
        case measure => omega
        case rel => exact ⟨k + 1, rest, by have := Hk.out; omega, rfl, by go_num, HLr.out, by have := HRs.out; omega, by rw [← HR.out, idx_cons, if_neg (by rw [hd]; decide)], HN.out.then_new HN2.out⟩

/-- has the element this tag? -/
def tagIs (tag : Int) : Int → List Nat → Tr → Bool := fun t _ _ => decide (t = tag)
theorem idx_none {tag : Int} {T : Tr} : ∀ {k : Nat}, idx (tagIs tag) k T = -1 ∨ ∃ (T0 : Tr) (bs : List Nat) (s r : Tr), T = T0.app (.cons tag bs s r) ∧ idx (tagIs tag) k T = ((k + T0.len : Nat) : Int) := by
  induction T with
  | nil => intro k; exact Or.inl rfl
  | cons t b s r _ ih =>
    intro k
    rw [idx_cons]
    by_cases h : t = tag
    · subst h
      refine Or.inr ⟨.nil, b, s, r, rfl, ?_⟩
      rw [if_pos (by simp [tagIs])]; rfl
    · rw [if_neg (by simp [tagIs, h])]
      rcases ih (k := k + 1) with h1 | ⟨T0, bs, s', r', h1, h2⟩
      · exact Or.inl h1
      · refine Or.inr ⟨.cons t b s T0, bs, s', r', by rw [h1]; rfl, ?_⟩
        rw [h2]; simp only [Tr.len]; congr 1; omega
set_option maxRecDepth 100000 in
set_option maxHeartbeats 1000000 in
/-- the closure in Find: g is the box of the tag -/
theorem find1_any (t tag : Int) (vb : Value) (B : Option Addr) (p cb g : Nat) (w : World) (hg : Has w g 3 #[.int .i64 tag]) :
    Calls Try.prog 81 #[.agg #[.int .i64 t, vb, .slice B p cb], .pointer (some ⟨g, 0, none⟩)] w fun e w' => e = .returned (.bool (decide (t = tag))) ∧ New w w' := by
  have hlt := hg.lt
  have hc := hg.cell 0
  simp at hc
  clear hg
  by_cases h : t = tag
  · subst h
    go_enter Try.func81, Try.ntmps81
    go_wp2_with fail
    go_ret
    exact ⟨by simp, (Chg.refl _ _).alloc _⟩
  · have hb : (t == tag) = false := by simpa using h
    have H := Lib.hid h; clear h
    go_enter Try.func81, Try.ntmps81
    go_wp2_with fail
    go_ret
    exact ⟨by simp [H.out], (Chg.refl _ _).alloc _⟩
/-- what Find answers -/
def FindR (w : World) (T : Tr) (tag : Int) (e : Ending) (w' : World) : Prop :=
  (idx (tagIs tag) 0 T = -1 ∧ e = .returned (.tuple #[.agg #[.int .i64 0, .slice none 0 0, .slice none 0 0], .bool false])) ∨
  (∃ (T0 : Tr) (bs : List Nat) (s r : Tr), T = T0.app (.cons tag bs s r) ∧ idx (tagIs tag) 0 T = (T0.len : Int) ∧ ∃ A1 c1 A2 c2, e = .returned (.tuple #[.agg #[.int .i64 tag, .slice A1 bs.length c1, .slice A2 s.len c2], .bool true]) ∧
    OwnR w' (Btw w w') 5 1 (.slice A1 bs.length c1) bs.length (bs.map bV) ∧ OwnE w' (Btw w w') (.slice A2 s.len c2) s)
theorem Lay.from {w : World} {F : Nat → Prop} {T U : Tr} : ∀ {A : Option Addr} {i : Nat}, Lay w F A i (T.app U) → Lay w F A (i + T.len) U := by
  induction T with
  | nil => intro A i h; exact h
  | cons t b s r _ ih =>
    intro A i h
    have := ih h.2
    rw [show i + 1 + r.len = i + (Tr.cons t b s r).len by simp only [Tr.len]; omega] at this
    exact this
set_option maxRecDepth 100000 in
set_option maxHeartbeats 4000000 in
theorem Find_any (T : Tr) (tag : Int) (n : Nat) (A : Option Addr) (c : Nat) (w : World) (F : Nat → Prop) (hn : T.len = n) (hL : Lay w F A 0 T) (hF : ∀ k, F k → k < w.heap.size) (hs : n * 56 ≤ 140737488351232) :
    Calls Try.prog 45 #[.int .i64 tag, .slice A n c] w fun e w' => FindR w T tag e w' ∧ New w w' := by
  have Hn := Lib.hid hn; clear hn
  have HL := Lib.hid hL; clear hL
  have HF := Lib.hid hF; clear hF
  go_enter Try.func45, Try.ntmps45
  go_wp2_with fail
  have hN0 : New w ((w.alloc (.cells #[.int .i64 tag] 3)).alloc (.cells #[.int .i64 0, .slice none 0 0, .slice none 0 0] 95)) := ((Chg.refl _ _).alloc _).alloc _
  with_reducible refine (index35 (tagIs tag) T n T.size A c _ F _ Hn.out (Nat.le_refl _) (HL.out.new hN0 HF.out) (fun k hk => Nat.lt_of_lt_of_le (HF.out k hk) hN0.size) hs ?_).mono ?_
  · intro t bs sub vb B cb w1 hw1 hb hLs hsl hsz
    exact find1_any t tag vb B sub.len cb w.heap.size w1 (((Has.new w 3 #[.int .i64 tag]).alloc _).keep hw1)
  · rintro e w2 ⟨rfl, hN⟩
    have hg2 : Has w2 (w.heap.size + 1) 95 #[.int .i64 0, .slice none 0 0, .slice none 0 0] := (Has.new_at _ _ _ _ (by simp)).keep hN
    have hs2 := hN.size
    simp at hs2
    have HN := Lib.hid (hN0.then_new hN); clear hN hN0
    rcases idx_none (tag := tag) (T := T) (k := 0) with hi | ⟨T0, bs, s, r, hT, hi⟩
    · have hf0 := hg2.free 0
      have hf1 := hg2.free 1
      have hf2 := hg2.free 2
      have hy0 := hg2.cell 0
      have hy1 := hg2.cell 1
      have hy2 := hg2.cell 2
      simp at hy0 hy1 hy2
      have Hg2 := Lib.hid hg2; clear hg2
      have Hi := Lib.hid hi
      rw [hi]
      clear hi
      go_wp2_with fail
      have hx := set3 (.int .i64 0) (.slice none 0 0) (.slice none 0 0) Hg2.out
      revert hx
      generalize ((World.setCell w2 ⟨w.heap.size + 1, 0, none⟩ (.int .i64 0)).setCell ⟨w.heap.size + 1, 1, none⟩ (.slice none 0 0)).setCell ⟨w.heap.size + 1, 2, none⟩ (.slice none 0 0) = w5
      rintro ⟨hG, hC5⟩
      have e0 := hG.cell 0
      have e1 := hG.cell 1
      have e2 := hG.cell 2
      simp at e0 e1 e2
      (try simp only [Exit.inBlock, Exit.then])
      refine bodyPost_ret (v := .tuple #[.agg #[.int .i64 0, .slice none 0 0, .slice none 0 0], .bool false]) (by simp [results, Try.results45, go_sem, e0, e1, e2]) rfl ?_
      exact ⟨Or.inl ⟨Hi.out, rfl⟩, HN.out.trans hC5 (fun i hi he => by omega)⟩
    · rw [Nat.zero_add] at hi
      obtain ⟨k, hk⟩ : ∃ k, k = T0.len := ⟨_, rfl⟩
      have hkn : k < n := by have := Hn.out; rw [hT, Tr.len_app] at this; simp only [Tr.len] at this; omega
      have hLT := HL.out.new HN.out HF.out
      rw [hT] at hLT
      have hLk := hLT.from
      rw [Nat.zero_add, ← hk] at hLk
      obtain ⟨⟨vb, B2, cb2, h3, hb, hnil, hsl, ht, hLs⟩, _⟩ := hLk
      obtain ⟨Ab2, bl2, cc2, rfl⟩ : ∃ Ab bl cc, vb = .slice Ab bl cc := by obtain ⟨Ab, cc, h, _⟩ := hb; exact ⟨_, _, _, h⟩
      obtain ⟨a, rfl, hab, h0, h1, h2⟩ := h3
      have HCE := Lib.hid (copiedElem_any (s.size + 1) s (Nat.lt_succ_self _) tag bs s.len bl2 Ab2 B2 cc2 cb2 w2 F rfl hb hLs (fun k hk => Nat.lt_of_lt_of_le (HF.out k hk) HN.out.size) hsl)
      obtain ⟨p2, hp2⟩ : ∃ p2, p2 = s.len := ⟨_, rfl⟩
      rw [← hp2] at h2 HCE
      rw [hi, ← hk]
      have Hi := Lib.hid hi
      have HT := Lib.hid hT
      have Hk := Lib.hid hk
      have Hg2 := Lib.hid hg2
      clear hi hT hk hg2 hp2 hb hnil hsl ht hLs hLT hab
      go_wp2_with fail
      with_reducible refine HCE.out.mono ?_
      rintro e w3 ⟨hE3, hN3⟩
      obtain ⟨A1, c1, A2, c2, rfl, hO1, hO2⟩ := hE3
      have hg3 := Hg2.out.keep hN3
      have hf0 := hg3.free 0
      have hf1 := hg3.free 1
      have hf2 := hg3.free 2
      have hy0 := hg3.cell 0
      have hy1 := hg3.cell 1
      have hy2 := hg3.cell 2
      simp at hy0 hy1 hy2
      have Hg3 := Lib.hid hg3
      have HO1 := Lib.hid hO1
      have HO2 := Lib.hid hO2
      have HN3 := Lib.hid hN3
      clear hg3 hO1 hO2 hN3
      go_wp2_with fail
      have hx := set3 (.int .i64 tag) (.slice A1 bs.length c1) (.slice A2 s.len c2) Hg3.out
      revert hx
      generalize ((World.setCell w3 ⟨w.heap.size + 1, 0, none⟩ (.int .i64 tag)).setCell ⟨w.heap.size + 1, 1, none⟩ (.slice A1 bs.length c1)).setCell ⟨w.heap.size + 1, 2, none⟩ (.slice A2 s.len c2) = w5
      rintro ⟨hG, hC5⟩
      have e0 := hG.cell 0
      have e1 := hG.cell 1
      have e2 := hG.cell 2
      simp at e0 e1 e2
      (try simp only [Exit.inBlock, Exit.then])
      refine bodyPost_ret (v := .tuple #[.agg #[.int .i64 tag, .slice A1 bs.length c1, .slice A2 s.len c2], .bool true]) (by simp [results, Try.results45, go_sem, e0, e1, e2]) rfl ?_
      have hsz2 := HN.out.size
      have hsz5 := hC5.size
      refine ⟨Or.inr ⟨T0, bs, s, r, HT.out, Hi.out, A1, c1, A2, c2, rfl, ?_, ?_⟩, (HN.out.then_new HN3.out).trans hC5 (fun i hi he => by omega)⟩
      · exact ⟨own_chg HO1.out.1 hC5 (fun j hj he => by have := (HO1.out.2 j hj).1; omega), fun j hj => btw_grow hsz2 hsz5 j (HO1.out.2 j hj)⟩
      · exact (HO2.out.chg hC5 (fun j hj he => by have := hj.1; omega)).mono (btw_grow hsz2 hsz5)
end Go.Proofs.Ytkcokcanakljnaa
