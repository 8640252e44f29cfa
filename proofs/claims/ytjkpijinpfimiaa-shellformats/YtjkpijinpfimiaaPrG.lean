/-
  What the program's At, Free and rightEntries do.
-/
import Derived.Test.YtjkpijinpfimiaaPrF
namespace Go.Proofs.Ytjkpijinpfimiaa
open Go.RowKit
theorem Try.elems28 : Try.prog.elem 28 = 60 := by kernel_rfl
theorem Try.sizeE (w : World) : (sizeOf 60).run Try.prog w = .ok 4 w := by
  obtain ⟨i, hi, hs⟩ := Option.map_eq_some_iff.1 (show (Try.prog.info? 60).map (·.size) = some 4 by kernel_rfl)
  simp [sizeOf, typeInfo, hi, hs]
theorem sliceE_to (a : Addr) (n c h : Nat) (h2 : h ≤ c) (w : World) : (Instr.slice 28 (.slice (some a) n c) none (some (.int .i64 (h : Int))) none).run Try.prog w = .ok (.slice (some a) h c) w := by
  rw [run_slice_h w 28 (some a) n c (by rw [Try.elems28]; exact Try.underlying28) .i64 _ (by omega) (by omega), Try.elems28, Try.sizeE, Result.andThen_ok]
  unfold sliced
  rw [Int.toNat_natCast, Option.map_some, Nat.zero_mul, add_zero, Nat.sub_zero, Nat.sub_zero]
  split <;> rfl
theorem sliceE_from (a : Addr) (n c l : Nat) (h1 : l ≤ n) (h3 : l < c) (w : World) : (Instr.slice 28 (.slice (some a) n c) (some (.int .i64 (l : Int))) none none).run Try.prog w = .ok (.slice (some (a.add (l * 4))) (n - l) (c - l)) w := by
  rw [run_slice_l w 28 (some a) n c (by rw [Try.elems28]; exact Try.underlying28) .i64 _ (by omega) (by omega), Try.elems28, Try.sizeE, Result.andThen_ok]
  unfold sliced
  rw [Int.toNat_natCast, if_neg (by omega), Option.map_some]
set_option maxRecDepth 100000 in
set_option maxHeartbeats 1000000 in
theorem At1_any (k o i s x y : Int) (p q : Nat) (w : World) (hp : Has w p 3 #[.int .i64 x]) (hq : Has w q 3 #[.int .i64 y]) :
    Calls Try.prog 44 #[.agg #[.int .i64 k, .int .i64 o, .int .i64 i, .int .i64 s], .pointer (some ⟨p, 0, none⟩), .pointer (some ⟨q, 0, none⟩)] w fun e w' => e = .returned (.bool (decide (o = x ∧ i = y))) ∧ New w w' := by
  have p1 := hp.lt
  have q1 := hq.lt
  have p2 := hp.cell 0
  have q2 := hq.cell 0
  simp at p2 q2
  clear hp hq
  by_cases h1 : o = x
  · have t1 : (o == x) = true := by simpa using h1
    by_cases h2 : i = y
    · have t2 : (i == y) = true := by simpa using h2
      have Hd := Lib.hid (decide_eq_true (And.intro h1 h2))
      clear h1 h2
      go_enter Try.func44, Try.ntmps44
      go_wp2_with fail
      go_ret
      rw [Hd.out]
      exact ⟨rfl, (Chg.refl _ _).alloc _⟩
    · have t2 : (i == y) = false := by simpa using h2
      have Hd : Hid (decide (o = x ∧ i = y) = false) := decide_eq_false fun h => h2 h.2
      clear h1 h2
      go_enter Try.func44, Try.ntmps44
      go_wp2_with fail
      go_ret
      rw [Hd.out]
      exact ⟨rfl, (Chg.refl _ _).alloc _⟩
  · have t1 : (o == x) = false := by simpa using h1
    have Hd : Hid (decide (o = x ∧ i = y) = false) := decide_eq_false fun h => h1 h.1
    clear h1
    go_enter Try.func44, Try.ntmps44
    go_wp2_with fail
    go_ret
    rw [Hd.out]
    exact ⟨rfl, (Chg.refl _ _).alloc _⟩
set_option maxRecDepth 100000 in
set_option maxHeartbeats 1000000 in
theorem Free1_any (k o i s x : Int) (p : Nat) (w : World) (hp : Has w p 3 #[.int .i64 x]) :
    Calls Try.prog 46 #[.agg #[.int .i64 k, .int .i64 o, .int .i64 i, .int .i64 s], .pointer (some ⟨p, 0, none⟩)] w fun e w' => e = .returned (.bool (decide (s = x))) ∧ New w w' := by
  have p1 := hp.lt
  have p2 := hp.cell 0
  simp at p2
  clear hp
  by_cases h1 : s = x
  · have t1 : (s == x) = true := by simpa using h1
    have Hd := Lib.hid (decide_eq_true h1)
    clear h1
    go_enter Try.func46, Try.ntmps46
    go_wp2_with fail
    go_ret
    rw [Hd.out]
    exact ⟨rfl, (Chg.refl _ _).alloc _⟩
  · have t1 : (s == x) = false := by simpa using h1
    have Hd := Lib.hid (decide_eq_false h1)
    clear h1
    go_enter Try.func46, Try.ntmps46
    go_wp2_with fail
    go_ret
    rw [Hd.out]
    exact ⟨rfl, (Chg.refl _ _).alloc _⟩
set_option maxRecDepth 100000 in
set_option maxHeartbeats 1000000 in
theorem Ent1_any (k o i s K O I S : Int) (p : Nat) (w : World) (hp : Has w p 60 #[.int .i64 K, .int .i64 O, .int .i64 I, .int .i64 S]) :
    Calls Try.prog 78 #[.agg #[.int .i64 k, .int .i64 o, .int .i64 i, .int .i64 s], .pointer (some ⟨p, 0, none⟩)] w fun e w' => e = .returned (.bool (decide (s = S ∨ (o = O ∧ i = I)))) ∧ New w w' := by
  have p1 := hp.lt
  have p2 := hp.cell 1
  have p3 := hp.cell 2
  have p4 := hp.cell 3
  simp at p2 p3 p4
  clear hp
  by_cases h0 : s = S
  · have t0 : (s == S) = true := by simpa using h0
    have Hd : Hid (decide (s = S ∨ (o = O ∧ i = I)) = true) := decide_eq_true (Or.inl h0)
    clear h0
    go_enter Try.func78, Try.ntmps78
    go_wp2_with fail
    go_ret
    rw [Hd.out]
    exact ⟨rfl, (Chg.refl _ _).alloc _⟩
  · have t0 : (s == S) = false := by simpa using h0
    by_cases h1 : o = O
    · have t1 : (o == O) = true := by simpa using h1
      by_cases h2 : i = I
      · have t2 : (i == I) = true := by simpa using h2
        have Hd : Hid (decide (s = S ∨ (o = O ∧ i = I)) = true) := decide_eq_true (Or.inr ⟨h1, h2⟩)
        clear h0 h1 h2
        go_enter Try.func78, Try.ntmps78
        go_wp2_with fail
        go_ret
        rw [Hd.out]
        exact ⟨rfl, (Chg.refl _ _).alloc _⟩
      · have t2 : (i == I) = false := by simpa using h2
        have Hd : Hid (decide (s = S ∨ (o = O ∧ i = I)) = false) := decide_eq_false (by rintro (h | h); exact h0 h; exact h2 h.2)
        clear h0 h1 h2
        go_enter Try.func78, Try.ntmps78
        go_wp2_with fail
        go_ret
        rw [Hd.out]
        exact ⟨rfl, (Chg.refl _ _).alloc _⟩
    · have t1 : (o == O) = false := by simpa using h1
      have Hd : Hid (decide (s = S ∨ (o = O ∧ i = I)) = false) := decide_eq_false (by rintro (h | h); exact h0 h; exact h1 h.1)
      clear h0 h1
      go_enter Try.func78, Try.ntmps78
      go_wp2_with fail
      go_ret
      rw [Hd.out]
      exact ⟨rfl, (Chg.refl _ _).alloc _⟩
set_option maxRecDepth 100000 in
set_option maxHeartbeats 1000000 in
/-- the place of a product, by the program -/
theorem pAt_any (c u q p o i : Int) (A : Option Addr) (n cc : Nat) (F : Nat → Prop) (l : List En) (w : World) (hE : Ents w F A l) (hF : ∀ k, F k → k < w.heap.size) (hl : l.length = n) (hn : n ≤ 1000) :
    Calls Try.prog 16 #[.agg #[.int .i64 c, .int .i64 u, .int .i64 q, .int .i64 p, .slice A n cc], .int .i64 o, .int .i64 i] w fun e w' => e = .returned (.int .i64 (atI o i l)) ∧ New w w' := by
  have H : Hid (∀ (wx : World) (a b : Nat), New w wx → Has wx a 3 #[.int .i64 o] → Has wx b 3 #[.int .i64 i] → Calls Try.prog 43 #[.slice A n cc, .func (.func 44) #[] #[.pointer (some ⟨a, 0, none⟩), .pointer (some ⟨b, 0, none⟩)]] wx fun e w' => e = .returned (.int .i64 (atI o i l)) ∧ New w w') := by
    intro wx a b hN ha hb
    refine (indexAt (fun e => decide (e.o = o ∧ e.i = i)) l n A cc wx F a b hl (hE.new hN hF) (fun k hk => Nat.lt_of_lt_of_le (hF k hk) hN.size) hn ?_).mono ?_
    · intro e w1 hw1
      exact At1_any e.k e.o e.i e.s o i a b w1 (ha.keep hw1) (hb.keep hw1)
    · rintro e w' ⟨rfl, hN'⟩
      rw [idxE_at0]
      exact ⟨rfl, hN.then_new hN'⟩
  clear hE hF hl hn
  go_enter Try.func16, Try.ntmps16
  go_wp2_with fail
  with_reducible refine (H.out _ _ _ (((Chg.refl _ _).alloc _).alloc _ |>.alloc _) (Has.alloc (Has.new_at _ 3 _ _ (by simp)) _) (Has.new_at _ 3 _ _ (by simp))).mono ?_
  rintro e w1 ⟨rfl, hN⟩
  have HN := Lib.hid hN; clear hN
  go_wp2_with fail
  go_ret
  exact ⟨rfl, HN.out⟩
theorem freeP_any (l : List En) (s : Nat) : l.any (fun e => decide (e.s = (s : Int))) = !freeB l s := by
  unfold freeB
  induction l with
  | nil => rfl
  | cons e l ih => rw [List.any_cons, List.all_cons, ih]; by_cases h : e.s = (s : Int) <;> simp [h]
set_option maxRecDepth 100000 in
set_option maxHeartbeats 2000000 in
/-- the least free slot, by the program -/
theorem pFree_any (c u q p : Int) (A : Option Addr) (n cc : Nat) (F : Nat → Prop) (l : List En) (w : World) (hE : Ents w F A l) (hF : ∀ k, F k → k < w.heap.size) (hl : l.length = n) (hn : n ≤ 1000) :
    Calls Try.prog 18 #[.agg #[.int .i64 c, .int .i64 u, .int .i64 q, .int .i64 p, .slice A n cc]] w fun e w' => e = .returned (.int .i64 (freeI l)) ∧ New w w' := by
  have H : Hid (∀ (wx : World) (a s : Nat), New w wx → Has wx a 3 #[.int .i64 (s : Int)] → Calls Try.prog 45 #[.slice A n cc, .func (.func 46) #[] #[.pointer (some ⟨a, 0, none⟩)]] wx fun e w' => e = .returned (.bool (!freeB l s)) ∧ New wx w') := by
    intro wx a s hN ha
    refine (containsFree (fun e => decide (e.s = (s : Int))) l n A cc wx F a hl (hE.new hN hF) (fun k hk => Nat.lt_of_lt_of_le (hF k hk) hN.size) hn ?_).mono ?_
    · intro e w1 hw1
      exact Free1_any e.k e.o e.i e.s s a w1 (ha.keep hw1)
    · rintro e w' ⟨rfl, hN'⟩
      rw [freeP_any]
      exact ⟨rfl, hN'⟩
  clear hE hF hl hn
  go_enter Try.func18, Try.ntmps18
  go_wp2_with fail
  obtain ⟨w1, hw1⟩ : ∃ w1, w1 = w.alloc (.cells #[.int .i64 c, .int .i64 u, .int .i64 q, .int .i64 p, .slice A n cc] 30) := ⟨_, rfl⟩
  obtain ⟨vb, hvb⟩ : ∃ b, b = w.heap.size := ⟨_, rfl⟩
  have HB : Hid (Has w1 vb 30 #[.int .i64 c, .int .i64 u, .int .i64 q, .int .i64 p, .slice A n cc]) := by rw [hw1, hvb]; exact Has.new w 30 _
  have HN1 : Hid (New w w1) := by rw [hw1]; exact (Chg.refl _ _).alloc _
  rw [← hw1, ← hvb]
  clear hw1 hvb
  go_loopg [5] 6 (fun gk x wr => ∃ s : Nat, s ≤ 6 ∧ gk = 6 - s ∧ x = .int .i64 s ∧ freeI l = freeFrom l s (6 - s) ∧ New w1 wr)
  case atStart => exact ⟨0, by omega, by omega, rfl, rfl, Chg.refl _ _⟩
  case round =>
    obtain ⟨s, hs, rfl, rfl, hfr, hN⟩ := hrel
    have Hfr := Lib.hid hfr; clear hfr
    by_cases hlt : s < 6
    · have ts : decide ((s : Int) < 6) = true := by simp only [decide_eq_true_eq]; omega
      have HBr := Lib.hid (HB.out.keep hN)
      have hv4 := HBr.out.cell 4
      simp at hv4
      have hvl := HBr.out.lt
      have HN := Lib.hid hN; clear hN
      have HS : Hid (freeFrom l s (6 - s) = if freeB l s then (s : Int) else freeFrom l (s + 1) (6 - (s + 1))) := by
        show _ = _
        rw [show 6 - s = 6 - (s + 1) + 1 by omega]
        rfl
      obtain ⟨b, hb⟩ : ∃ b, b = freeB l s := ⟨_, rfl⟩
      obtain ⟨sb, hsb⟩ : ∃ b, b = wr.heap.size := ⟨_, rfl⟩
      go_wp2_with fail
      obtain ⟨w2, hw2⟩ : ∃ w2, w2 = wr.alloc (.cells #[.int .i64 (s : Int)] 3) := ⟨_, rfl⟩
      have HH2 : Hid (Has w2 sb 3 #[.int .i64 (s : Int)]) := by rw [hw2, hsb]; exact Has.new wr 3 _
      have HN2 : Hid (New w w2) := by rw [hw2]; exact (HN1.out.then_new HN.out).alloc _
      have HN2r : Hid (New w1 w2) := by rw [hw2]; exact HN.out.alloc _
      rw [← hw2, ← hsb]
      clear hw2 hsb
      with_reducible refine (H.out w2 sb s HN2.out HH2.out).mono ?_
      rintro e w3 ⟨rfl, hN3⟩
      have HH3 := Lib.hid (HH2.out.keep hN3)
      have hc3 := HH3.out.cell 0
      simp at hc3
      have HN3 := Lib.hid (HN2r.out.then_new hN3); clear hN3
      rw [← hb] at HS ⊢
      clear hb
      cases b with
      | true =>
        simp only [Bool.not_true]
        go_wp2_with fail
        go_ret
        rw [Hfr.out, HS.out]
        exact ⟨rfl, HN1.out.then_new HN3.out⟩
      | false =>
        simp only [Bool.not_false]
        go_wp2_with fail
        go_roundg (6 - (s + 1))
        case measure => omega
        case rel => exact ⟨s + 1, by omega, rfl, by go_num, by rw [Hfr.out, HS.out]; rfl, HN3.out⟩
    · obtain rfl : s = 6 := by omega
      have HN := Lib.hid hN; clear hN
      go_wp2_with fail
      go_ret
      rw [Hfr.out]
      exact ⟨rfl, HN1.out.then_new HN.out⟩
theorem soundP_step {l : List En} {k : Nat} {e : En} (he : l[k]? = some e) : Sound (l.take (k + 1)) ↔ Sound (l.take k) ∧ e.good ∧ (l.take k).any (fun x => decide (x.s = e.s ∨ (x.o = e.o ∧ x.i = e.i))) = false := by
  rw [List.take_add_one, he, Option.toList_some]
  unfold Sound
  rw [List.pairwise_append]
  constructor
  · rintro ⟨h1, h2, _, h3⟩
    refine ⟨⟨fun x hx => h1 x (by simp [hx]), h2⟩, h1 e (by simp), ?_⟩
    rw [List.any_eq_false]
    intro x hx
    have := h3 x hx e (by simp)
    unfold clash at this
    simp only [decide_eq_true_eq]
    rintro (h | ⟨h, h'⟩)
    · exact this (Or.inl h.symm)
    · exact this (Or.inr ⟨h.symm, h'.symm⟩)
  · rintro ⟨⟨h1, h2⟩, h3, h4⟩
    refine ⟨fun x hx => ?_, h2, by simp, ?_⟩
    · rcases List.mem_append.1 hx with hx | hx
      · exact h1 x hx
      · rw [List.mem_singleton.1 hx]; exact h3
    · intro x hx y hy
      rw [List.mem_singleton.1 hy]
      rw [List.any_eq_false] at h4
      have := h4 x hx
      simp only [decide_eq_true_eq] at this
      unfold clash
      rintro (h | ⟨h, h'⟩)
      · exact this (Or.inl h.symm)
      · exact this (Or.inr ⟨h.symm, h'.symm⟩)
theorem soundP_take {l : List En} (k : Nat) (h : Sound l) : Sound (l.take k) := ⟨fun x hx => h.1 x (List.mem_of_mem_take hx), h.2.sublist (List.take_sublist _ _)⟩
theorem Ents.takeP {w : World} {F : Nat → Prop} {A : Option Addr} {l : List En} (h : Ents w F A l) (k : Nat) : Ents w F A (l.take k) := by
  intro j e he
  rw [List.getElem?_take] at he
  split at he
  · exact h j e he
  · cases he
set_option maxRecDepth 100000 in
set_option maxHeartbeats 2000000 in
theorem rightEntries_any (A : Option Addr) (n c : Nat) (F : Nat → Prop) (l : List En) (w : World) (hE : Ents w F A l) (hF : ∀ k, F k → k < w.heap.size) (hl : l.length = n) (hn : n ≤ 1000) (hnc : n ≤ c) :
    Calls Try.prog 67 #[.slice A n c] w fun e w' => e = .returned (.bool (decide (Sound l))) ∧ New w w' := by
  have H : Hid (∀ (wx : World) (a k : Nat) (K O I S : Int), New w wx → k ≤ n → Has wx a 60 #[.int .i64 K, .int .i64 O, .int .i64 I, .int .i64 S] → Calls Try.prog 45 #[.slice A k c, .func (.func 78) #[] #[.pointer (some ⟨a, 0, none⟩)]] wx fun e w' => e = .returned (.bool ((l.take k).any (fun x => decide (x.s = S ∨ (x.o = O ∧ x.i = I))))) ∧ New wx w') := by
    intro wx a k K O I S hN hk ha
    refine (containsEnt (fun x => decide (x.s = S ∨ (x.o = O ∧ x.i = I))) (l.take k) k A c wx F a (by rw [List.length_take]; omega) ((hE.takeP k).new hN hF) (fun k hk => Nat.lt_of_lt_of_le (hF k hk) hN.size) (by omega) ?_)
    intro e w1 hw1
    exact Ent1_any e.k e.o e.i e.s K O I S a w1 (ha.keep hw1)
  have HE := Lib.hid hE; clear hE
  have HF := Lib.hid hF; clear hF
  have Hl := Lib.hid hl; clear hl
  have Hnc := Lib.hid hnc; clear hnc
  go_enter Try.func67, Try.ntmps67
  go_wp2_with fail
  go_loopg [8] n (fun gk x wr => ∃ k : Nat, k ≤ n ∧ gk = n - k ∧ x = .int .i64 k ∧ Sound (l.take k) ∧ New w wr)
  case atStart => exact ⟨0, by omega, by omega, rfl, by simp [Sound], Chg.refl _ _⟩
  case round =>
    obtain ⟨k, hk, rfl, rfl, hS, hN⟩ := hrel
    have HS := Lib.hid hS; clear hS
    by_cases hlt : k < n
    · obtain ⟨e, he⟩ : ∃ e, l[k]? = some e := ⟨_, List.getElem?_eq_getElem (by rw [Hl.out]; exact hlt)⟩
      have HST := Lib.hid (soundP_step he)
      obtain ⟨a, rfl, hab, h0, h1, h2, h3⟩ := (HE.out.new hN HF.out) k e he
      have hsl : ∀ wy, (Instr.slice 28 (.slice (some a) n c) none (some (.int .i64 (k : Int))) none).run Try.prog wy = .ok (.slice (some a) k c) wy := fun wy => sliceE_to a n c k (Nat.le_trans hk Hnc.out) wy
      cases e with
      | mk ek eo ei es =>
      simp only at h0 h1 h2 h3 HST
      have HN := Lib.hid hN
      clear hN he hab
      obtain ⟨v, hv⟩ : ∃ v, v = decide (En.mk ek eo ei es).valid := ⟨_, rfl⟩
      obtain ⟨s, hs⟩ : ∃ s, s = decide (0 ≤ es ∧ es ≤ 5) := ⟨_, rfl⟩
      obtain ⟨y, hy⟩ : ∃ y, y = (l.take k).any (fun x => decide (x.s = es ∨ (x.o = eo ∧ x.i = ei))) := ⟨_, rfl⟩
      have Hv := Lib.hid hv; clear hv
      have Hs := Lib.hid hs; clear hs
      have Hy := Lib.hid hy; clear hy
      have HSn : Hid (v = true → s = true → y = false → Sound (l.take (k + 1))) := by
        intro a1 a2 a3
        rw [HST.out]
        rw [Hv.out, decide_eq_true_eq] at a1
        rw [Hs.out, decide_eq_true_eq] at a2
        exact ⟨HS.out, ⟨a1, a2⟩, by rw [← Hy.out]; exact a3⟩
      have HSf : Hid (v = false ∨ s = false ∨ y = true → decide (Sound l) = false) := by
        intro h
        rw [decide_eq_false_iff_not]
        intro hS
        have := HST.out.1 (soundP_take (k + 1) hS)
        obtain ⟨_, ⟨g1, g2⟩, g3⟩ := this
        rcases h with h | h | h
        · rw [Hv.out, decide_eq_false_iff_not] at h; exact h g1
        · rw [Hs.out, decide_eq_false_iff_not] at h; exact h g2
        · rw [Hy.out] at h; rw [g3] at h; cases h
      obtain ⟨eb, heb⟩ : ∃ b, b = wr.heap.size := ⟨_, rfl⟩
      go_upto_region 4 with (fail)
      obtain ⟨w2, hw2⟩ : ∃ w2, w2 = wr.alloc (.cells #[.int .i64 ek, .int .i64 eo, .int .i64 ei, .int .i64 es] 60) := ⟨_, rfl⟩
      have HH2 : Hid (Has w2 eb 60 #[.int .i64 ek, .int .i64 eo, .int .i64 ei, .int .i64 es]) := by rw [hw2, heb]; exact Has.new wr 60 _
      have HN2 : Hid (New w w2) := by rw [hw2]; exact HN.out.alloc _
      have q0 := HH2.out.cell 0
      have q1 := HH2.out.cell 1
      have q2 := HH2.out.cell 2
      have q3 := HH2.out.cell 3
      simp at q0 q1 q2 q3
      have ql := HH2.out.lt
      rw [← hw2, ← heb]
      clear hw2 heb h0 h1 h2 h3
      go_wp2_with fail
      with_reducible refine (rightProduct_any ek eo ei es w2).mono ?_
      rintro x w3 ⟨rfl, hN3⟩
      rw [← Hv.out]
      have HH3 := Lib.hid (HH2.out.keep hN3)
      have HN3 := Lib.hid (HN2.out.then_new hN3); clear hN3
      have r3 := HH3.out.cell 3
      simp at r3
      cases v with
      | false =>
        go_wp2_with fail
        go_ret
        rw [HSf.out (by simp)]
        exact ⟨rfl, HN3.out⟩
      | true =>
      go_wp2_with fail
      with_reducible refine (rightSlot_any es w3).mono ?_
      rintro x w4 ⟨rfl, hw4⟩
      obtain rfl : w3 = w4 := hw4.symm
      clear hw4
      rw [← Hs.out]
      cases s with
      | false =>
        go_wp2_with fail
        go_ret
        rw [HSf.out (by simp)]
        exact ⟨rfl, HN3.out⟩
      | true =>
      go_wp2_with fail
      with_reducible refine (H.out w3 eb k ek eo ei es HN3.out hk HH3.out).mono ?_
      rintro x w4 ⟨rfl, hN4⟩
      rw [← Hy.out]
      have HN4 := Lib.hid (HN3.out.then_new hN4); clear hN4
      cases y with
      | true =>
        go_wp2_with fail
        go_ret
        rw [HSf.out (by simp)]
        exact ⟨rfl, HN4.out⟩
      | false =>
        go_wp2_with fail
        go_roundg (n - (k + 1))
        case measure => omega
        case rel => exact ⟨k + 1, by omega, rfl, by go_num, HSn.out (by trivial) (by trivial) (by trivial), HN4.out⟩
    · obtain rfl : k = n := by omega
      have HN := Lib.hid hN; clear hN
      have Hd : Hid (decide (Sound l) = true) := by
        have h := HS.out
        rw [List.take_of_length_le (by rw [Hl.out]; omega)] at h
        exact decide_eq_true h
      go_wp2_with fail
      go_ret
      rw [Hd.out]
      exact ⟨rfl, HN.out⟩
end Go.Proofs.Ytjkpijinpfimiaa
