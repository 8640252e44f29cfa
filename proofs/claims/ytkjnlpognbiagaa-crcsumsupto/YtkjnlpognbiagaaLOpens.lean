/-
  What the law CrcOpens does: it returns true and turns nothing that was there.
-/
import Derived.Test.YtkjnlpognbiagaaLBursts
namespace Go.Proofs.Ytkjnlpognbiagaa
open Go.RowKit
theorem own_made (w : World) (base : Nat) (hb : base ≤ w.heap.size) : (w.alloc (.cells #[] 5)).ownsRow base 5 1 (.slice (some ⟨w.heap.size, 0, none⟩) 0 0) 0 [] :=
  World.ownsRow_made (base := base) (e := 5) (size := 1) w #[] 0 hb (by decide) rfl
/-- 'append([]byte{}, b...)': new memory with the bytes of b -/
theorem wp_copy {w1 : World} {o : Oper} {a : Act} {K : Act → World → Prop} {Q : Exit → Act → World → Prop} (s x : Operand)
    (ho : o.op = .call { callee := .builtin .append, args := #[s, x], argTypes := #[22, 22] }) (hs : a.eval s = .slice (some ⟨w1.heap.size, 0, none⟩) 0 0)
    (A : Option Addr) (n c : Nat) (bs : List Nat) (F : Nat → Prop) (hx : a.eval x = .slice A n c) (hA : Arr w1 F A n (fun i => bV (bs.getD i 0))) (hF : ∀ k, F k → k < w1.heap.size) (hl : bs.length = n) (hnil : A = none → n = 0 ∧ c = 0) (hn : n ≤ 140737488355328)
    (h : ∀ A' c' w', w'.ownsRow w1.heap.size 5 1 (.slice A' n c') n (bs.map bV) → New w1 w' → K (a.put o.dst (.slice A' n c')) w') : o.wp Try.prog a (w1.alloc (.cells #[] 5)) K Q := by
  obtain ⟨i0, hi, hz0, hz1, hz2⟩ := info_parts Try.info5
  have ho1 := own_made w1 w1.heap.size (Nat.le_refl _)
  refine wp_append_src s x 22 ho w1.heap.size 5 i0 (.int .u8 0) 1 1 Try.underlying22 hi hz0 hz1 hz2 rfl (by decide) _ 0 [] hs ho1 A n c (bs.map bV) hx hnil (by rw [List.length_map, Nat.mul_one, hl]) (map_news (hA.new ((Chg.refl _ _).alloc _) hF) hl) (bV_one bs) (by simp only [maxLen]; omega) (by omega) (by simp) ?_
  intro A' c' w' hO hC _
  rw [Nat.zero_add] at hO ⊢
  exact h A' c' w' hO (((Chg.refl _ _).alloc _).trans hC (fun i hi hk => by have := (ho1.lt i hk).1; omega))
theorem wpList_copy {w1 : World} {ops : Array Oper} {rest : List Oper} {o : Oper} {a : Act} {Q : Exit → Act → World → Prop} (hgd : o.guard = none) (s x : Operand)
    (ho : o.op = .call { callee := .builtin .append, args := #[s, x], argTypes := #[22, 22] }) (hs : a.eval s = .slice (some ⟨w1.heap.size, 0, none⟩) 0 0)
    (A : Option Addr) (n c : Nat) (bs : List Nat) (F : Nat → Prop) (hx : a.eval x = .slice A n c) (hA : Arr w1 F A n (fun i => bV (bs.getD i 0))) (hF : ∀ k, F k → k < w1.heap.size) (hl : bs.length = n) (hnil : A = none → n = 0 ∧ c = 0) (hn : n ≤ 140737488355328)
    (h : ∀ A' c' w', w'.ownsRow w1.heap.size 5 1 (.slice A' n c') n (bs.map bV) → New w1 w' → wpList Try.prog ops Q rest (a.put o.dst (.slice A' n c')) w') : wpList Try.prog ops Q (o :: rest) a (w1.alloc (.cells #[] 5)) :=
  wpList_plain hgd fun _ hK => wp_copy s x ho hs A n c bs F hx hA hF hl hnil hn fun A' c' w' h1 h2 => hK _ _ (h A' c' w' h1 h2)
theorem own_free {w : World} {base e g c n : Nat} {xs : List Value} (h : w.ownsRow base e 1 (.slice (some ⟨g, 0, none⟩) n c) n xs) (i : Nat) : w.frozen? ⟨g, i, none⟩ = false := by
  rcases h.2 with ⟨hv, _⟩ | ⟨g', cap, cur, hv, hb, hg, _⟩
  · cases hv
  · simp only [Value.slice.injEq, Option.some.injEq, Addr.mk.injEq, and_true, true_and] at hv
    obtain ⟨rfl, rfl⟩ := hv
    exact Has.free hg i
theorem openE_two (bs : List Nat) (m : Nat) (h : bs.length = m + 2) (h256 : ∀ x ∈ bs, x < 256) :
    (openE bs = 0 ∧ openB bs = bs.take m ∧ crc 65535 (bs.take m) = 256 * bs.getD m 0 + bs.getD (m + 1) 0) ∨ (openE bs = 13 ∧ openB bs = [] ∧ crc 65535 (bs.take m) ≠ 256 * bs.getD m 0 + bs.getD (m + 1) 0) := by
  have hlt := last_two bs m h
  have hcs := crc_sealed (s := 65535) (bs.take m) (by omega) (getD_lt bs h256 m) (getD_lt bs h256 (m + 1))
  rw [← hlt] at hcs
  by_cases hc : crc 65535 bs = 0
  · have hE : openE bs = 0 := by unfold openE; rw [if_neg (by omega), if_pos hc]
    exact Or.inl ⟨hE, by unfold openB; rw [if_pos hE, h, Nat.add_sub_cancel], hcs.1 hc⟩
  · have hE : openE bs = 13 := by unfold openE; rw [if_neg (by omega), if_neg hc]
    exact Or.inr ⟨hE, by unfold openB; rw [hE]; rfl, fun h => hc (hcs.2 h)⟩
set_option maxRecDepth 100000 in
set_option maxHeartbeats 4000000 in
theorem opens_walk (A : Option Addr) (n c : Nat) (bs : List Nat) (w : World) (hA : Arr w (· < w.heap.size) A n (fun i => bV (bs.getD i 0))) (hl : bs.length = n) (h256 : ∀ x ∈ bs, x < 256) (hnil : A = none → n = 0 ∧ c = 0) (hnc : n ≤ c) (hn : n ≤ 140737488351232) :
    Calls Try.prog 4 #[.slice A n c] w fun e w' => e = .returned (.bool true) ∧ New w w' := by
  obtain ⟨i0, hi, hz0, hz1, hz2⟩ := info_parts Try.info5
  have hB : Byts w (· < w.heap.size) (.slice A n c) bs := by
    subst hl; exact ⟨A, c, rfl, hA, hnil, h256, by omega⟩
  have HB := Lib.hid hB; clear hB
  have HA := Lib.hid hA; clear hA
  have Hl := Lib.hid hl; clear hl
  have H256 := Lib.hid h256; clear h256
  have Hnil := Lib.hid hnil; clear hnil
  go_enter Try.func4, Try.ntmps4
  go_wp2_with fail
  with_reducible refine (awake_any _).mono ?_
  rintro e w1 ⟨rfl, hN1⟩
  have HN1 := Lib.hid hN1; clear hN1
  have HA1 := Lib.hid (HA.out.new HN1.out (fun k hk => hk))
  have HF1 := Lib.hid (fun k (hk : k < w.heap.size) => Nat.lt_of_lt_of_le hk HN1.out.size)
  go_upto_region 4 with (first | (at_builtin; refine wpList_copy rfl _ _ rfl rfl A n c bs _ rfl HA1.out HF1.out Hl.out Hnil.out (by omega) ?_; intro A2 c2 w2 hO2 hN2; have HN2 := Lib.hid (HN1.out.then_new hN2); have HO2 := Lib.hid (own_base hO2 (base' := w.heap.size) (fun k hk => Nat.le_trans HN1.out.size (hO2.lt k hk).1)); clear hO2 hN2) | go_in)
  go_wp2_with fail
  with_reducible refine (Open_own A2 n c2 _ bs w2 HO2.out (by omega) H256.out).mono ?_
  rintro e w3 ⟨A3, q, c3, rfl, hq, hO3, hN3⟩
  have HO3 := Lib.hid hO3; clear hO3
  have HN3 := Lib.hid hN3; clear hN3
  have Hq := Lib.hid hq; clear hq
  have hqn : q ≤ n := by rw [Hq.out, ← Hl.out]; exact openB_le bs
  go_upto_region 6 with (fail)
  have hcases : (n < 2 ∧ openE bs = 10 ∧ q = 0) ∨ (∃ m, n = m + 2 ∧ openE bs = 13 ∧ q = 0 ∧ crc 65535 (bs.take m) ≠ 256 * bs.getD m 0 + bs.getD (m + 1) 0) ∨ (∃ m, n = m + 2 ∧ openE bs = 0 ∧ q = m ∧ openB bs = bs.take m ∧ crc 65535 (bs.take m) = 256 * bs.getD m 0 + bs.getD (m + 1) 0) := by
    have hq := Hq.out
    by_cases h2 : n < 2
    · have hE : openE bs = 10 := by unfold openE; rw [if_pos (by rw [Hl.out]; exact h2)]
      have hB : openB bs = [] := by unfold openB; rw [hE]; rfl
      rw [hB] at hq
      exact Or.inl ⟨h2, hE, hq⟩
    · obtain ⟨m, hm⟩ : ∃ m, n = m + 2 := ⟨n - 2, by omega⟩
      rcases openE_two bs m (by rw [Hl.out]; exact hm) H256.out with ⟨h1, h2, h3⟩ | ⟨h1, h2, h3⟩
      · rw [h2, List.length_take, Hl.out] at hq
        exact Or.inr (Or.inr ⟨m, hm, h1, by omega, h2, h3⟩)
      · rw [h2] at hq
        exact Or.inr (Or.inl ⟨m, hm, h1, hq, h3⟩)
  obtain ⟨E, hE⟩ : ∃ E, E = openE bs := ⟨_, rfl⟩
  rw [← hE] at hcases ⊢
  clear hE
  have HA3 := Lib.hid (HA.out.new (HN2.out.then_new HN3.out) (fun k hk => hk))
  have hbytes := fun i => getD_lt bs H256.out i
  have Hby := Lib.hid hbytes; clear hbytes
  have HT256 : Hid (∀ m, ∀ x ∈ bs.take m, x < 256) := fun m x hx => H256.out x (List.mem_of_mem_take hx)
  rcases hcases with ⟨h2, rfl, hq0⟩ | ⟨m, hm, rfl, hq0, hne⟩ | ⟨m, hm, rfl, hqm, hBB, heq⟩
  case' inl =>
    have d1 : decide (2 ≤ (n : Int)) = false := by simp only [decide_eq_false_iff_not]; omega
    have d2 : decide ((n : Int) < 2) = true := by simp only [decide_eq_true_eq]; omega
    have d3 : ((q : Int) != 0) = false := by rw [hq0]; rfl
    clear hq0 h2
    go_upto_region 16 with (fail)
    obtain ⟨wL, hwL, hNL⟩ : ∃ wL, wL = w3 ∧ New w3 wL := ⟨_, rfl, Chg.refl _ _⟩
    rw [← hwL]
    clear hwL d1 d2 d3
  case' inr.inl =>
    obtain ⟨a, rfl, hab, hc0⟩ := HA3.out m (by omega)
    obtain ⟨a', ha', _, hc1⟩ := HA3.out (m + 1) (by omega)
    simp only [Option.some.injEq] at ha'
    subst ha'
    obtain ⟨s, hs⟩ : ∃ s, s = crc 65535 (bs.take m) := ⟨_, rfl⟩
    obtain ⟨x0, hx0⟩ : ∃ x, x = bs.getD m 0 := ⟨_, rfl⟩
    obtain ⟨x1, hx1⟩ : ∃ x, x = bs.getD (m + 1) 0 := ⟨_, rfl⟩
    obtain ⟨m1, hm1⟩ : ∃ m1, m1 = m + 1 := ⟨_, rfl⟩
    have hb0 := Hby.out m
    have hb1 := Hby.out (m + 1)
    rw [← hx0] at hb0
    rw [← hx1] at hb1
    change _ = some (bV (bs.getD m 0)) at hc0
    change _ = some (bV (bs.getD (m + 1) 0)) at hc1
    rw [← hx0] at hc0
    rw [← hx1, ← hm1] at hc1
    have hc0' : w3.cell? (a.add m) = some (.int .u8 (x0 : Int)) := hc0
    have hc1' : w3.cell? (a.add m1) = some (.int .u8 (x1 : Int)) := hc1
    clear hc0 hc1
    rw [← hs, ← hx0, ← hx1] at hne
    obtain ⟨t, ht⟩ : ∃ t, t = 256 * x0 + x1 := ⟨_, rfl⟩
    rw [← ht] at hne
    have e1 : (x0 : Int) * 256 + (x1 : Int) = (t : Int) := by omega
    have e2 : (n : Int) - 2 = (m : Int) := by omega
    have e3 : (n : Int) - 1 = (m1 : Int) := by omega
    have e4 : m ≤ c := by omega
    have e5 : m ≤ n := by omega
    have e6 : m1 < n := by omega
    have e7 : m < n := by omega
    have htl : (bs.take m).length = m := by rw [List.length_take, Hl.out]; omega
    have hAt : ∀ wy, New w3 wy → Arr wy (· < w.heap.size) (some a) m (fun i => bV ((bs.take m).getD i 0)) := fun wy h i hi => by
      obtain ⟨a', ha', hb', hc'⟩ := (HA3.out.new h (fun k hk => Nat.lt_of_lt_of_le hk (HN2.out.then_new HN3.out).size)) i (by omega)
      refine ⟨a', ha', hb', ?_⟩
      rw [hc']
      exact congrArg (fun x => some (bV x)) (by rw [List.getD_eq_getElem?_getD, List.getD_eq_getElem?_getD, List.getElem?_take_of_lt hi])
    have HAt := Lib.hid hAt; clear hAt
    have HR : Hid (∀ nq, Calls Try.prog 8 #[.slice (some a) m c] (w3.drewN nq) fun e w' => e = .returned (.int .i64 (s : Int)) ∧ w' = w3.drewN nq) := fun nq => by
      rw [hs]; exact refSum_any (some a) m c _ (bs.take m) _ (HAt.out _ ((Chg.refl _ _).drewN nq)) htl (HT256.out m) (by omega)
    have d1 : decide (2 ≤ (n : Int)) = true := by simp only [decide_eq_true_eq]; omega
    have d2 : decide ((n : Int) < 2) = false := by simp only [decide_eq_false_iff_not]; omega
    have Hm := Lib.hid hm
    clear hm hs hx0 hx1 ht hm1
    have d4 : ((s : Int) == (t : Int)) = false := by rw [beq_eq_false_iff_ne]; omega
    have d3 : ((q : Int) != 0) = false := by rw [hq0]; rfl
    clear hne hq0
    go_upto_region 7 with (fail)
    go_quiet (first | (go_at_call 8; exact Calls.quiet_of_same (HR.out _)))
    obtain ⟨w4, hw4, hN4⟩ : ∃ w4, w4 = w3.drewN nq ∧ New w3 w4 := ⟨_, rfl, (Chg.refl _ _).drewN _⟩
    rw [← hw4]
    clear hw4 hc0' hc1'
    go_upto_region 16 with (fail)
    obtain ⟨wL, hwL, hNL⟩ : ∃ wL, wL = w4 ∧ New w3 wL := ⟨_, rfl, hN4⟩
    rw [← hwL]
    clear hwL hN4 d1 d2 d3 d4
  case' inr.inr =>
    obtain ⟨a, rfl, hab, hc0⟩ := HA3.out m (by omega)
    obtain ⟨a', ha', _, hc1⟩ := HA3.out (m + 1) (by omega)
    simp only [Option.some.injEq] at ha'
    subst ha'
    obtain ⟨s, hs⟩ : ∃ s, s = crc 65535 (bs.take m) := ⟨_, rfl⟩
    obtain ⟨x0, hx0⟩ : ∃ x, x = bs.getD m 0 := ⟨_, rfl⟩
    obtain ⟨x1, hx1⟩ : ∃ x, x = bs.getD (m + 1) 0 := ⟨_, rfl⟩
    obtain ⟨m1, hm1⟩ : ∃ m1, m1 = m + 1 := ⟨_, rfl⟩
    have hb0 := Hby.out m
    have hb1 := Hby.out (m + 1)
    rw [← hx0] at hb0
    rw [← hx1] at hb1
    change _ = some (bV (bs.getD m 0)) at hc0
    change _ = some (bV (bs.getD (m + 1) 0)) at hc1
    rw [← hx0] at hc0
    rw [← hx1, ← hm1] at hc1
    have hc0' : w3.cell? (a.add m) = some (.int .u8 (x0 : Int)) := hc0
    have hc1' : w3.cell? (a.add m1) = some (.int .u8 (x1 : Int)) := hc1
    clear hc0 hc1
    rw [← hs, ← hx0, ← hx1] at heq
    obtain ⟨t, ht⟩ : ∃ t, t = 256 * x0 + x1 := ⟨_, rfl⟩
    rw [← ht] at heq
    have e1 : (x0 : Int) * 256 + (x1 : Int) = (t : Int) := by omega
    have e2 : (n : Int) - 2 = (m : Int) := by omega
    have e3 : (n : Int) - 1 = (m1 : Int) := by omega
    have e4 : m ≤ c := by omega
    have e5 : m ≤ n := by omega
    have e6 : m1 < n := by omega
    have e7 : m < n := by omega
    have htl : (bs.take m).length = m := by rw [List.length_take, Hl.out]; omega
    have hAt : ∀ wy, New w3 wy → Arr wy (· < w.heap.size) (some a) m (fun i => bV ((bs.take m).getD i 0)) := fun wy h i hi => by
      obtain ⟨a', ha', hb', hc'⟩ := (HA3.out.new h (fun k hk => Nat.lt_of_lt_of_le hk (HN2.out.then_new HN3.out).size)) i (by omega)
      refine ⟨a', ha', hb', ?_⟩
      rw [hc']
      exact congrArg (fun x => some (bV x)) (by rw [List.getD_eq_getElem?_getD, List.getD_eq_getElem?_getD, List.getElem?_take_of_lt hi])
    have HAt := Lib.hid hAt; clear hAt
    have HR : Hid (∀ nq, Calls Try.prog 8 #[.slice (some a) m c] (w3.drewN nq) fun e w' => e = .returned (.int .i64 (s : Int)) ∧ w' = w3.drewN nq) := fun nq => by
      rw [hs]; exact refSum_any (some a) m c _ (bs.take m) _ (HAt.out _ ((Chg.refl _ _).drewN nq)) htl (HT256.out m) (by omega)
    have d1 : decide (2 ≤ (n : Int)) = true := by simp only [decide_eq_true_eq]; omega
    have d2 : decide ((n : Int) < 2) = false := by simp only [decide_eq_false_iff_not]; omega
    have Hm := Lib.hid hm
    clear hm hs hx0 hx1 ht hm1
    have d4 : ((s : Int) == (t : Int)) = true := by rw [beq_iff_eq]; omega
    clear heq
    go_upto_region 7 with (fail)
    go_quiet (first | (go_at_call 8; exact Calls.quiet_of_same (HR.out _)))
    obtain ⟨w4, hw4, hN4⟩ : ∃ w4, w4 = w3.drewN nq ∧ New w3 w4 := ⟨_, rfl, (Chg.refl _ _).drewN _⟩
    rw [← hw4]
    clear hw4 hc0' hc1'
    have hconv1 : ∀ nq, (convert 22 9 (.slice A3 q c3)).run Try.prog (w4.drewN nq) = .ok (.string (bstr (bs.take m))) (w4.drewN nq) := fun nq => own_string Try.underlying22 Try.underlying5 Try.underlying9 (own_new (hBB ▸ HO3.out) (hN4.drewN nq))
    have hconv2 : ∀ nq, (convert 22 9 (.slice (some a) m c)).run Try.prog (w4.drewN nq) = .ok (.string (bstr (bs.take m))) (w4.drewN nq) := fun nq => arr_string Try.underlying22 Try.underlying5 Try.underlying9 (HAt.out _ (hN4.drewN nq)) htl (HT256.out m) (fun h => by cases h)
    have HN4 := Lib.hid hN4; clear hN4
    clear hqm hBB htl
    go_upto_region 8 with (fail)
    go_quiet (fail)
    obtain ⟨wL, hwL, hNL⟩ : ∃ wL, wL = w4.drewN nq ∧ New w3 wL := ⟨_, rfl, HN4.out.drewN _⟩
    rw [← hwL]
    clear hwL hconv1 hconv2 d1 d2 d4
    go_upto_region 16 with (fail)
  all_goals
    have HNL := Lib.hid (HN3.out.then_new hNL)
    have HOx := Lib.hid (own_new HO3.out hNL)
    have Hx256 := Lib.hid (openB_lt bs H256.out)
    clear hNL HO3
    go_wp2_with fail
    go_loopg [7] q (fun gk i wr => ∃ (k : Nat) (zs : List Nat), k ≤ q ∧ gk = q - k ∧ i = .int .i64 k ∧ (∀ x ∈ zs, x < 256) ∧ wr.ownsRow w2.heap.size 5 1 (.slice A3 q c3) q (zs.map bV) ∧ wr.ownsRow w.heap.size 5 1 (.slice A2 n c2) n (bs.map bV) ∧ New w wr)
    case atStart => exact ⟨0, _, by omega, by omega, rfl, Hx256.out, HOx.out, own_new HO2.out HNL.out, HN2.out.then_new HNL.out⟩
    case round =>
      obtain ⟨k, zs, hk, rfl, rfl, hz, hOz, hOi, hC⟩ := hrel
      by_cases hlt : k < q
      · obtain ⟨g, rfl, hqq⟩ := own_some hOz hlt
        clear hqq
        have hzl := own_length hOz
        have hzk : zs.getD k 0 < 256 := getD_lt zs hz k
        have hcell : wr.cell? ⟨g, k, none⟩ = some (.int .u8 ((zs.getD k 0 : Nat) : Int)) := by
          rw [hOz.cellAt k (by omega), List.getElem?_map, List.getElem?_eq_getElem (by omega)]
          simp [bV, List.getElem?_eq_getElem (show k < zs.length by omega)]
        have hfree : wr.frozen? ⟨g, k, none⟩ = false := own_free hOz k
        obtain ⟨x, hx⟩ : ∃ x, x = zs.getD k 0 := ⟨_, rfl⟩
        rw [← hx] at hzk hcell
        have hxx : bits .xor .u8 (x : Int) 255 = ((x ^^^ 255 : Nat) : Int) := u8_xor_nat x 255 hzk (by omega)
        obtain ⟨y, hy⟩ : ∃ y, y = x ^^^ 255 := ⟨_, rfl⟩
        rw [← hy] at hxx
        have hy256 : y < 256 := by rw [hy]; exact Nat.xor_lt_two_pow (n := 8) hzk (by omega)
        have Hz := Lib.hid hz; clear hz
        have HOz := Lib.hid hOz; clear hOz
        have HOi := Lib.hid hOi; clear hOi
        have HC := Lib.hid hC; clear hC
        clear hx hy hzl hzk
        have Hy := Lib.hid hy256; clear hy256
        go_wp2
        go_roundg (q - (k + 1))
        case measure => omega
        case rel =>
          have hgw : w2.heap.size ≤ g := (HOz.out.lt g rfl).1
          have hw2 := HN2.out.size
          refine ⟨k + 1, zs.set k y, by omega, rfl, by go_num, ?_, ?_, ?_, ?_⟩
          · intro z hzm
            rcases List.mem_or_eq_of_mem_set hzm with h1 | rfl
            · exact Hz.out z h1
            · exact Hy.out
          · rw [List.map_set]; exact own_put HOz.out k _
          · exact ownsRow_setCell_other HOi.out (fun e => by have := (HO2.out.lt g e).2; omega) _
          · exact HC.out.setCell (p := ⟨g, k, none⟩) (fun h => by dsimp only at h; omega) _
      · have HOi := Lib.hid hOi; clear hOi
        have HC := Lib.hid hC; clear hC
        have HBr := Lib.hid (HB.out.new HC.out (fun k hk => hk))
        have HFr := Lib.hid (fun k (hk : k < w.heap.size) => Nat.lt_of_lt_of_le hk HC.out.size)
        clear hz hOz
        go_wp2_with fail
        with_reducible refine (Seal_at _ _ bs wr _ rfl HBr.out HFr.out (by rw [Hl.out]; omega)).mono ?_
        rintro e w5 ⟨A5, m5, c5, rfl, hm5, hO5, hN5⟩
        have hb5 : m5 ≤ 140737488355328 := by rw [hm5, Hl.out]; omega
        clear hm5
        have HO5 := Lib.hid hO5; clear hO5
        have HN5 := Lib.hid hN5; clear hN5
        go_wp2_with fail
        with_reducible refine (Open_own A5 m5 c5 _ (sealed bs) w5 HO5.out hb5 (sealed_lt bs H256.out)).mono ?_
        rw [sealed_openE, sealed_openB]
        rintro e w6 ⟨A6, m6, c6, rfl, hm6, hO6, hN6⟩
        clear hm6
        have hN56 := HC.out.then_new (HN5.out.then_new hN6)
        have hconv1 : (convert 22 9 (.slice A2 n c2)).run Try.prog w6 = .ok (.string (bstr bs)) w6 := own_string Try.underlying22 Try.underlying5 Try.underlying9 (own_new HOi.out (HN5.out.then_new hN6))
        have hconv2 := arr_string Try.underlying22 Try.underlying5 Try.underlying9 (HA.out.new hN56 (fun k hk => hk)) Hl.out H256.out Hnil.out
        have hconv3 : (convert 22 9 (.slice A6 m6 c6)).run Try.prog w6 = .ok (.string (bstr bs)) w6 := own_string Try.underlying22 Try.underlying5 Try.underlying9 hO6
        have HN56 := Lib.hid hN56; clear hN56 hO6 hN6
        go_wp2
        go_ret
        exact ⟨by simp, HN56.out⟩
theorem opens_law (A : Option Addr) (n c : Nat) {w : World} (h : (∃ bs : List Nat, bs.length = n ∧ Arr w (· < w.heap.size) A n (fun i => bV (bs.getD i 0)) ∧ (∀ x ∈ bs, x < 256) ∧ n ≤ c ∧ c ≤ maxLen ∧ (A = none → n = 0 ∧ c = 0)) ∧ n ≤ 140737488351232) :
    Calls Try.prog 4 #[.slice A n c] w fun e w' => e = .returned (.bool true) ∧ New w w' := by
  obtain ⟨⟨bs, hl, hA, h256, hnc, _, hnil⟩, hn⟩ := h
  exact opens_walk A n c bs w hA hl h256 hnil hnc hn
end Go.Proofs.Ytkjnlpognbiagaa
