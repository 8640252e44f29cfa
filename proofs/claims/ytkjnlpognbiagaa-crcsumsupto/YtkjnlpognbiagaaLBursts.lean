/-
  What the law CrcBursts does: it returns true and turns nothing that was there.
-/
import Derived.Test.YtkjnlpognbiagaaLNought
namespace Go.Proofs.Ytkjnlpognbiagaa
open Go.RowKit
theorem own_put {w : World} {base e g c n : Nat} {xs : List Value} (h : w.ownsRow base e 1 (.slice (some ⟨g, 0, none⟩) n c) n xs) (i : Nat) (u : Value) : (w.setCell ⟨g, i, none⟩ u).ownsRow base e 1 (.slice (some ⟨g, 0, none⟩) n c) n (xs.set i u) := by
  refine ⟨by rw [List.length_set]; exact h.1, ?_⟩
  rcases h.2 with ⟨hv, _⟩ | ⟨g', cap, cur, hv, hb, hg, hnc, hcm, hcs, ht⟩
  · cases hv
  · simp only [Value.slice.injEq, Option.some.injEq, Addr.mk.injEq, and_true, true_and] at hv
    obtain ⟨rfl, rfl⟩ := hv
    refine Or.inr ⟨g, c, cur.setIfInBounds i u, rfl, hb, Has.set hg i u, hnc, hcm, by simp [hcs], ?_⟩
    rw [← ht, Array.toList_setIfInBounds, List.take_set]
theorem xor_turn (x r : Nat) (hx : x < 256) : bits .xor .u8 (x : Int) (128 / 2 ^ r) = ((x ^^^ (128 / 2 ^ r) : Nat) : Int) := by
  have h := u8_xor_nat x (128 / 2 ^ r) hx (Nat.lt_of_le_of_lt (Nat.div_le_self _ _) (by decide))
  rw [Int.natCast_ediv, Int.natCast_pow] at h
  exact h
/-- what Open says of bytes of which some bits were turned -/
theorem bent_open {bs ys : List Nat} {p k : Nat} {f : Nat → Bool} (h : Bent (sealed bs) ys p f k) (hk : k ≤ 16) (hpk : p + k ≤ 8 * (sealed bs).length) (h256 : ∀ x ∈ bs, x < 256) : openE ys = if anyB f k then 13 else 0 := by
  have hs := h.sum hk hpk (s := 65535) (by omega) (sealed_lt bs h256) (sealed_crc bs)
  unfold openE
  rw [if_neg (by rw [h.1, sealed_length]; omega)]
  cases hc : anyB f k with
  | false => rw [if_pos (hs.2 hc)]; rfl
  | true => rw [if_neg (fun h0 => by rw [hs.1 h0] at hc; cases hc)]; rfl
set_option maxRecDepth 100000 in
set_option maxHeartbeats 4000000 in
theorem bursts_walk (A : Option Addr) (n c : Nat) (at_ burst : Int) (bs : List Nat) (w : World) (hA : Arr w (· < w.heap.size) A n (fun i => bV (bs.getD i 0))) (hl : bs.length = n) (h256 : ∀ x ∈ bs, x < 256) (hnil : A = none → n = 0 ∧ c = 0) (hn : n ≤ 140737488351232) (_hat : -9223372036854775808 ≤ at_ ∧ at_ ≤ 9223372036854775807) (_hbu : -9223372036854775808 ≤ burst ∧ burst ≤ 9223372036854775807) :
    Calls Try.prog 5 #[.slice A n c, .int .i64 at_, .int .i64 burst] w fun e w' => e = .returned (.bool true) ∧ New w w' := by
  have hB : Byts w (· < w.heap.size) (.slice A n c) bs := by
    subst hl; exact ⟨A, c, rfl, hA, hnil, h256, by omega⟩
  have HB := Lib.hid hB; clear hB
  have Hl := Lib.hid hl; clear hl
  have H256 := Lib.hid h256; clear h256
  clear hA hnil
  go_enter Try.func5, Try.ntmps5
  go_wp2_with fail
  with_reducible refine (awake_any _).mono ?_
  rintro e w1 ⟨rfl, hN1⟩
  have HB1 := Lib.hid (HB.out.new hN1 (fun k hk => hk))
  have HF1 := Lib.hid (fun k (hk : k < w.heap.size) => Nat.lt_of_lt_of_le hk hN1.size)
  have HN1 := Lib.hid hN1; clear hN1
  go_wp2_with fail
  with_reducible refine (Seal_at _ _ bs w1 _ rfl HB1.out HF1.out (by rw [Hl.out]; omega)).mono ?_
  rintro e w2 ⟨A2, m, c2, rfl, hm, hO2, hN2⟩
  rw [Hl.out] at hm
  obtain ⟨g, rfl, hq⟩ := own_some hO2 (i := 0) (by omega)
  clear hq
  replace hO2 := own_base hO2 (base' := w.heap.size) (fun k hk => Nat.le_trans HN1.out.size (hO2.lt k hk).1)
  have HO2 := Lib.hid hO2; clear hO2
  have HN2 := Lib.hid (HN1.out.then_new hN2); clear hN2
  have hm2 : 2 ≤ m := by omega
  have hmb : m ≤ 140737488355328 := by omega
  have Hm := Lib.hid hm; clear hm
  obtain ⟨N, hN⟩ : ∃ N, N = 8 * m := ⟨_, rfl⟩
  have e1 : 8 * (m : Int) = (N : Int) := by omega
  have hNz : N ≠ 0 := by omega
  obtain ⟨p, hp⟩ : ∃ p : Nat, (p : Int) = Int.tmod (Int.tmod at_ (N : Int) + (N : Int)) (N : Int) := by
    refine ⟨(Int.tmod (Int.tmod at_ (N : Int) + (N : Int)) (N : Int)).toNat, Int.toNat_of_nonneg ?_⟩
    refine Int.tmod_nonneg _ ?_
    have := Int.lt_tmod_of_pos at_ (show (0 : Int) < N by omega)
    omega
  have hpN : p < N := by
    have := Int.tmod_lt_of_pos (Int.tmod at_ (N : Int) + (N : Int)) (show (0 : Int) < N by omega)
    omega
  have r1 : -(N : Int) < Int.tmod at_ (N : Int) := Int.lt_tmod_of_pos at_ (show (0 : Int) < N by omega)
  have r2 : Int.tmod at_ (N : Int) < (N : Int) := Int.tmod_lt_of_pos at_ (show (0 : Int) < N by omega)
  obtain ⟨y, hy⟩ : ∃ y, y = Int.tmod at_ (N : Int) := ⟨_, rfl⟩
  rw [← hy] at hp r1 r2
  have hNb : N ≤ 1125899906842624 := by omega
  have HN := Lib.hid hN; clear hN
  have hy' := hy.symm
  have hp' := hp.symm
  clear hy hp
  go_wp2_with fail
  clear hy' hp' r1 r2 _hat
  obtain ⟨f, hf⟩ : ∃ f : Nat → Bool, ∀ k, k < 16 → (bits .and .i64 (burst / 2 ^ k) 1 == 1) = f k := ⟨fun k => (bits .and .i64 (burst / 2 ^ k) 1 == 1), fun _ _ => rfl⟩
  have Hf := Lib.hid hf; clear hf
  have HS := Lib.hid (sealed_lt bs H256.out)
  go_loopg [10, 11] 16 (fun gk t i wr => ∃ (k : Nat) (ys : List Nat), k ≤ 16 ∧ gk = 16 - k ∧ t = .bool (anyB f k) ∧ i = .int .i64 k ∧ Bent (sealed bs) ys p f k ∧ p + k ≤ N ∧ wr.ownsRow w.heap.size 5 1 (.slice (some ⟨g, 0, none⟩) m c2) m (ys.map bV) ∧ New w wr)
  case atStart => exact ⟨0, sealed bs, by omega, by omega, rfl, rfl, Bent.zero HS.out, by omega, HO2.out, HN2.out⟩
  case round =>
    clear HO2 HN2
    obtain ⟨k, ys, hk, rfl, rfl, rfl, hBe, hpk, hO, hC⟩ := hrel
    have HBe := Lib.hid hBe; clear hBe
    by_cases hlt : k < 16 ∧ p + k < N
    · obtain ⟨hk16, hpk2⟩ := hlt
      have hfk := Hf.out k hk16
      have HAn : Hid (anyB f (k + 1) = (anyB f k || f k)) := rfl
      obtain ⟨fk, hfke⟩ : ∃ b, b = f k := ⟨_, rfl⟩
      rw [← hfke] at hfk HAn
      have Hfke := Lib.hid hfke; clear hfke
      cases fk with
      | false =>
        have HO := Lib.hid hO; clear hO
        have HC := Lib.hid hC; clear hC
        go_wp2
        go_roundg (16 - (k + 1))
        case measure => omega
        case rel =>
          exact ⟨k + 1, ys, by omega, rfl, by rw [HAn.out, Bool.or_false], by go_num, HBe.out.same Hfke.out.symm, by omega, HO.out, HC.out⟩
      | true =>
        have hyl : ys.length = m := own_length hO
        obtain ⟨q, hq⟩ : ∃ q, q = (p + k) / 8 := ⟨_, rfl⟩
        obtain ⟨r, hr⟩ : ∃ r, r = (p + k) % 8 := ⟨_, rfl⟩
        have hqm : q < m := by have := HN.out; omega
        have hcell : wr.cell? ⟨g, q, none⟩ = some (.int .u8 ((ys.getD q 0 : Nat) : Int)) := by
          rw [hO.cellAt q (by omega), List.getElem?_map, List.getElem?_eq_getElem (by omega)]
          simp [bV, List.getElem?_eq_getElem (show q < ys.length by omega)]
        have hfree : wr.frozen? ⟨g, q, none⟩ = false := by
          rcases hO.2 with ⟨hv, _⟩ | ⟨g', cap, cur, hv, hb, hg, _⟩
          · cases hv
          · simp only [Value.slice.injEq, Option.some.injEq, Addr.mk.injEq, and_true, true_and] at hv
            obtain ⟨rfl, rfl⟩ := hv
            exact Has.free hg q
        obtain ⟨G, hG⟩ : ∃ G, G = p + k := ⟨_, rfl⟩
        have g1 : (p : Int) + (k : Int) = (G : Int) := by omega
        have g2 : Int.tdiv (G : Int) 8 = (q : Int) := by rw [hq, ← hG]; rfl
        have g3 : Int.tmod (G : Int) 8 = (r : Int) := by rw [hr, ← hG]; rfl
        have g4 : G < N := by omega
        have hr8 : r < 8 := by omega
        obtain ⟨x, hx⟩ : ∃ x, x = ys.getD q 0 := ⟨_, rfl⟩
        rw [← hx] at hcell
        have HX := Lib.hid hx
        have HG := Lib.hid hG
        have Hq := Lib.hid hq
        have Hr := Lib.hid hr
        have HO := Lib.hid hO; clear hO
        have HC := Lib.hid hC; clear hC
        clear hx hG hq hr hyl hpk hpk2
        have hx256 : x < 256 := by rw [HX.out]; exact getD_lt ys HBe.out.2.1 q
        have hpl : p + k < 8 * (sealed bs).length := by rw [sealed_length, Hl.out, ← Hm.out, ← HN.out, ← HG.out]; exact g4
        have hgw : w.heap.size ≤ g := (HO.out.lt g rfl).1
        have HHx := Lib.hid (xor_turn x r hx256)
        have Hpl := Lib.hid hpl
        have Hgw := Lib.hid hgw
        have Hg4 := Lib.hid g4
        clear hpl hgw hx256
        go_wp2
        rw [HHx.out]
        go_roundg (16 - (k + 1))
        case measure => omega
        case rel =>
          refine ⟨k + 1, flip ys (p + k), by omega, rfl, by rw [HAn.out, Bool.or_true], by go_num, HBe.out.flip Hpl.out Hfke.out.symm, by have := HG.out; have := Hg4.out; omega, ?_, ?_⟩
          · have e : (flip ys (p + k)).map bV = (ys.map bV).set q (bV (x ^^^ (128 / 2 ^ r))) := by rw [flip, List.map_set, ← Hq.out, ← Hr.out, ← HX.out]
            rw [e]
            exact own_put HO.out q _
          · exact HC.out.setCell (p := ⟨g, q, none⟩) (fun h => by have := Hgw.out; dsimp only at h; omega) _
    · have hop := bent_open HBe.out hk (by rw [sealed_length, Hl.out, ← Hm.out, ← HN.out]; exact hpk) H256.out
      have Hop := Lib.hid hop; clear hop
      have HO := Lib.hid hO; clear hO
      have HC := Lib.hid hC; clear hC
      have HyS := Lib.hid HBe.out.2.1
      obtain ⟨b, hb⟩ : ∃ b, b = anyB f k := ⟨_, rfl⟩
      rw [← hb] at Hop ⊢
      clear hb HBe
      obtain ⟨E, hE⟩ : ∃ E, E = openE ys := ⟨_, rfl⟩
      have hEb : E = if b then 13 else 0 := by rw [hE, Hop.out]
      have HOp : Hid (Calls Try.prog 11 #[.slice (some ⟨g, 0, none⟩) m c2] wr fun e w' => ∃ A' q c', e = .returned (.tuple #[.slice A' q c', .int .i64 E]) ∧ New wr w') := by
        rw [hE]
        refine (Open_own (some ⟨g, 0, none⟩) m c2 _ ys wr HO.out hmb HyS.out).mono ?_
        rintro e w' ⟨A', q, c', rfl, _, _, hN⟩
        exact ⟨A', q, c', rfl, hN⟩
      clear hE
      go_upto_region 13 with (fail)
      all_goals
        cases b with
        | false =>
          simp only [Bool.false_eq_true, if_false] at hEb
          subst hEb
          go_wp2_with fail
          with_reducible refine HOp.out.mono ?_
          rintro e w' ⟨A', q, c', rfl, hN⟩
          have HNl := Lib.hid hN; clear hN
          go_wp2
          go_ret
          exact ⟨by simp, HC.out.then_new HNl.out⟩
        | true =>
          simp only [if_true] at hEb
          subst hEb
          go_wp2_with fail
          with_reducible refine HOp.out.mono ?_
          rintro e w' ⟨A', q, c', rfl, hN⟩
          have HNl := Lib.hid hN; clear hN
          go_wp2
          go_ret
          exact ⟨by simp, HC.out.then_new HNl.out⟩
theorem bursts_law (A : Option Addr) (n c : Nat) {w : World} (h : (∃ bs : List Nat, bs.length = n ∧ Arr w (· < w.heap.size) A n (fun i => bV (bs.getD i 0)) ∧ (∀ x ∈ bs, x < 256) ∧ n ≤ c ∧ c ≤ maxLen ∧ (A = none → n = 0 ∧ c = 0)) ∧ n ≤ 140737488351232) (a : Int) (ha : (Lit.int .i64 a).wf = true) (b : Int) (hb : (Lit.int .i64 b).wf = true) :
    Calls Try.prog 5 #[.slice A n c, .int .i64 a, .int .i64 b] w fun e w' => e = .returned (.bool true) ∧ New w w' := by
  obtain ⟨⟨bs, hl, hA, h256, _, _, hnil⟩, hn⟩ := h
  exact bursts_walk A n c a b bs w hA hl h256 hnil hn (i64_wf ha) (i64_wf hb)
end Go.Proofs.Ytkjnlpognbiagaa
