/-
  Package oracle's Mint.
-/
import Derived.Test.YtoifcaogcphfhaaOrQ
namespace Go.Proofs.Ytoifcaogcphfhaa
open Go.ChangeShapes Go.WideShapes Go.ChangeAt Go.RowKit Go.Maps
def mintN (M : List Sl) (x : Sl) : Nat := if x ∈ M then atN M x else M.length + 1
def mintL (M : List Sl) (x : Sl) : List Sl := if x ∈ M then M else M ++ [x]
set_option maxRecDepth 100000 in
set_option maxHeartbeats 2000000 in
theorem Mint_any (base g : Nat) (M : List Sl) (k0 k1 k2 k3 : Int) (h0 : (Lit.int .i64 k0).wf = true) (h1 : (Lit.int .i64 k1).wf = true) (h2 : (Lit.int .i64 k2).wf = true) (h3 : (Lit.int .i64 k3).wf = true)
    (A : Option Addr) (n c : Nat) (F : Nat → Prop) (L : List (List Nat)) (w : World) (mv sv : Value) (hH : Has w g 28 #[mv, sv]) (hgb : base ≤ g) (hO : w.ownsRow base 53 5 sv M.length (slRow M))
    (hMp : (mv = .map none ∧ M = []) ∨ ∃ b, mv = .map (some b) ∧ base ≤ b ∧ Mp w b M) (hok : ∀ y ∈ M, SlOk y) (hnd : M.Nodup) (hm : M.length ≤ 1000)
    (hA : Lists w F A L) (hF : ∀ k, F k → k < w.heap.size) (hn : L.length = n) (hnc : n ≤ c) (hb : n ≤ 2000000) (hT : L.flatten.length ≤ 140737488355328) :
    Calls Try.prog 11 #[.pointer (some ⟨g, 0, none⟩), .agg #[.int .i64 k0, .int .i64 k1, .int .i64 k2, .int .i64 k3], .slice A n c] w fun e w' => e = .returned (.int .i64 (mintN M ⟨k0, k1, k2, k3, bstr L.flatten⟩ : Nat)) ∧ Orc w' base g (mintL M ⟨k0, k1, k2, k3, bstr L.flatten⟩) ∧ Chg (OS base w) w w' ∧ w'.ownsRow base 53 5 sv M.length (slRow M) := by
  have hx : SlOk ⟨k0, k1, k2, k3, bstr L.flatten⟩ := slOk_of h0 h1 h2 h3 hT
  have HS : Hid (∀ wx, New w wx → Calls Try.prog 13 #[.agg #[.int .i64 k0, .int .i64 k1, .int .i64 k2, .int .i64 k3], .slice A n c] wx fun e w' => e = .returned (.agg #[.int .i64 k0, .int .i64 k1, .int .i64 k2, .int .i64 k3, .string (bstr L.flatten)]) ∧ New wx w') := fun wx hx => by
    obtain ⟨vs, hV, hB⟩ := hA
    exact seal_any k0 k1 k2 k3 A n c F L wx ⟨vs, hV.new hx hF, fun i hi => (hB i hi).new hx hF⟩ (fun k hk => Nat.lt_of_lt_of_le (hF k hk) hx.size) hn hnc hb hT
  obtain ⟨s, hs⟩ : ∃ s, s = bstr L.flatten := ⟨_, rfl⟩
  rw [← hs] at HS hx ⊢
  have HOr : Hid (∀ wx, New w wx → Orc wx base g M) := fun wx hwx => Orc.new ⟨mv, sv, hH, hgb, hO, hMp, hok, hnd⟩ hwx
  have HLk : Hid (∀ wx, New w wx → (Instr.lookup 25 mv (.agg #[.int .i64 k0, .int .i64 k1, .int .i64 k2, .int .i64 k3, .string s]) true).run Try.prog wx = .ok (.tuple #[.int .i64 (atN M ⟨k0, k1, k2, k3, s⟩ : Nat), .bool (decide ((⟨k0, k1, k2, k3, s⟩ : Sl) ∈ M))]) wx) := fun wx hwx =>
    Orc.look (by rcases hMp with h | ⟨b, e, _, h⟩; exact Or.inl h; exact Or.inr ⟨b, e, h.chg hwx fun f => f⟩) hok hnd ⟨k0, k1, k2, k3, s⟩ hx
  have HIs : Hid (∀ wx, New w wx → (⟨k0, k1, k2, k3, s⟩ : Sl) ∉ M → Calls Try.prog 16 #[.pointer (some ⟨g, 0, none⟩), .agg #[.int .i64 k0, .int .i64 k1, .int .i64 k2, .int .i64 k3, .string s]] wx fun e w' => e = .returned (.int .i64 ((M.length + 1 : Nat) : Int)) ∧ Orc w' base g (M ++ [⟨k0, k1, k2, k3, s⟩]) ∧ Chg (OS base wx) wx w' ∧ w'.ownsRow base 53 5 sv M.length (slRow M)) := fun wx hwx hnm =>
    issue_any base g M ⟨k0, k1, k2, k3, s⟩ hx wx mv sv (hH.keep hwx) hgb (own_new hO hwx) (by rcases hMp with h | ⟨b, e, hb, h⟩; exact Or.inl h; exact Or.inr ⟨b, e, hb, h.chg hwx fun f => f⟩) hok hnd hnm hm
  have HM : Hid (∀ wx, New w wx → wx.cell? ⟨g, 0, none⟩ = some mv) := fun wx hwx => ((hH.keep hwx).cell 0).trans rfl
  have HO := Lib.hid hO; clear hO
  clear hs hA hF hn hnc hb hT hx hok hnd hMp hH h0 h1 h2 h3
  go_enter Try.func11, Try.ntmps11
  go_upto_region 1 with (fail)
  have hN2 : New w (w.alloc (.cells #[.int .i64 k0, .int .i64 k1, .int .i64 k2, .int .i64 k3] 32)) := (Chg.refl _ _).alloc _
  have hK2 := Has.new w 32 #[.int .i64 k0, .int .i64 k1, .int .i64 k2, .int .i64 k3]
  obtain ⟨w2, hw2⟩ : ∃ w2, w2 = w.alloc (.cells #[.int .i64 k0, .int .i64 k1, .int .i64 k2, .int .i64 k3] 32) := ⟨_, rfl⟩
  rw [← hw2] at hN2 hK2 ⊢
  clear hw2
  have u0 := (hK2.cell 0).trans rfl
  have u1 := (hK2.cell 1).trans rfl
  have u2 := (hK2.cell 2).trans rfl
  have u3 := (hK2.cell 3).trans rfl
  have HN2 := Lib.hid hN2; clear hN2
  clear hK2
  go_upto_region 2 with (go_at_call 13; (with_reducible refine (HS.out _ HN2.out).mono ?_); rintro e w3 ⟨rfl, hN3⟩; have HN3 := Lib.hid (HN2.out.then_new hN3); clear hN3)
  clear u0 u1 u2 u3 HS
  have hN4 : New w (w3.alloc (.cells #[.int .i64 k0, .int .i64 k1, .int .i64 k2, .int .i64 k3, .string s] 53)) := HN3.out.alloc _
  have hS4 := Has.new w3 53 #[.int .i64 k0, .int .i64 k1, .int .i64 k2, .int .i64 k3, .string s]
  obtain ⟨w4, hw4⟩ : ∃ w4, w4 = w3.alloc (.cells #[.int .i64 k0, .int .i64 k1, .int .i64 k2, .int .i64 k3, .string s] 53) := ⟨_, rfl⟩
  rw [← hw4] at hN4 hS4 ⊢
  clear hw4
  have u0 := (hS4.cell 0).trans rfl
  have u1 := (hS4.cell 1).trans rfl
  have u2 := (hS4.cell 2).trans rfl
  have u3 := (hS4.cell 3).trans rfl
  have u4 := (hS4.cell 4).trans rfl
  have um := HM.out w4 hN4
  have hlk := HLk.out w4.drew hN4.drew
  have HN4 := Lib.hid hN4; clear hN4
  clear hS4 HN2 HN3 HLk HM
  by_cases hx : (⟨k0, k1, k2, k3, s⟩ : Sl) ∈ M
  · have HE : Hid (mintN M ⟨k0, k1, k2, k3, s⟩ = atN M ⟨k0, k1, k2, k3, s⟩) := if_pos hx
    have HL : Hid (mintL M ⟨k0, k1, k2, k3, s⟩ = M) := if_pos hx
    rw [decide_eq_true hx] at hlk
    obtain ⟨q, hq⟩ : ∃ q, q = atN M ⟨k0, k1, k2, k3, s⟩ := ⟨_, rfl⟩
    rw [← hq] at hlk HE
    clear hq hx
    go_region
    all_goals
      go_wp2_with fail
      go_ret
      rw [HE.out, HL.out]
      exact ⟨rfl, HOr.out _ HN4.out.drew, Chg.of_new HN4.out.drew, own_new HO.out HN4.out.drew⟩
  · have HE : Hid (mintN M ⟨k0, k1, k2, k3, s⟩ = M.length + 1) := if_neg hx
    have HL : Hid (mintL M ⟨k0, k1, k2, k3, s⟩ = M ++ [⟨k0, k1, k2, k3, s⟩]) := if_neg hx
    rw [decide_eq_false hx] at hlk
    have HI := Lib.hid (HIs.out w4.drew HN4.out.drew hx)
    obtain ⟨q, hq⟩ : ∃ q, q = atN M ⟨k0, k1, k2, k3, s⟩ := ⟨_, rfl⟩
    rw [← hq] at hlk
    clear hq hx HIs
    go_region
    all_goals
      go_wp2_with (go_at_call 16; (with_reducible refine HI.out.mono ?_); rintro e w5 ⟨rfl, hO5, hC5, hK5⟩; have HO5 := Lib.hid hO5; have HC5 := Lib.hid hC5; have HK5 := Lib.hid hK5; clear hO5 hC5 hK5)
      go_ret
      rw [HE.out, HL.out]
      exact ⟨rfl, HO5.out, (Chg.of_new HN4.out.drew).trans HC5.out (fun i hi h => by
        obtain ⟨h1, h2⟩ := h
        rw [HN4.out.drew.block i hi (fun f => f)] at h2
        exact ⟨h1, h2⟩), HK5.out⟩
end Go.Proofs.Ytoifcaogcphfhaa
