/-
  Package oracle's Holds, issue and Mint.
-/
import Derived.Test.YtoifcaogcphfhaaOrO
namespace Go.Proofs.Ytoifcaogcphfhaa
open Go.ChangeShapes Go.WideShapes Go.ChangeAt Go.RowKit Go.Maps
theorem look_nil (x : Sl) (hx : SlOk x) (w : World) : (Instr.lookup 25 (.map none) (slV x) true).run Try.prog w = .ok (.tuple #[.int .i64 0, .bool false]) w := by
  obtain ⟨l, hl⟩ := slKey x hx
  rcases law53.find w hl [] (fun e he => by cases he) with ⟨f1, _⟩ | ⟨j, e0, _, f2, _⟩
  · simp [Instr.lookup, run_underlying Try.underlying25, law53.check w _ hl, f1, Try.zero30 w, Result.andThen]
  · simp at f2
theorem bstr_size (bs : List Nat) : (bstr bs).size = bs.length := by simp [bstr, ByteArray.size]
theorem slOk_of {k0 k1 k2 k3 : Int} {bs : List Nat} (h0 : (Lit.int .i64 k0).wf = true) (h1 : (Lit.int .i64 k1).wf = true) (h2 : (Lit.int .i64 k2).wf = true) (h3 : (Lit.int .i64 k3).wf = true) (hb : bs.length ≤ 140737488355328) : SlOk ⟨k0, k1, k2, k3, bstr bs⟩ :=
  ⟨h0, h1, h2, h3, by rw [bstr_size]; simp only [maxLen]; omega⟩
/-- what an oracle answers, the map's value mv -/
theorem Orc.look {w : World} {L : List Sl} {mv : Value} (h : (mv = .map none ∧ L = []) ∨ ∃ b, mv = .map (some b) ∧ Mp w b L) (hL : ∀ y ∈ L, SlOk y) (hd : L.Nodup) (x : Sl) (hx : SlOk x) :
    (Instr.lookup 25 mv (slV x) true).run Try.prog w = .ok (.tuple #[.int .i64 (atN L x : Nat), .bool (decide (x ∈ L))]) w := by
  rcases h with ⟨rfl, rfl⟩ | ⟨b, rfl, h⟩
  · exact look_nil x hx w
  · exact h.look hL hd x hx
def holdsB (L : List Sl) (x : Sl) (t : Int) : Bool := decide (x ∈ L) && ((atN L x : Int) == t)
set_option maxRecDepth 100000 in
set_option maxHeartbeats 2000000 in
theorem Holds_any (base g : Nat) (M : List Sl) (t k0 k1 k2 k3 : Int) (h0 : (Lit.int .i64 k0).wf = true) (h1 : (Lit.int .i64 k1).wf = true) (h2 : (Lit.int .i64 k2).wf = true) (h3 : (Lit.int .i64 k3).wf = true)
    (A : Option Addr) (n c : Nat) (F : Nat → Prop) (L : List (List Nat)) (w : World) (hM : Orc w base g M) (hA : Lists w F A L) (hF : ∀ k, F k → k < w.heap.size) (hn : L.length = n) (hnc : n ≤ c) (hb : n ≤ 2000000) (hT : L.flatten.length ≤ 140737488355328) :
    Calls Try.prog 9 #[.pointer (some ⟨g, 0, none⟩), .int .i64 t, .agg #[.int .i64 k0, .int .i64 k1, .int .i64 k2, .int .i64 k3], .slice A n c] w fun e w' => e = .returned (.bool (holdsB M ⟨k0, k1, k2, k3, bstr L.flatten⟩ t)) ∧ New w w' := by
  have hx : SlOk ⟨k0, k1, k2, k3, bstr L.flatten⟩ := slOk_of h0 h1 h2 h3 hT
  obtain ⟨mv, sv, hH, hgb, hO, hMp, hok, hnd⟩ := hM
  have HS : Hid (∀ wx, New w wx → Calls Try.prog 13 #[.agg #[.int .i64 k0, .int .i64 k1, .int .i64 k2, .int .i64 k3], .slice A n c] wx fun e w' => e = .returned (.agg #[.int .i64 k0, .int .i64 k1, .int .i64 k2, .int .i64 k3, .string (bstr L.flatten)]) ∧ New wx w') := fun wx hx => by
    obtain ⟨vs, hV, hB⟩ := hA
    exact seal_any k0 k1 k2 k3 A n c F L wx ⟨vs, hV.new hx hF, fun i hi => (hB i hi).new hx hF⟩ (fun k hk => Nat.lt_of_lt_of_le (hF k hk) hx.size) hn hnc hb hT
  have HLk : Hid (∀ wx, New w wx → (Instr.lookup 25 mv (.agg #[.int .i64 k0, .int .i64 k1, .int .i64 k2, .int .i64 k3, .string (bstr L.flatten)]) true).run Try.prog wx = .ok (.tuple #[.int .i64 (atN M ⟨k0, k1, k2, k3, bstr L.flatten⟩ : Nat), .bool (decide ((⟨k0, k1, k2, k3, bstr L.flatten⟩ : Sl) ∈ M))]) wx) := fun wx hwx =>
    Orc.look (by rcases hMp with h | ⟨b, e, _, h⟩; exact Or.inl h; exact Or.inr ⟨b, e, h.chg hwx fun f => f⟩) hok hnd ⟨k0, k1, k2, k3, bstr L.flatten⟩ hx
  have HM : Hid (∀ wx, New w wx → wx.cell? ⟨g, 0, none⟩ = some mv) := fun wx hwx => ((hH.keep hwx).cell 0).trans rfl
  obtain ⟨q, hq⟩ : ∃ q : Nat, q = atN M ⟨k0, k1, k2, k3, bstr L.flatten⟩ := ⟨_, rfl⟩
  obtain ⟨bb, hbb⟩ : ∃ bb : Bool, bb = decide ((⟨k0, k1, k2, k3, bstr L.flatten⟩ : Sl) ∈ M) := ⟨_, rfl⟩
  have HR : Hid (holdsB M ⟨k0, k1, k2, k3, bstr L.flatten⟩ t = (bb && ((q : Int) == t))) := by rw [Hid, holdsB, hq, hbb]
  rw [← hq, ← hbb] at HLk
  rw [HR.out]
  clear HR hq hbb hA hF hn hnc hb hT hx hok hnd hMp hO hH h0 h1 h2 h3
  go_enter Try.func9, Try.ntmps9
  go_upto_region 1 with (fail)
  have hN2 : New w (w.alloc (.cells #[.int .i64 k0, .int .i64 k1, .int .i64 k2, .int .i64 k3] 32)) := (Chg.refl _ _).alloc _
  have hK2 := Has.new w 32 #[.int .i64 k0, .int .i64 k1, .int .i64 k2, .int .i64 k3]
  obtain ⟨w2, hw2⟩ : ∃ w2, w2 = w.alloc (.cells #[.int .i64 k0, .int .i64 k1, .int .i64 k2, .int .i64 k3] 32) := ⟨_, rfl⟩
  rw [← hw2] at hN2 hK2 ⊢
  clear hw2
  have u0 := (hK2.cell 0).trans rfl
  have u1 := (hK2.cell 1).trans rfl
  have u2 := (hK2.cell 2).trans rfl
  have u3 := (hK2.cell 3).trans rfl
  have um := HM.out w2 hN2
  have HN2 := Lib.hid hN2; clear hN2
  clear hK2
  go_cut [9, 10] (fun s9 s10 wx => s9 = .int .i64 (q : Int) ∧ s10 = .bool bb ∧ New w wx)
  case first =>
    go_region_law
      (go_simp; go_at_call 13; (with_reducible refine (HS.out _ (HN2.out.then_new (by with_reducible repeat (first | exact Chg.refl _ _ | refine Chg.drew ?_ | refine Chg.alloc ?_ _)))).mono ?_); rintro e w3 ⟨rfl, hN3⟩
       have hM3 : New w w3 := Chg.new_then (HN2.out.then_new (by with_reducible repeat (first | exact Chg.refl _ _ | refine Chg.drew ?_ | refine Chg.alloc ?_ _))) hN3
       have ym := HM.out w3 hM3
       have yl := HLk.out w3 hM3
       have HM3 := Lib.hid hM3
       clear hN3 hM3)
    all_goals
      go_wp2_with fail
      go_meet
      case rel => exact ⟨rfl, rfl, HM3.out⟩
  case rest =>
    obtain ⟨rfl, rfl, hNc⟩ := hcut
    have HNc := Lib.hid hNc; clear hNc
    cases bb
    · go_wp2_with fail
      go_ret
      exact ⟨rfl, HNc.out⟩
    · go_wp2_with fail
      go_ret
      exact ⟨rfl, HNc.out⟩
end Go.Proofs.Ytoifcaogcphfhaa
