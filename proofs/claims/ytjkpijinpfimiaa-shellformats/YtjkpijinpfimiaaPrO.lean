/-
  What the program's Drop does.
-/
import Derived.Test.YtjkpijinpfimiaaPrN
namespace Go.Proofs.Ytjkpijinpfimiaa
open Go.RowKit
/-- what a Store or a Drop tells, and what it makes of the card: E its error, rs its writes, V the view then -/
def ChR (g : Nat) (B : List Nat) (pw : Int) (E : Int) (rs : List Wr) (V : Vw) (w : World) (e : Ending) (w' : World) : Prop :=
  (E ≠ 0 ∧ e = .returned (.tuple #[.agg #[.int .i64 0, .int .i64 0, .int .i64 0, .int .i64 0, .slice none 0 0], .int .i64 E]) ∧ Cd w' g B pw) ∨
  (E = 0 ∧ wrE pw rs.length = 30 ∧ e = .returned (.tuple #[.agg #[.int .i64 0, .int .i64 0, .int .i64 0, .int .i64 0, .slice none 0 0], .int .i64 30]) ∧ Cd w' g (doneI B rs (wrN pw rs.length)) (wrP pw (wrN pw rs.length))) ∨
  (E = 0 ∧ wrE pw rs.length = 0 ∧ (∃ A c, e = .returned (.tuple #[.agg #[.int .i64 V.c, .int .i64 V.u, .int .i64 V.q, .int .i64 V.p, .slice A V.es.length c], .int .i64 0]) ∧ w'.ownsRow w.heap.size 60 4 (.slice A V.es.length c) V.es.length (enRow V.es)) ∧ Cd w' g (doneI B rs (wrN pw rs.length)) (wrP pw (wrN pw rs.length)))
theorem wrR_cases {v : Value} {p : Int} {n : Nat} {e : Ending} (h : WrR v p n e) : ∃ (v' : Value) (x : Int), e = .returned (.tuple #[v', .int .i64 x]) ∧ ((wrE p n = 0 ∧ x = 0 ∧ v' = v) ∨ (wrE p n = 30 ∧ x = 30 ∧ v' = .agg #[.int .i64 0, .int .i64 0, .int .i64 0, .int .i64 0, .slice none 0 0])) := by
  rcases h with ⟨h, rfl⟩ | ⟨h, rfl⟩
  · exact ⟨_, _, rfl, Or.inl ⟨h, rfl, rfl⟩⟩
  · exact ⟨_, _, rfl, Or.inr ⟨h, rfl, rfl⟩⟩
theorem Ents.dropP {w : World} {F : Nat → Prop} {a : Addr} {l : List En} (h : Ents w F (some a) l) (k : Nat) : Ents w F (some (a.add (k * 4))) (l.drop k) := by
  intro j e he
  rw [List.getElem?_drop] at he
  obtain ⟨a', ha, hb, h0, h1, h2, h3⟩ := h (k + j) e he
  cases ha
  have hadd : (a.add (k * 4)).add (j * 4) = a.add ((k + j) * 4) := by rw [add_add]; congr 1; omega
  refine ⟨_, rfl, by rw [add_block]; exact hb, ?_, ?_, ?_, ?_⟩ <;> rw [hadd] <;> assumption
theorem sliceE_behind (a : Addr) (n c j : Nat) (h1 : j < n) (hc : n ≤ c) : ∃ a2 : Addr, (∀ w, (Instr.slice 28 (.slice (some a) n c) (some (.int .i64 ((j : Int) + 1))) none none).run Try.prog w = .ok (.slice (some a2) (n - (j + 1)) (c - (j + 1))) w) ∧ ∀ (w : World) (F : Nat → Prop) (l : List En), l.length = n → Ents w F (some a) l → Ents w F (some a2) (l.drop (j + 1)) := by
  by_cases h : j + 1 < c
  · refine ⟨a.add ((j + 1) * 4), fun w => ?_, fun w F l _ hE => hE.dropP (j + 1)⟩
    exact sliceE_from a n c (j + 1) (by omega) h w
  · refine ⟨a, fun w => ?_, fun w F l hl hE => ?_⟩
    · rw [run_slice_l w 28 (some a) n c (by rw [Try.elems28]; exact Try.underlying28) .i64 _ (by omega) (by omega), Try.elems28, Try.sizeE, Result.andThen_ok]
      unfold sliced
      rw [show ((j : Int) + 1).toNat = j + 1 by omega, if_pos (by omega)]
    · rw [List.drop_of_length_le (by omega)]
      intro t e ht
      simp at ht
theorem ListsE.two {w : World} {F : Nat → Prop} {g : Nat} {t : TypeId} {A B : Option Addr} {n m ca cb : Nat} {a b : List En} (hg : Has w g t #[.slice A n ca, .slice B m cb]) (ha : a.length = n) (hb : b.length = m) (h1 : Ents w F A a) (h2 : Ents w F B b) (n1 : A = none → n = 0 ∧ ca = 0) (n2 : B = none → m = 0 ∧ cb = 0) : ListsE w (fun k => F k ∨ k = g) (some ⟨g, 0, none⟩) [a, b] := by
  subst ha hb
  have hm : ∀ {A : Option Addr} {l : List En}, Ents w F A l → Ents w (fun k => F k ∨ k = g) A l := fun h j e he => by
    obtain ⟨x, hx, hb, r⟩ := h j e he
    exact ⟨x, hx, Or.inl hb, r⟩
  refine ⟨fun i => [Value.slice A a.length ca, Value.slice B b.length cb].getD i undef, fun i hi => ?_, fun i hi => ?_⟩
  · have hadd : (⟨g, 0, none⟩ : Addr).add i = ⟨g, i, none⟩ := by unfold Addr.add; split <;> simp_all
    refine ⟨_, rfl, Or.inr rfl, ?_⟩
    have hi : i < 2 := hi
    rw [hadd, hg.cell i]
    rcases (show i = 0 ∨ i = 1 by omega) with rfl | rfl <;> rfl
  · have hi : i < 2 := hi
    rcases (show i = 0 ∨ i = 1 by omega) with rfl | rfl
    · exact ⟨A, ca, rfl, hm h1, n1⟩
    · exact ⟨B, cb, rfl, hm h2, n2⟩
theorem Rws.one {w : World} {base g : Nat} {t : TypeId} {S : Option Addr} {sc p : Nat} {x : List Nat} (hg : Has w g t #[.int .i64 (p : Int), .slice S 32 sc]) (hx : x.length = 32) (hO : w.ownsRow base 5 1 (.slice S 32 sc) 32 (x.map bV)) : Rws w (fun k => Value.ownBlock (.slice S 32 sc) = some k ∨ k = g) (some ⟨g, 0, none⟩) [(p, x)] := by
  intro j r hr
  have ht : j = 0 := by
    rcases Nat.eq_zero_or_pos j with h | h
    · exact h
    · rw [List.getElem?_eq_none (by simp; omega)] at hr; cases hr
  subst ht
  simp only [List.getElem?_cons_zero, Option.some.injEq] at hr
  subst hr
  exact ⟨⟨g, 0, none⟩, S, sc, rfl, Or.inr rfl, (hg.cell 0).trans rfl, (hg.cell 1).trans rfl, (own_arr_bs hx hO).mono fun k hk => Or.inl hk⟩
/-- the view that is to be: in a block of its own, its entries in new memory -/
def NxR (base : Nat) (w2 : World) (c u q p : Int) (L : List En) (s : Value) (wx : World) : Prop :=
  ∃ (nb : Nat) (E : Option Addr) (m ec : Nat), s = .pointer (some ⟨nb, 0, none⟩) ∧ w2.heap.size ≤ nb ∧ m = L.length ∧ Has wx nb 30 #[.int .i64 c, .int .i64 u, .int .i64 q, .int .i64 p, .slice E m ec] ∧ wx.ownsRow base 60 4 (.slice E m ec) m (enRow L) ∧ New w2 wx
theorem NxR.new {base : Nat} {w2 w4 : World} {c u q p : Int} {L : List En} {E : Option Addr} {m ec : Nat} (hM : New w2 w4) (hm : m = L.length) (hO : w4.ownsRow base 60 4 (.slice E m ec) m (enRow L)) :
    NxR base w2 c u q p L (.pointer (some ⟨w4.heap.size, 0, none⟩)) (w4.alloc (.cells #[.int .i64 c, .int .i64 u, .int .i64 q, .int .i64 p, .slice E m ec] 30)) :=
  ⟨_, E, m, ec, rfl, hM.size, hm, Has.new w4 30 _, own_new hO ((Chg.refl _ _).alloc _), hM.alloc _⟩
theorem NxR.set {base nb : Nat} {w2 w4 : World} {c u q p : Int} {L : List En} {E : Option Addr} {m ec : Nat} (hM : New w2 w4) (hm : m = L.length) (hO : w4.ownsRow base 60 4 (.slice E m ec) m (enRow L)) (hZ : Has w4 nb 30 #[.int .i64 0, .int .i64 0, .int .i64 0, .int .i64 0, .slice none 0 0]) (hnb : w2.heap.size ≤ nb) :
    NxR base w2 c u q p L (.pointer (some ⟨nb, 0, none⟩)) (((((w4.setCell ⟨nb, 0, none⟩ (.int .i64 c)).setCell ⟨nb, 1, none⟩ (.int .i64 u)).setCell ⟨nb, 2, none⟩ (.int .i64 q)).setCell ⟨nb, 3, none⟩ (.int .i64 p)).setCell ⟨nb, 4, none⟩ (.slice E m ec)) := by
  obtain ⟨hX, hGX⟩ := setV hZ (.int .i64 c) (.int .i64 u) (.int .i64 q) (.int .i64 p) (.slice E m ec)
  exact ⟨nb, E, m, ec, rfl, hnb, hm, hX, own_chg hO hGX (fun x hx h => own_apart hO hZ (by decide) (by rw [hx, h])), hM.trans hGX (fun i hi h => by omega)⟩
theorem drL_eq {l : List En} {o i : Int} {j : Nat} (h : atI o i l = j) : drL l o i = [l.take j, l.drop (j + 1)].flatten := by
  unfold drL
  rw [h, Int.toNat_natCast, List.eraseIdx_eq_take_drop_succ]
  simp
set_option maxRecDepth 100000 in
set_option maxHeartbeats 8000000 in
theorem Drop_any (g : Nat) (B : List Nat) (pw : Int) (c u o i : Int) (q p : Nat) (A : Option Addr) (n cc : Nat) (F : Nat → Prop) (l : List En) (w : World) (hC : Cd w g B pw) (hE : Ents w F A l) (hF : ∀ k, F k → k < w.heap.size) (hl : l.length = n) (hnil : A = none → n = 0 ∧ cc = 0) (hcap : n ≤ cc) (hv : Vw.fine ⟨c, u, (q : Int), (p : Int), l⟩) :
    Calls Try.prog 29 #[.pointer (some ⟨g, 0, none⟩), .agg #[.int .i64 c, .int .i64 u, .int .i64 (q : Int), .int .i64 (p : Int), .slice A n cc], .int .i64 o, .int .i64 i] w fun e w' => ChR g B pw (drE ⟨c, u, (q : Int), (p : Int), l⟩ o i) (drR ⟨c, u, (q : Int), (p : Int), l⟩ o i) (nextV ⟨c, u, (q : Int), (p : Int), l⟩ (drL l o i)) w e w' ∧ Chg (· = g) w w' := by
  have HC := Lib.hid hC
  have hgl := hC.lt
  have HE := Lib.hid hE; clear hE
  have HF := Lib.hid hF; clear hF
  have Hl := Lib.hid hl
  have Hnil := Lib.hid hnil; clear hnil
  have Hv := Lib.hid hv
  have hn5 : n ≤ 5 := by rw [← hl]; exact hv.len
  have hq1 : 1 ≤ q := by have := hv.q1; simp only at this; omega
  have hq2 : q ≤ 65535 := by have := hv.q2; simp only at this; omega
  have hp2 : p = 1 ∨ p = 2 := by have := hv.p; simp only at this; omega
  clear hl hv hC
  obtain ⟨vb, hvb⟩ : ∃ vb, vb = w.heap.size := ⟨_, rfl⟩
  obtain ⟨rb, hrb⟩ : ∃ rb, rb = w.heap.size + 1 := ⟨_, rfl⟩
  go_enter Try.func29, Try.ntmps29
  go_upto_region 1 with (fail)
  obtain ⟨w1, hw1⟩ : ∃ w1, w1 = (w.alloc (.cells #[.int .i64 c, .int .i64 u, .int .i64 (q : Int), .int .i64 (p : Int), .slice A n cc] 30)).alloc (.cells #[.int .i64 0, .int .i64 0, .int .i64 0, .int .i64 0, .slice none 0 0] 30) := ⟨_, rfl⟩
  have HV1 : Hid (Has w1 vb 30 #[.int .i64 c, .int .i64 u, .int .i64 (q : Int), .int .i64 (p : Int), .slice A n cc]) := by rw [hw1, hvb]; exact (Has.new w 30 _).alloc _
  have HB1 : Hid (Has w1 rb 30 #[.int .i64 0, .int .i64 0, .int .i64 0, .int .i64 0, .slice none 0 0]) := by rw [hw1, hrb]; exact Has.new_at _ 30 _ _ (by simp)
  have HN1 : Hid (New w w1) := by rw [hw1]; exact ((Chg.refl _ _).alloc _).alloc _
  have Hvr : Hid (vb ≠ rb ∧ w.heap.size ≤ rb ∧ w.heap.size ≤ vb ∧ rb ≠ g ∧ vb ≠ g) := by show _ ∧ _ ∧ _ ∧ _ ∧ _; omega
  rw [← hw1, ← hrb]
  clear hw1 hrb
  rw [← hvb]
  clear hvb
  have v0 : w1.cell? ⟨vb, 0, none⟩ = some (.int .i64 c) := (HV1.out.cell 0).trans rfl
  have v1 : w1.cell? ⟨vb, 1, none⟩ = some (.int .i64 u) := (HV1.out.cell 1).trans rfl
  have v2 : w1.cell? ⟨vb, 2, none⟩ = some (.int .i64 (q : Int)) := (HV1.out.cell 2).trans rfl
  have v3 : w1.cell? ⟨vb, 3, none⟩ = some (.int .i64 (p : Int)) := (HV1.out.cell 3).trans rfl
  have v4 : w1.cell? ⟨vb, 4, none⟩ = some (.slice A n cc) := (HV1.out.cell 4).trans rfl
  go_wp2_with fail
  with_reducible refine (pAt_any c u (q : Int) (p : Int) o i A n cc F l w1 (HE.out.new HN1.out HF.out) (fun k hk => Nat.lt_of_lt_of_le (HF.out k hk) HN1.out.size) Hl.out (by omega)).mono ?_
  rintro e w2 ⟨rfl, hN2⟩
  have HV2 := Lib.hid (HV1.out.keep hN2)
  have HB2 := Lib.hid (HB1.out.keep hN2)
  have HN2 := Lib.hid (HN1.out.then_new hN2)
  clear hN2 v0 v1 v2 v3 v4 HV1 HB1
  have v0 : w2.cell? ⟨vb, 0, none⟩ = some (.int .i64 c) := (HV2.out.cell 0).trans rfl
  have v1 : w2.cell? ⟨vb, 1, none⟩ = some (.int .i64 u) := (HV2.out.cell 1).trans rfl
  have v2 : w2.cell? ⟨vb, 2, none⟩ = some (.int .i64 (q : Int)) := (HV2.out.cell 2).trans rfl
  have v3 : w2.cell? ⟨vb, 3, none⟩ = some (.int .i64 (p : Int)) := (HV2.out.cell 3).trans rfl
  have v4 : w2.cell? ⟨vb, 4, none⟩ = some (.slice A n cc) := (HV2.out.cell 4).trans rfl
  have r0 : w2.cell? ⟨rb, 0, none⟩ = some (.int .i64 0) := (HB2.out.cell 0).trans rfl
  have r1 : w2.cell? ⟨rb, 1, none⟩ = some (.int .i64 0) := (HB2.out.cell 1).trans rfl
  have r2 : w2.cell? ⟨rb, 2, none⟩ = some (.int .i64 0) := (HB2.out.cell 2).trans rfl
  have r3 : w2.cell? ⟨rb, 3, none⟩ = some (.int .i64 0) := (HB2.out.cell 3).trans rfl
  have r4 : w2.cell? ⟨rb, 4, none⟩ = some (.slice none 0 0) := (HB2.out.cell 4).trans rfl
  have z0 := HB2.out.free 0
  have z1 := HB2.out.free 1
  have z2 := HB2.out.free 2
  have z3 := HB2.out.free 3
  have z4 := HB2.out.free 4
  rcases atI_cases o i l with ⟨k1, k2⟩ | ⟨j, f, k1, k2, k3, k4⟩
  · have Hd : Hid (drE ⟨c, u, (q : Int), (p : Int), l⟩ o i = 21) := by show _ = _; unfold drE; rw [show atI o i (Vw.mk c u (q : Int) (p : Int) l).es = -1 from k1, if_pos (by omega)]
    rw [k1]
    clear k1 k2
    go_wp2_with fail
    obtain ⟨hX, hGX⟩ := setV HB2.out (.int .i64 0) (.int .i64 0) (.int .i64 0) (.int .i64 0) (.slice none 0 0)
    generalize (((((w2.setCell ⟨rb, 0, none⟩ (.int .i64 0)).setCell ⟨rb, 1, none⟩ (.int .i64 0)).setCell ⟨rb, 2, none⟩ (.int .i64 0)).setCell ⟨rb, 3, none⟩ (.int .i64 0)).setCell ⟨rb, 4, none⟩ (.slice none 0 0)) = wX at hX hGX ⊢
    have g0 := (hX.cell 0).trans rfl
    have g1 := (hX.cell 1).trans rfl
    have g2 := (hX.cell 2).trans rfl
    have g3 := (hX.cell 3).trans rfl
    have g4 := (hX.cell 4).trans rfl
    refine bodyPost_ret (v := .tuple #[.agg #[.int .i64 0, .int .i64 0, .int .i64 0, .int .i64 0, .slice none 0 0], .int .i64 21]) (by simp [results, Try.results29, go_sem, g0, g1, g2, g3, g4]) rfl ?_
    rw [Hd.out]
    exact ⟨Or.inl ⟨by decide, rfl, (HC.out.new HN2.out).chg hGX Hvr.out.2.2.2.1.symm⟩, (Chg.of_new HN2.out).trans hGX (fun i hi h => by have := Hvr.out; omega)⟩
  · have hjn : j < n := by rw [← Hl.out]; exact (List.getElem?_eq_some_iff.1 k2).1
    obtain ⟨a, rfl⟩ : ∃ a, A = some a := by
      obtain ⟨a, ha, _⟩ := HE.out j f k2
      exact ⟨a, ha⟩
    have Hat : Hid (atI o i l = j) := k1
    rw [k1]
    clear k1 k2 k3 k4
    by_cases hq : 65535 ≤ q
    · have Hd : Hid (drE ⟨c, u, (q : Int), (p : Int), l⟩ o i = 29) := by show _ = _; unfold drE; rw [show atI o i (Vw.mk c u (q : Int) (p : Int) l).es = j from Hat.out, if_neg (by omega), if_pos (by simp only; omega)]
      have tq : decide (65535 ≤ (q : Int)) = true := by simp only [decide_eq_true_eq]; omega
      clear hq
      go_wp2_with fail
      obtain ⟨hX, hGX⟩ := setV HB2.out (.int .i64 0) (.int .i64 0) (.int .i64 0) (.int .i64 0) (.slice none 0 0)
      generalize (((((w2.setCell ⟨rb, 0, none⟩ (.int .i64 0)).setCell ⟨rb, 1, none⟩ (.int .i64 0)).setCell ⟨rb, 2, none⟩ (.int .i64 0)).setCell ⟨rb, 3, none⟩ (.int .i64 0)).setCell ⟨rb, 4, none⟩ (.slice none 0 0)) = wX at hX hGX ⊢
      have g0 := (hX.cell 0).trans rfl
      have g1 := (hX.cell 1).trans rfl
      have g2 := (hX.cell 2).trans rfl
      have g3 := (hX.cell 3).trans rfl
      have g4 := (hX.cell 4).trans rfl
      refine bodyPost_ret (v := .tuple #[.agg #[.int .i64 0, .int .i64 0, .int .i64 0, .int .i64 0, .slice none 0 0], .int .i64 29]) (by simp [results, Try.results29, go_sem, g0, g1, g2, g3, g4]) rfl ?_
      rw [Hd.out]
      exact ⟨Or.inl ⟨by decide, rfl, (HC.out.new HN2.out).chg hGX Hvr.out.2.2.2.1.symm⟩, (Chg.of_new HN2.out).trans hGX (fun i hi h => by have := Hvr.out; omega)⟩
    · have Hd : Hid (drE ⟨c, u, (q : Int), (p : Int), l⟩ o i = 0) := by show _ = _; unfold drE; rw [show atI o i (Vw.mk c u (q : Int) (p : Int) l).es = j from Hat.out, if_neg (by omega), if_neg (by simp only; omega)]
      have tq : decide (65535 ≤ (q : Int)) = false := by simp only [decide_eq_false_iff_not]; omega
      obtain ⟨q', hq'⟩ : ∃ q', q' = q + 1 := ⟨_, rfl⟩
      obtain ⟨p', hp'⟩ : ∃ p', p' = 3 - p := ⟨_, rfl⟩
      have fq : (q : Int) + 1 = (q' : Int) := by omega
      have fp : 3 - (p : Int) = (p' : Int) := by omega
      have hq'' : q' ≤ 65535 := by omega
      obtain ⟨L, hL⟩ : ∃ L, L = drL l o i := ⟨_, rfl⟩
      have HLf : Hid (L = [l.take j, l.drop (j + 1)].flatten) := by show _ = _; rw [hL]; exact drL_eq Hat.out
      have HSnd : Hid (Sound L ∧ L.length ≤ 5) := by rw [hL]; exact drL_fine Hv.out.sound Hv.out.len
      have HR : Hid (drR ⟨c, u, (q : Int), (p : Int), l⟩ o i = [(p', sectorB (listB q' L))]) := by
        show _ = _
        unfold drR dirR
        rw [← hL]
        simp only
        rw [show (3 - (p : Int)).toNat = p' by omega, show ((q : Int) + 1).toNat = q' by omega]
      have HNV : Hid (nextV ⟨c, u, (q : Int), (p : Int), l⟩ (drL l o i) = ⟨c, u, (q' : Int), (p' : Int), L⟩) := by
        show _ = _
        unfold nextV
        simp only
        rw [fq, fp, ← hL]
      have HWf : Hid (∀ r ∈ [((p', sectorB (listB q' L)) : Wr)], Wr.fine r) := by rw [← HR.out]; exact drR_fine Hv.out Hd.out
      have HNx : Hid (∀ (wx : World) (E : Option Addr) (en ec : Nat), Calls Try.prog 54 #[.agg #[.int .i64 c, .int .i64 u, .int .i64 (q : Int), .int .i64 (p : Int), .slice (some a) n cc], .slice E en ec] wx fun e w' => e = .returned (.agg #[.int .i64 c, .int .i64 u, .int .i64 (q' : Int), .int .i64 (p' : Int), .slice E en ec]) ∧ New wx w') := by
        intro wx E en ec
        rw [← fq, ← fp]
        exact next_any c u (q : Int) p (some a) n cc E en ec wx hp2 (by omega)
      obtain ⟨a2, hs2, hE2⟩ := sliceE_behind a n cc j hjn hcap
      have hs1 : ∀ wy, (Instr.slice 28 (.slice (some a) n cc) none (some (.int .i64 (j : Int))) none).run Try.prog wy = .ok (.slice (some a) j cc) wy := fun wy => sliceE_to a n cc j (by omega) wy
      have HCat : Hid (∀ (wx : World) (b : Nat), New w wx → Has wx b 28 #[.slice (some a) j cc, .slice (some a2) (n - (j + 1)) (cc - (j + 1))] → Calls Try.prog 55 #[.slice (some ⟨b, 0, none⟩) 2 2] wx fun e w' => ∃ A' m c', e = .returned (.slice A' m c') ∧ m = L.length ∧ w'.ownsRow w.heap.size 60 4 (.slice A' m c') m (enRow L) ∧ New wx w') := by
        intro wx b hx hb
        have hEx := HE.out.new hx HF.out
        refine (ConcatE_any (some ⟨b, 0, none⟩) 2 2 _ [l.take j, l.drop (j + 1)] wx (ListsE.two hb (by rw [List.length_take, Hl.out]; omega) (by rw [List.length_drop, Hl.out]) (hEx.takeP j) (hE2 wx F l Hl.out hEx) (fun h => by cases h) (fun h => by cases h)) (fun k hk => by rcases hk with hk | hk; exact Nat.lt_of_lt_of_le (HF.out k hk) hx.size; rw [hk]; exact hb.lt) rfl (by omega) (by rw [← HLf.out]; have := HSnd.out.2; omega)).mono ?_
        rintro e w' ⟨A', m, c', rfl, hm, hO, hN⟩
        rw [← HLf.out] at hm hO
        exact ⟨A', m, c', rfl, hm, own_base hO (fun k hk => Nat.le_trans hx.size (hO.lt k hk).1), hN⟩
      have f1 : IntKind.i64.wrap ((j : Int) + 1) = (j : Int) + 1 := IntWalk.i64_in _ (by omega)
      clear hq' hp' hL hq fq fp hE2
      go_upto_region 8 with (fail)
      have Hvl : Hid (¬ w2.heap.size ≤ vb) := by have := HV2.out.lt; show ¬ _; omega
      have HK : Hid (∀ wx, Chg (fun k => w2.heap.size ≤ k) w2 wx → wx.cell? ⟨vb, 0, none⟩ = some (.int .i64 c) ∧ wx.cell? ⟨vb, 1, none⟩ = some (.int .i64 u) ∧ wx.cell? ⟨vb, 2, none⟩ = some (.int .i64 (q : Int)) ∧ wx.cell? ⟨vb, 3, none⟩ = some (.int .i64 (p : Int)) ∧ wx.cell? ⟨vb, 4, none⟩ = some (.slice (some a) n cc)) := fun wx hx =>
        ⟨((HV2.out.chg hx Hvl.out).cell 0).trans rfl, ((HV2.out.chg hx Hvl.out).cell 1).trans rfl, ((HV2.out.chg hx Hvl.out).cell 2).trans rfl, ((HV2.out.chg hx Hvl.out).cell 3).trans rfl, ((HV2.out.chg hx Hvl.out).cell 4).trans rfl⟩
      clear r0 r1 r2 r3 r4 z0 z1 z2 z3 z4 tq
      go_cut [11] (fun s11 wx => NxR w.heap.size w2 c u (q' : Int) (p' : Int) L s11 wx)
      case first =>
       go_region_held_law (fun wx => wx.cell? ⟨vb, 0, none⟩ = some (.int .i64 c) ∧ wx.cell? ⟨vb, 1, none⟩ = some (.int .i64 u) ∧ wx.cell? ⟨vb, 2, none⟩ = some (.int .i64 (q : Int)) ∧ wx.cell? ⟨vb, 3, none⟩ = some (.int .i64 (p : Int)) ∧ wx.cell? ⟨vb, 4, none⟩ = some (.slice (some a) n cc))
         (first
           | (with_reducible refine HK4.out _ ?_; with_reducible repeat (first | exact Chg.refl _ _ | refine Chg.drew ?_ | refine Chg.alloc ?_ _ | refine Chg.setCell ?_ (fun _ => by first | omega | (dsimp only; omega)) _))
           | (with_reducible refine HK3.out _ ?_; with_reducible repeat (first | exact Chg.refl _ _ | refine Chg.drew ?_ | refine Chg.alloc ?_ _ | refine Chg.setCell ?_ (fun _ => by first | omega | (dsimp only; omega)) _))
           | (with_reducible refine HK.out _ ?_; with_reducible repeat (first | exact Chg.refl _ _ | refine Chg.drew ?_ | refine Chg.alloc ?_ _ | refine Chg.setCell ?_ (fun _ => by first | omega | (dsimp only; omega)) _)))
         (first
           | (go_at_call 54; (with_reducible refine (HNx.out (w3.alloc (.cells #[.int .i64 0, .int .i64 0, .int .i64 0, .int .i64 0, .slice none 0 0] 30)) A3 m3 c3).mono ?_); rintro e w4 ⟨rfl, hN4⟩
              have hM4 : New w2 w4 := (HM3.out.then_new (by with_reducible repeat (first | exact Chg.refl _ _ | refine Chg.alloc ?_ _ | refine Chg.drew ?_))).then_new hN4
              have HM4 := Lib.hid hM4
              have HO4 := Lib.hid (own_new (own_new HO3.out (by with_reducible repeat (first | exact Chg.refl _ _ | refine Chg.alloc ?_ _ | refine Chg.drew ?_))) hN4)
              have hZ4 := (Has.new w3 30 #[.int .i64 0, .int .i64 0, .int .i64 0, .int .i64 0, .slice none 0 0]).keep hN4
              have zc0 := (hZ4.cell 0).trans rfl
              have zf0 := hZ4.free 0
              have zc1 := (hZ4.cell 1).trans rfl
              have zf1 := hZ4.free 1
              have zc2 := (hZ4.cell 2).trans rfl
              have zf2 := hZ4.free 2
              have zc3 := (hZ4.cell 3).trans rfl
              have zf3 := hZ4.free 3
              have zc4 := (hZ4.cell 4).trans rfl
              have zf4 := hZ4.free 4
              have HZ4 := Lib.hid hZ4
              clear hZ4
              have HK4 : Hid (∀ wx, Chg (fun k => w2.heap.size ≤ k) w4 wx → wx.cell? ⟨vb, 0, none⟩ = some (.int .i64 c) ∧ wx.cell? ⟨vb, 1, none⟩ = some (.int .i64 u) ∧ wx.cell? ⟨vb, 2, none⟩ = some (.int .i64 (q : Int)) ∧ wx.cell? ⟨vb, 3, none⟩ = some (.int .i64 (p : Int)) ∧ wx.cell? ⟨vb, 4, none⟩ = some (.slice (some a) n cc)) := fun wx hx => HK.out wx ((Chg.of_new hM4).trans hx (fun i _ h => h))
              clear hN4 hM4)
           | (go_at_call 54; (with_reducible refine (HNx.out w3 A3 m3 c3).mono ?_); rintro e w4 ⟨rfl, hN4⟩
              have hM4 : New w2 w4 := (HM3.out.then_new (by with_reducible repeat (first | exact Chg.refl _ _ | refine Chg.alloc ?_ _ | refine Chg.drew ?_))).then_new hN4
              have HM4 := Lib.hid hM4
              have HO4 := Lib.hid (own_new (own_new HO3.out (by with_reducible repeat (first | exact Chg.refl _ _ | refine Chg.alloc ?_ _ | refine Chg.drew ?_))) hN4)
              have hZ4 := HZ3.out.keep hN4
              have zc0 := (hZ4.cell 0).trans rfl
              have zf0 := hZ4.free 0
              have zc1 := (hZ4.cell 1).trans rfl
              have zf1 := hZ4.free 1
              have zc2 := (hZ4.cell 2).trans rfl
              have zf2 := hZ4.free 2
              have zc3 := (hZ4.cell 3).trans rfl
              have zf3 := hZ4.free 3
              have zc4 := (hZ4.cell 4).trans rfl
              have zf4 := hZ4.free 4
              have HZ4 := Lib.hid hZ4
              clear hZ4
              have HK4 : Hid (∀ wx, Chg (fun k => w2.heap.size ≤ k) w4 wx → wx.cell? ⟨vb, 0, none⟩ = some (.int .i64 c) ∧ wx.cell? ⟨vb, 1, none⟩ = some (.int .i64 u) ∧ wx.cell? ⟨vb, 2, none⟩ = some (.int .i64 (q : Int)) ∧ wx.cell? ⟨vb, 3, none⟩ = some (.int .i64 (p : Int)) ∧ wx.cell? ⟨vb, 4, none⟩ = some (.slice (some a) n cc)) := fun wx hx => HK.out wx ((Chg.of_new hM4).trans hx (fun i _ h => h))
              clear hN4 hM4)
           | (go_at_call 54; (with_reducible refine (HNx.out w3 A3 m3 c3).mono ?_); rintro e w4 ⟨rfl, hN4⟩
              have hM4 : New w2 w4 := (HM3.out.then_new (by with_reducible repeat (first | exact Chg.refl _ _ | refine Chg.alloc ?_ _ | refine Chg.drew ?_))).then_new hN4
              have HM4 := Lib.hid hM4
              have HO4 := Lib.hid (own_new (own_new HO3.out (by with_reducible repeat (first | exact Chg.refl _ _ | refine Chg.alloc ?_ _ | refine Chg.drew ?_))) hN4)
              have HK4 : Hid (∀ wx, Chg (fun k => w2.heap.size ≤ k) w4 wx → wx.cell? ⟨vb, 0, none⟩ = some (.int .i64 c) ∧ wx.cell? ⟨vb, 1, none⟩ = some (.int .i64 u) ∧ wx.cell? ⟨vb, 2, none⟩ = some (.int .i64 (q : Int)) ∧ wx.cell? ⟨vb, 3, none⟩ = some (.int .i64 (p : Int)) ∧ wx.cell? ⟨vb, 4, none⟩ = some (.slice (some a) n cc)) := fun wx hx => HK.out wx ((Chg.of_new hM4).trans hx (fun i _ h => h))
              clear hN4 hM4)
           | (go_simp; go_at_call 55; (with_reducible refine (HCat.out (w2.alloc (.cells #[.slice (some a) j cc, .slice (some a2) (n - (j + 1)) (cc - (j + 1))] 28)).drew w2.heap.size (HN2.out.then_new (by with_reducible repeat (first | exact Chg.refl _ _ | refine Chg.alloc ?_ _ | refine Chg.drew ?_))) (by (with_reducible repeat (first | exact Has.new_at _ _ _ _ rfl | exact Has.new_at _ _ _ _ (World.size_alloc _ _) | refine Has.drew ?_ | refine Has.alloc ?_ _)))).mono ?_); rintro e w3 ⟨A3, m3, c3, rfl, hm3, hO3, hN3⟩
              have hM3 : New w2 w3 := Chg.then_new (S := fun _ => False) (by with_reducible repeat (first | exact Chg.refl _ _ | refine Chg.alloc ?_ _ | refine Chg.drew ?_)) hN3
              have HM3 := Lib.hid hM3
              have hs3 : w2.heap.size ≤ w3.heap.size := hM3.size
              have HO3 := Lib.hid hO3
              have Hm3 := Lib.hid hm3
              have HK3 : Hid (∀ wx, Chg (fun k => w2.heap.size ≤ k) w3 wx → wx.cell? ⟨vb, 0, none⟩ = some (.int .i64 c) ∧ wx.cell? ⟨vb, 1, none⟩ = some (.int .i64 u) ∧ wx.cell? ⟨vb, 2, none⟩ = some (.int .i64 (q : Int)) ∧ wx.cell? ⟨vb, 3, none⟩ = some (.int .i64 (p : Int)) ∧ wx.cell? ⟨vb, 4, none⟩ = some (.slice (some a) n cc)) := fun wx hx => HK.out wx ((Chg.of_new hM3).trans hx (fun i _ h => h))
              clear hm3 hO3 hN3 hM3)
           | (go_simp; go_at_call 55; (with_reducible refine (HCat.out ((w2.alloc (.cells #[.slice (some a) j cc, .slice (some a2) (n - (j + 1)) (cc - (j + 1))] 28)).alloc (.cells #[.int .i64 0, .int .i64 0, .int .i64 0, .int .i64 0, .slice none 0 0] 30)).drew w2.heap.size (HN2.out.then_new (by with_reducible repeat (first | exact Chg.refl _ _ | refine Chg.alloc ?_ _ | refine Chg.drew ?_))) (by (with_reducible repeat (first | exact Has.new_at _ _ _ _ rfl | exact Has.new_at _ _ _ _ (World.size_alloc _ _) | refine Has.drew ?_ | refine Has.alloc ?_ _)))).mono ?_); rintro e w3 ⟨A3, m3, c3, rfl, hm3, hO3, hN3⟩
              have hM3 : New w2 w3 := Chg.then_new (S := fun _ => False) (by with_reducible repeat (first | exact Chg.refl _ _ | refine Chg.alloc ?_ _ | refine Chg.drew ?_)) hN3
              have HM3 := Lib.hid hM3
              have hs3 : w2.heap.size ≤ w3.heap.size := hM3.size
              have HO3 := Lib.hid hO3
              have Hm3 := Lib.hid hm3
              have hZ3 := (Has.new_at (w2.alloc (.cells #[.slice (some a) j cc, .slice (some a2) (n - (j + 1)) (cc - (j + 1))] 28)) 30 #[.int .i64 0, .int .i64 0, .int .i64 0, .int .i64 0, .slice none 0 0] (w2.heap.size + 1) (World.size_alloc _ _)).drew.keep hN3
              have HZ3 := Lib.hid hZ3
              clear hZ3
              have HK3 : Hid (∀ wx, Chg (fun k => w2.heap.size ≤ k) w3 wx → wx.cell? ⟨vb, 0, none⟩ = some (.int .i64 c) ∧ wx.cell? ⟨vb, 1, none⟩ = some (.int .i64 u) ∧ wx.cell? ⟨vb, 2, none⟩ = some (.int .i64 (q : Int)) ∧ wx.cell? ⟨vb, 3, none⟩ = some (.int .i64 (p : Int)) ∧ wx.cell? ⟨vb, 4, none⟩ = some (.slice (some a) n cc)) := fun wx hx => HK.out wx ((Chg.of_new hM3).trans hx (fun i _ h => h))
              clear hm3 hO3 hN3 hM3)
           | (go_simp; go_at_call 55; (with_reducible refine (HCat.out ((w2.alloc (.cells #[.int .i64 0, .int .i64 0, .int .i64 0, .int .i64 0, .slice none 0 0] 30)).alloc (.cells #[.slice (some a) j cc, .slice (some a2) (n - (j + 1)) (cc - (j + 1))] 28)).drew (w2.heap.size + 1) (HN2.out.then_new (by with_reducible repeat (first | exact Chg.refl _ _ | refine Chg.alloc ?_ _ | refine Chg.drew ?_))) (by (with_reducible repeat (first | exact Has.new_at _ _ _ _ rfl | exact Has.new_at _ _ _ _ (World.size_alloc _ _) | refine Has.drew ?_ | refine Has.alloc ?_ _)))).mono ?_); rintro e w3 ⟨A3, m3, c3, rfl, hm3, hO3, hN3⟩
              have hM3 : New w2 w3 := Chg.then_new (S := fun _ => False) (by with_reducible repeat (first | exact Chg.refl _ _ | refine Chg.alloc ?_ _ | refine Chg.drew ?_)) hN3
              have HM3 := Lib.hid hM3
              have hs3 : w2.heap.size ≤ w3.heap.size := hM3.size
              have HO3 := Lib.hid hO3
              have Hm3 := Lib.hid hm3
              have hZ3 := ((Has.new w2 30 #[.int .i64 0, .int .i64 0, .int .i64 0, .int .i64 0, .slice none 0 0]).alloc (.cells #[.slice (some a) j cc, .slice (some a2) (n - (j + 1)) (cc - (j + 1))] 28)).drew.keep hN3
              have HZ3 := Lib.hid hZ3
              clear hZ3
              have HK3 : Hid (∀ wx, Chg (fun k => w2.heap.size ≤ k) w3 wx → wx.cell? ⟨vb, 0, none⟩ = some (.int .i64 c) ∧ wx.cell? ⟨vb, 1, none⟩ = some (.int .i64 u) ∧ wx.cell? ⟨vb, 2, none⟩ = some (.int .i64 (q : Int)) ∧ wx.cell? ⟨vb, 3, none⟩ = some (.int .i64 (p : Int)) ∧ wx.cell? ⟨vb, 4, none⟩ = some (.slice (some a) n cc)) := fun wx hx => HK.out wx ((Chg.of_new hM3).trans hx (fun i _ h => h))
              clear hm3 hO3 hN3 hM3))
       all_goals
         go_wp2_with fail
         go_meet
         case rel => first | (with_reducible exact NxR.new HM4.out Hm3.out HO4.out) | (with_reducible exact NxR.set HM4.out Hm3.out HO4.out HZ4.out (by first | exact hs3 | omega))
      case rest =>
      obtain ⟨nb, E, m, ec, rfl, hnb, hm, hV3, hO3, hN3⟩ := hcut
      subst hm
      have HV3 := Lib.hid hV3
      have HO3 := Lib.hid hO3
      have HM3 := Lib.hid hN3
      have HN3 := Lib.hid (HN2.out.then_new hN3)
      have HB3 := Lib.hid (HB2.out.keep hN3)
      have Hnb : Hid (nb ≠ rb ∧ w.heap.size ≤ nb ∧ nb ≠ g) := by have := HB2.out.lt; have := HN2.out.size; show _ ∧ _ ∧ _; omega
      clear hV3 hO3 hN3 v0 v1 v2 v3 v4 hs1 hs2 f1 HCat HNx HK
      have HSc : Hid (∀ wx, New wc wx → Calls Try.prog 57 #[.agg #[.int .i64 c, .int .i64 u, .int .i64 (q' : Int), .int .i64 (p' : Int), .slice E L.length ec]] wx fun e w' => ∃ S sc, e = .returned (.agg #[.int .i64 (p' : Int), .slice S 32 sc]) ∧ w'.ownsRow w.heap.size 5 1 (.slice S 32 sc) 32 ((sectorB (listB q' L)).map bV) ∧ New wx w') := fun wx hx => by
        have hO := own_new HO3.out hx
        refine (sector_any c u (p' : Int) q' E L.length ec _ L wx (Ents.of_own hO) (own_below hO) rfl HSnd.out.2 hq'' HSnd.out.1.1).mono ?_
        rintro e w' ⟨S, sc, rfl, hS, hN⟩
        exact ⟨S, sc, rfl, own_base hS (fun k hk => Nat.le_trans (Nat.le_trans HN3.out.size hx.size) (hS.lt k hk).1), hN⟩
      have HW : Hid (∀ (wx : World) (b : Nat) (S : Option Addr) (sc : Nat), New w wx → w.heap.size ≤ b → Has wx b 95 #[.int .i64 (p' : Int), .slice S 32 sc] → wx.ownsRow w.heap.size 5 1 (.slice S 32 sc) 32 ((sectorB (listB q' L)).map bV) → Calls Try.prog 56 #[.pointer (some ⟨g, 0, none⟩), .agg #[.int .i64 c, .int .i64 u, .int .i64 (q' : Int), .int .i64 (p' : Int), .slice E L.length ec], .slice (some ⟨b, 0, none⟩) 1 1] wx fun e w' => ∃ (y0 y1 y2 y3 : Int) (Y : Option Addr) (yn yc : Nat) (x : Int), e = .returned (.tuple #[.agg #[.int .i64 y0, .int .i64 y1, .int .i64 y2, .int .i64 y3, .slice Y yn yc], .int .i64 x]) ∧ ((wrE pw 1 = 0 ∧ x = 0 ∧ Value.agg #[.int .i64 y0, .int .i64 y1, .int .i64 y2, .int .i64 y3, .slice Y yn yc] = .agg #[.int .i64 c, .int .i64 u, .int .i64 (q' : Int), .int .i64 (p' : Int), .slice E L.length ec]) ∨ (wrE pw 1 = 30 ∧ x = 30 ∧ Value.agg #[.int .i64 y0, .int .i64 y1, .int .i64 y2, .int .i64 y3, .slice Y yn yc] = .agg #[.int .i64 0, .int .i64 0, .int .i64 0, .int .i64 0, .slice none 0 0])) ∧ Cd w' g (doneI B [((p', sectorB (listB q' L)) : Wr)] (wrN pw 1)) (wrP pw (wrN pw 1)) ∧ Chg (· = g) wx w') := by
        intro wx b S sc hx hb hB hS
        refine (written_any g B pw (some ⟨b, 0, none⟩) 1 1 _ [((p', sectorB (listB q' L)) : Wr)] c u (q' : Int) (p' : Int) E L.length ec wx (HC.out.new hx) (Rws.one hB (sector_len _) hS) (fun k hk => by rcases hk with hk | hk; exact ⟨by have := (hS.lt k hk).1; omega, (hS.lt k hk).2⟩; rw [hk]; exact ⟨by omega, hB.lt⟩) rfl (by omega) HWf.out).mono ?_
        rintro e w' ⟨hr, hC', hG'⟩
        rcases hr with ⟨h, rfl⟩ | ⟨h, rfl⟩
        · exact ⟨_, _, _, _, _, _, _, _, rfl, Or.inl ⟨h, rfl, rfl⟩, hC', hG'⟩
        · exact ⟨_, _, _, _, _, _, _, _, rfl, Or.inr ⟨h, rfl, rfl⟩, hC', hG'⟩
      have v0 : wc.cell? ⟨nb, 0, none⟩ = some (.int .i64 c) := (HV3.out.cell 0).trans rfl
      have v1 : wc.cell? ⟨nb, 1, none⟩ = some (.int .i64 u) := (HV3.out.cell 1).trans rfl
      have v2 : wc.cell? ⟨nb, 2, none⟩ = some (.int .i64 (q' : Int)) := (HV3.out.cell 2).trans rfl
      have v3 : wc.cell? ⟨nb, 3, none⟩ = some (.int .i64 (p' : Int)) := (HV3.out.cell 3).trans rfl
      have v4 : wc.cell? ⟨nb, 4, none⟩ = some (.slice E L.length ec) := (HV3.out.cell 4).trans rfl
      have HK : Hid (∀ wx, Chg (fun k => k = g ∨ k = rb) wc wx → wx.cell? ⟨nb, 0, none⟩ = some (.int .i64 c) ∧ wx.cell? ⟨nb, 1, none⟩ = some (.int .i64 u) ∧ wx.cell? ⟨nb, 2, none⟩ = some (.int .i64 (q' : Int)) ∧ wx.cell? ⟨nb, 3, none⟩ = some (.int .i64 (p' : Int)) ∧ wx.cell? ⟨nb, 4, none⟩ = some (.slice E L.length ec)) := fun wx hx => by
        have h := HV3.out.chg hx (fun h => by have := Hnb.out; omega)
        exact ⟨(h.cell 0).trans rfl, (h.cell 1).trans rfl, (h.cell 2).trans rfl, (h.cell 3).trans rfl, (h.cell 4).trans rfl⟩
      go_upto_region 9 with (fail)
      go_region_held_law (fun wx => wx.cell? ⟨nb, 0, none⟩ = some (.int .i64 c) ∧ wx.cell? ⟨nb, 1, none⟩ = some (.int .i64 u) ∧ wx.cell? ⟨nb, 2, none⟩ = some (.int .i64 (q' : Int)) ∧ wx.cell? ⟨nb, 3, none⟩ = some (.int .i64 (p' : Int)) ∧ wx.cell? ⟨nb, 4, none⟩ = some (.slice E L.length ec))
        (first
          | (with_reducible refine HK6.out _ ?_; with_reducible repeat (first | exact Chg.refl _ _ | refine Chg.drew ?_ | refine Chg.setCell (S := (· = rb)) ?_ (fun _ => by dsimp only) _))
          | (with_reducible refine HK5.out _ ?_; with_reducible repeat (first | exact Chg.refl _ _ | refine Chg.drew ?_ | refine Chg.alloc ?_ _))
          | (with_reducible refine HK.out _ ?_; with_reducible repeat (first | exact Chg.refl _ _ | refine Chg.drew ?_ | refine Chg.alloc ?_ _)))
        (first
          | (go_simp; go_at_call 56; (with_reducible refine (HW.out (w5.alloc (.cells #[.int .i64 (p' : Int), .slice S 32 sc] 95)) w5.heap.size S sc (HN5.out.alloc _) HN5.out.size (Has.new w5 95 _) (own_new HS5.out ((Chg.refl _ _).alloc _))).mono ?_); rintro e w6 ⟨y0, y1, y2, y3, Y, yn, yc, x, rfl, hcs, hC6, hG6⟩
             have Hcs := Lib.hid hcs
             have HC6 := Lib.hid hC6
             have hM6 : Chg (· = g) wc w6 := (Chg.of_new (HM5.out.alloc (.cells #[.int .i64 (p' : Int), .slice S 32 sc] 95))).trans hG6 (fun _ _ h => h)
             have HG6 : Hid (Chg (· = g) w w6) := Chg.new_then HN3.out hM6
             have hB6 := HB3.out.chg hM6 Hvr.out.2.2.2.1
             have HO6 := Lib.hid (own_chg HO3.out hM6 (fun k hk h => own_apart HO3.out (HC.out.new HN3.out).has (by decide) (by rw [hk, h])))
             have HK6 : Hid (∀ wx, Chg (· = rb) w6 wx → wx.cell? ⟨nb, 0, none⟩ = some (.int .i64 c) ∧ wx.cell? ⟨nb, 1, none⟩ = some (.int .i64 u) ∧ wx.cell? ⟨nb, 2, none⟩ = some (.int .i64 (q' : Int)) ∧ wx.cell? ⟨nb, 3, none⟩ = some (.int .i64 (p' : Int)) ∧ wx.cell? ⟨nb, 4, none⟩ = some (.slice E L.length ec)) := fun wx hx => HK.out wx ((hM6.mono fun _ _ h => Or.inl h).trans hx (fun _ _ h => Or.inr h))
             have r0 := (hB6.cell 0).trans rfl
             have r1 := (hB6.cell 1).trans rfl
             have r2 := (hB6.cell 2).trans rfl
             have r3 := (hB6.cell 3).trans rfl
             have r4 := (hB6.cell 4).trans rfl
             have z0 := hB6.free 0
             have z1 := hB6.free 1
             have z2 := hB6.free 2
             have z3 := hB6.free 3
             have z4 := hB6.free 4
             have HB6 := Lib.hid hB6
             clear hcs hC6 hG6 hM6 hB6)
          | (go_at_call 57; (with_reducible refine (HSc.out wc.drew ((Chg.refl _ _).drew)).mono ?_); rintro e w5 ⟨S, sc, rfl, hS5, hN5⟩
             have hM5 : New wc w5 := Chg.then_new (S := fun _ => False) ((Chg.refl _ _).drew) hN5
             have HM5 := Lib.hid hM5
             have HN5 := Lib.hid (HN3.out.then_new hM5)
             have HS5 := Lib.hid hS5
             have HK5 : Hid (∀ wx, New w5 wx → wx.cell? ⟨nb, 0, none⟩ = some (.int .i64 c) ∧ wx.cell? ⟨nb, 1, none⟩ = some (.int .i64 u) ∧ wx.cell? ⟨nb, 2, none⟩ = some (.int .i64 (q' : Int)) ∧ wx.cell? ⟨nb, 3, none⟩ = some (.int .i64 (p' : Int)) ∧ wx.cell? ⟨nb, 4, none⟩ = some (.slice E L.length ec)) := fun wx hx => HK.out wx (Chg.of_new (hM5.then_new hx))
             clear hS5 hN5 hM5))
      all_goals
        go_wp2_with fail
        obtain ⟨hX, hGX⟩ := setV HB6.out (.int .i64 y0) (.int .i64 y1) (.int .i64 y2) (.int .i64 y3) (.slice Y yn yc)
        generalize (((((w6.setCell ⟨rb, 0, none⟩ (.int .i64 y0)).setCell ⟨rb, 1, none⟩ (.int .i64 y1)).setCell ⟨rb, 2, none⟩ (.int .i64 y2)).setCell ⟨rb, 3, none⟩ (.int .i64 y3)).setCell ⟨rb, 4, none⟩ (.slice Y yn yc)) = wX at hX hGX ⊢
        have g0 := (hX.cell 0).trans rfl
        have g1 := (hX.cell 1).trans rfl
        have g2 := (hX.cell 2).trans rfl
        have g3 := (hX.cell 3).trans rfl
        have g4 := (hX.cell 4).trans rfl
        refine bodyPost_ret (v := .tuple #[.agg #[.int .i64 y0, .int .i64 y1, .int .i64 y2, .int .i64 y3, .slice Y yn yc], .int .i64 x]) (by simp [results, Try.results29, go_sem, g0, g1, g2, g3, g4]) rfl ?_
        have hCX := HC6.out.chg hGX Hvr.out.2.2.2.1.symm
        have hOX := own_chg HO6.out hGX (fun k hk h => own_apart HO6.out HB6.out (by decide) (by rw [hk, h]))
        refine ⟨?_, HG6.out.trans hGX (fun i hi h => by have := Hvr.out; omega)⟩
        rw [Hd.out, HR.out, HNV.out]
        rcases Hcs.out with ⟨h1, rfl, h2⟩ | ⟨h1, rfl, h2⟩
        · rw [h2]
          exact Or.inr (Or.inr ⟨rfl, h1, ⟨E, ec, rfl, hOX⟩, hCX⟩)
        · rw [h2]
          exact Or.inr (Or.inl ⟨rfl, h1, rfl, hCX⟩)
end Go.Proofs.Ytjkpijinpfimiaa
