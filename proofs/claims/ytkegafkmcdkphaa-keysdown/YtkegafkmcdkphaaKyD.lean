/-
  What package keys does: leadsTo, From. Keys in memory.
-/
import Derived.Test.YtkegafkmcdkphaaKyC
namespace Go.Proofs.Ytkegafkmcdkphaa
open Go.RowKit
theorem rightB_of {k : Ky} (h : KRight k) : rightB k = true := decide_eq_true h
theorem par_more {k : Ky} (h : rightB k = true) (hl : lev k ≠ 0) : parK k = parR k ∧ parE k = 0 := by unfold parK parE; rw [if_pos h, if_pos h, if_neg hl, if_neg hl]; exact ⟨rfl, rfl⟩
theorem key_ways {o t c v ao at_ ac av : Int} (h : ¬ (o = ao ∧ t = at_ ∧ c = ac ∧ v = av)) : o ≠ ao ∨ (o = ao ∧ t ≠ at_) ∨ (o = ao ∧ t = at_ ∧ c ≠ ac) ∨ (o = ao ∧ t = at_ ∧ c = ac ∧ v ≠ av) := by omega
set_option maxRecDepth 100000 in
set_option maxHeartbeats 4000000 in
theorem leadsTo_any (k a : Ky) (hk : KRight k) (w : World) : Calls Try.prog 29 #[k.V, a.V] w fun e w' => e = .returned (.bool (fromB k a)) ∧ New w w' := by
  obtain ⟨ao, at_, ac, av⟩ := a
  have HK := Lib.hid hk; clear hk
  obtain ⟨B, hB⟩ : ∃ B, B = fromB k ⟨ao, at_, ac, av⟩ := ⟨_, rfl⟩
  rw [← hB]
  have HB := Lib.hid hB; clear hB
  obtain ⟨n, hn⟩ : ∃ n, n = lev k := ⟨_, rfl⟩
  have Hn := Lib.hid hn; clear hn
  go_enter Try.func29, Try.ntmps29
  go_wp2_with fail
  go_loopg [] n (fun gk wr => ∃ x : Ky, KRight x ∧ lev x = gk ∧ B = fromB x ⟨ao, at_, ac, av⟩ ∧ Has wr w.heap.size 23 #[.int .i64 (x.o), .int .i64 (x.t), .int .i64 (x.c), .int .i64 (x.v)] ∧ Has wr (w.heap.size + 1) 23 #[.int .i64 ao, .int .i64 (at_), .int .i64 ac, .int .i64 av] ∧ New w wr)
  case atStart =>
    refine ⟨k, HK.out, Hn.out.symm, HB.out, ?_, ?_, ((Chg.refl _ _).alloc _).alloc _⟩
    · exact (Has.new _ _ _).alloc _
    · exact Has.new_at _ _ _ _ (by simp)
  case round =>
    obtain ⟨⟨o, t, c, v⟩, hx, hl, hf, hX, hA, hN⟩ := hrel
    have HX := Lib.hid hX; clear hX
    have HA := Lib.hid hA; clear hA
    have HN := Lib.hid hN; clear hN
    have Hx := Lib.hid hx; clear hx
    have Hl := Lib.hid hl; clear hl
    have Hf := Lib.hid hf; clear hf
    by_cases hall : o = ao ∧ t = at_ ∧ c = ac ∧ v = av
    · obtain ⟨rfl, rfl, rfl, rfl⟩ := hall
      have c0 : wr.cell? ⟨w.heap.size, 0, none⟩ = some (.int .i64 o) := (HX.out.cell 0).trans rfl
      have c1 : wr.cell? ⟨w.heap.size, 1, none⟩ = some (.int .i64 t) := (HX.out.cell 1).trans rfl
      have c2 : wr.cell? ⟨w.heap.size, 2, none⟩ = some (.int .i64 c) := (HX.out.cell 2).trans rfl
      have c3 : wr.cell? ⟨w.heap.size, 3, none⟩ = some (.int .i64 v) := (HX.out.cell 3).trans rfl
      have a0 : wr.cell? ⟨w.heap.size + 1, 0, none⟩ = some (.int .i64 o) := (HA.out.cell 0).trans rfl
      have a1 : wr.cell? ⟨w.heap.size + 1, 1, none⟩ = some (.int .i64 t) := (HA.out.cell 1).trans rfl
      have a2 : wr.cell? ⟨w.heap.size + 1, 2, none⟩ = some (.int .i64 c) := (HA.out.cell 2).trans rfl
      have a3 : wr.cell? ⟨w.heap.size + 1, 3, none⟩ = some (.int .i64 v) := (HA.out.cell 3).trans rfl
      go_wp2_with fail
      go_ret
      exact ⟨by rw [Hf.out, from_self Hx.out]; rfl, HN.out⟩
    · have Hne : Hid (¬ eqK ⟨o, t, c, v⟩ ⟨ao, at_, ac, av⟩) := hall
      have HP := Lib.hid (Parent_any ⟨o, t, c, v⟩ wr)
      have c0 : wr.cell? ⟨w.heap.size, 0, none⟩ = some (.int .i64 o) := (HX.out.cell 0).trans rfl
      have c1 : wr.cell? ⟨w.heap.size, 1, none⟩ = some (.int .i64 t) := (HX.out.cell 1).trans rfl
      have c2 : wr.cell? ⟨w.heap.size, 2, none⟩ = some (.int .i64 c) := (HX.out.cell 2).trans rfl
      have c3 : wr.cell? ⟨w.heap.size, 3, none⟩ = some (.int .i64 v) := (HX.out.cell 3).trans rfl
      have a0 : wr.cell? ⟨w.heap.size + 1, 0, none⟩ = some (.int .i64 ao) := (HA.out.cell 0).trans rfl
      have a1 : wr.cell? ⟨w.heap.size + 1, 1, none⟩ = some (.int .i64 at_) := (HA.out.cell 1).trans rfl
      have a2 : wr.cell? ⟨w.heap.size + 1, 2, none⟩ = some (.int .i64 ac) := (HA.out.cell 2).trans rfl
      have a3 : wr.cell? ⟨w.heap.size + 1, 3, none⟩ = some (.int .i64 av) := (HA.out.cell 3).trans rfl
      have hlx := HX.out.lt
      have hla := HA.out.lt
      have hr := rightB_of Hx.out
      rcases Nat.eq_zero_or_pos (lev ⟨o, t, c, v⟩) with h0 | h0
      · obtain ⟨e1, e2⟩ := par_zero hr h0
        have Hff : Hid (B = false) := Hf.out.trans (from_root Hne.out h0)
        rw [e1, e2] at HP
        clear hr h0 e1 e2
        have hd := key_ways hall
        clear hall
        rcases hd with hd | ⟨rfl, hd⟩ | ⟨rfl, rfl, hd⟩ | ⟨rfl, rfl, rfl, hd⟩
        all_goals
          go_wp2_with fail
          with_reducible refine HP.out.mono ?_
          rintro e w1 ⟨rfl, hN1⟩
          go_wp2_with fail
          go_ret
          exact ⟨by rw [Hff.out]; rfl, (HN.out.then_new hN1).alloc _⟩
      · have h0' : lev ⟨o, t, c, v⟩ ≠ 0 := by omega
        obtain ⟨e1, e2⟩ := par_more hr h0'
        have hpr := par_right Hx.out h0'
        have Hff : Hid (B = fromB (parR ⟨o, t, c, v⟩) ⟨ao, at_, ac, av⟩) := Hf.out.trans (from_up Hx.out Hne.out h0')
        rw [e1, e2] at HP
        obtain ⟨⟨p0, p1, p2, p3⟩, hp⟩ : ∃ p, p = parR ⟨o, t, c, v⟩ := ⟨_, rfl⟩
        rw [← hp] at HP Hff hpr
        have Hpr := Lib.hid hpr
        clear hr e1 e2 hp hpr
        have hd := key_ways hall
        clear hall
        rcases hd with hd | ⟨rfl, hd⟩ | ⟨rfl, rfl, hd⟩ | ⟨rfl, rfl, rfl, hd⟩
        all_goals
          go_wp2_with fail
          with_reducible refine HP.out.mono ?_
          rintro e w1 ⟨rfl, hN1⟩
          have HA0 := Lib.hid (HA.out.keep hN1)
          have HN1 := Lib.hid (HN.out.then_new hN1)
          have HX0 := Lib.hid (HX.out.keep hN1)
          have hlx1 := HX0.out.lt
          have hla1 := HA0.out.lt
          clear hN1 c0 c1 c2 c3 a0 a1 a2 a3
          have c0 : w1.cell? ⟨w.heap.size, 0, none⟩ = some (.int .i64 o) := (HX0.out.cell 0).trans rfl
          have c1 : w1.cell? ⟨w.heap.size, 1, none⟩ = some (.int .i64 t) := (HX0.out.cell 1).trans rfl
          have c2 : w1.cell? ⟨w.heap.size, 2, none⟩ = some (.int .i64 c) := (HX0.out.cell 2).trans rfl
          have c3 : w1.cell? ⟨w.heap.size, 3, none⟩ = some (.int .i64 v) := (HX0.out.cell 3).trans rfl
          have z0 := HX0.out.free 0
          have z1 := HX0.out.free 1
          have z2 := HX0.out.free 2
          have z3 := HX0.out.free 3
          go_wp2_with fail
          obtain ⟨hX2, hG2⟩ := setK HX0.out (.int .i64 p0) (.int .i64 p1) (.int .i64 p2) (.int .i64 p3)
          go_roundg (lev ⟨p0, p1, p2, p3⟩)
          case measure => have := Hl.out; have := Hpr.out.2; omega
          case rel => exact ⟨⟨p0, p1, p2, p3⟩, Hpr.out.1, rfl, Hff.out, hX2.alloc _, (HA0.out.chg hG2 (by omega)).alloc _, (New.set HN1.out hG2 (Nat.le_refl _)).alloc _⟩
/-- the j-th key of a slice of keys at A -/
def KyAt (w : World) (F : Nat → Prop) (A : Option Addr) (j : Nat) (e : Ky) : Prop :=
  ∃ a, A = some a ∧ F a.block ∧ w.cell? (a.add (j * 4)) = some (.int .i64 e.o) ∧ w.cell? ⟨(a.add (j * 4)).block, (a.add (j * 4)).off + 1, none⟩ = some (.int .i64 e.t) ∧ w.cell? ⟨(a.add (j * 4)).block, (a.add (j * 4)).off + 2, none⟩ = some (.int .i64 e.c) ∧ w.cell? ⟨(a.add (j * 4)).block, (a.add (j * 4)).off + 3, none⟩ = some (.int .i64 e.v)
def Kys (w : World) (F : Nat → Prop) (A : Option Addr) (n : Nat) (f : Nat → Ky) : Prop := ∀ j, j < n → KyAt w F A j (f j)
theorem KyAt.chg {w w' : World} {F S : Nat → Prop} {A : Option Addr} {j : Nat} {e : Ky} (h : KyAt w F A j e) (c : Chg S w w') (hF : ∀ k, F k → k < w.heap.size ∧ ¬ S k) : KyAt w' F A j e := by
  obtain ⟨a, rfl, hb, h0, h1, h2, h3⟩ := h
  have hb1 : (a.add (j * 4)).block < w.heap.size := by rw [add_block]; exact (hF _ hb).1
  have hb2 : ¬ S (a.add (j * 4)).block := by rw [add_block]; exact (hF _ hb).2
  exact ⟨a, rfl, hb, (c.cell hb1 hb2).trans h0, (c.cell (p := ⟨(a.add (j * 4)).block, _, none⟩) hb1 hb2).trans h1, (c.cell (p := ⟨(a.add (j * 4)).block, _, none⟩) hb1 hb2).trans h2, (c.cell (p := ⟨(a.add (j * 4)).block, _, none⟩) hb1 hb2).trans h3⟩
theorem Kys.new {w w' : World} {F : Nat → Prop} {A : Option Addr} {n : Nat} {f : Nat → Ky} (h : Kys w F A n f) (c : New w w') (hF : ∀ k, F k → k < w.heap.size) : Kys w' F A n f := fun j hj => (h j hj).chg c fun k hk => ⟨hF k hk, fun f => f⟩
/-- from all of them -/
def frP (k : Ky) (n : Nat) (f : Nat → Ky) : Prop := KRight k ∧ ∀ j, j < n → fromB k (f j) = true
noncomputable instance frB_dec (k : Ky) (n : Nat) (f : Nat → Ky) : Decidable (frP k n f) := Classical.propDecidable _
noncomputable def frB (k : Ky) (n : Nat) (f : Nat → Ky) : Bool := @decide _ (frB_dec k n f)
theorem frB_yes {k : Ky} {n : Nat} {f : Nat → Ky} (h : frP k n f) : frB k n f = true := @decide_eq_true _ (frB_dec k n f) h
theorem frB_no {k : Ky} {n : Nat} {f : Nat → Ky} (h : ¬ frP k n f) : frB k n f = false := @decide_eq_false _ (frB_dec k n f) h
set_option maxRecDepth 100000 in
set_option maxHeartbeats 4000000 in
theorem From_any (k : Ky) (A : Option Addr) (n m : Nat) (f : Nat → Ky) (F : Nat → Prop) (w : World) (hA : Kys w F A n f) (hF : ∀ k, F k → k < w.heap.size) (hn : n ≤ 1000000000000000000) :
    Calls Try.prog 18 #[k.V, .slice A n m] w fun e w' => e = .returned (.bool (frB k n f)) ∧ New w w' := by
  have HA := Lib.hid hA; clear hA
  have HF := Lib.hid hF; clear hF
  have HC := Lib.hid (Right_any k)
  obtain ⟨b, hb⟩ : ∃ b, rightB k = b := ⟨_, rfl⟩
  rw [hb] at HC
  obtain ⟨B, hB⟩ : ∃ B, B = frB k n f := ⟨_, rfl⟩
  rw [← hB]
  have HB := Lib.hid hB; clear hB
  have Hb := Lib.hid hb; clear hb
  have HL := Lib.hid (leadsTo_any k)
  obtain ⟨x, hx⟩ : ∃ x, x = k := ⟨_, rfl⟩
  rw [← hx] at HB Hb
  have Hx := Lib.hid hx; clear hx
  obtain ⟨o, t, c, v⟩ := k
  go_enter Try.func18, Try.ntmps18
  go_wp2_with fail
  with_reducible refine (HC.out _).mono ?_
  rintro e w1 ⟨rfl, hN⟩
  have HBx := Lib.hid ((Has.new w 23 #[.int .i64 o, .int .i64 t, .int .i64 c, .int .i64 v]).keep hN)
  have HN := Lib.hid (((Chg.refl (fun _ => False) w).alloc _).then_new hN)
  clear hN
  cases b with
  | false =>
    go_wp2_with fail
    go_ret
    exact ⟨by rw [HB.out, frB_no (fun h => rightB_no Hb.out h.1)]; rfl, HN.out⟩
  | true =>
    have HK := Lib.hid (rightB_yes Hb.out)
    go_wp2_with fail
    go_loopg [12] n (fun gk i wr => ∃ k : Nat, k ≤ n ∧ gk = n - k ∧ i = .int .i64 k ∧ (∀ j, j < k → fromB x (f j) = true) ∧ Has wr w.heap.size 23 #[.int .i64 o, .int .i64 t, .int .i64 c, .int .i64 v] ∧ New w wr)
    case atStart => exact ⟨0, by omega, by omega, rfl, fun j hj => by omega, HBx.out, HN.out⟩
    case round =>
      clear HBx HN
      obtain ⟨k, hk, rfl, rfl, hR, hX, hN⟩ := hrel
      have HR := Lib.hid hR; clear hR
      have HX := Lib.hid hX; clear hX
      have HN := Lib.hid hN; clear hN
      by_cases hlt : k < n
      · obtain ⟨a, ha, hab, a0, a1, a2, a3⟩ := (HA.out.new HN.out HF.out) k hlt
        subst ha
        have hLk := HL.out (f k) (by rw [← Hx.out]; exact HK.out)
        rw [← Hx.out] at hLk
        obtain ⟨b, hb⟩ : ∃ b, fromB x (f k) = b := ⟨_, rfl⟩
        rw [hb] at hLk
        have Hbb := Lib.hid hb; clear hb
        obtain ⟨⟨p0, p1, p2, p3⟩, hp⟩ : ∃ p, p = f k := ⟨_, rfl⟩
        rw [← hp] at hLk a0 a1 a2 a3
        rw [Hx.out] at hLk
        have HLk := Lib.hid hLk; clear hLk hp hab
        have hlx := HX.out.lt
        have c0 : wr.cell? ⟨w.heap.size, 0, none⟩ = some (.int .i64 o) := (HX.out.cell 0).trans rfl
        have c1 : wr.cell? ⟨w.heap.size, 1, none⟩ = some (.int .i64 t) := (HX.out.cell 1).trans rfl
        have c2 : wr.cell? ⟨w.heap.size, 2, none⟩ = some (.int .i64 c) := (HX.out.cell 2).trans rfl
        have c3 : wr.cell? ⟨w.heap.size, 3, none⟩ = some (.int .i64 v) := (HX.out.cell 3).trans rfl
        go_wp2_with fail
        with_reducible refine (HLk.out _).mono ?_
        rintro e w2 ⟨rfl, hN2⟩
        have HX2 := Lib.hid ((HX.out.alloc _).keep hN2)
        have HN2 := Lib.hid ((HN.out.alloc _).then_new hN2)
        clear hN2
        cases b with
        | true =>
          go_wp2_with fail
          go_roundg (n - (k + 1))
          case measure => omega
          case rel =>
            refine ⟨k + 1, by omega, rfl, by go_num, fun j hj => ?_, HX2.out, HN2.out⟩
            by_cases hjk : j = k
            · subst hjk; exact Hbb.out
            · exact HR.out j (by omega)
        | false =>
          go_wp2_with fail
          go_ret
          exact ⟨by rw [HB.out, frB_no (fun h => by have := h.2 k hlt; rw [Hbb.out] at this; cases this)]; rfl, HN2.out⟩
      · obtain rfl : k = n := by omega
        go_wp2_with fail
        go_ret
        exact ⟨by rw [HB.out, frB_yes ⟨HK.out, HR.out⟩]; rfl, HN.out⟩
end Go.Proofs.Ytkegafkmcdkphaa
