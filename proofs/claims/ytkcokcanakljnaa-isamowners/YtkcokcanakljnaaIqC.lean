/-
  Package ipe's Right: of some products each is right.
-/
import Derived.Test.YtkcokcanakljnaaIqB
namespace Go.Proofs.Ytkcokcanakljnaa
open Go.RowKit
theorem addP_block (a : Addr) (i : Nat) : (a.add i).block = a.block := by unfold Addr.add; split <;> rfl
/-- the j-th of the products in a slice -/
def PdAt (w : World) (F : Nat → Prop) (A : Option Addr) (j : Nat) (p : Pd) : Prop := ∃ a, A = some a ∧ F a.block ∧ w.cell? (a.add (j * 14)) = some (.int .i64 p.x0) ∧ w.cell? (⟨(a.add (j * 14)).block, (a.add (j * 14)).off + 1, none⟩) = some (.int .i64 p.x1) ∧ w.cell? (⟨(a.add (j * 14)).block, (a.add (j * 14)).off + 2, none⟩) = some (.int .i64 p.x2) ∧ w.cell? (⟨(a.add (j * 14)).block, (a.add (j * 14)).off + 3, none⟩) = some (.int .i64 p.x3) ∧ w.cell? (⟨(a.add (j * 14)).block, (a.add (j * 14)).off + 4, none⟩) = some (.int .i64 p.x4) ∧ w.cell? (⟨(a.add (j * 14)).block, (a.add (j * 14)).off + 5, none⟩) = some (.int .i64 p.x5) ∧ w.cell? (⟨(a.add (j * 14)).block, (a.add (j * 14)).off + 6, none⟩) = some (.int .i64 p.x6) ∧ w.cell? (⟨(a.add (j * 14)).block, (a.add (j * 14)).off + 7, none⟩) = some (.int .i64 p.x7) ∧ w.cell? (⟨(a.add (j * 14)).block, (a.add (j * 14)).off + 8, none⟩) = some (.bool p.x8) ∧ w.cell? (⟨(a.add (j * 14)).block, (a.add (j * 14)).off + 9, none⟩) = some (.int .i64 p.x9) ∧ w.cell? (⟨(a.add (j * 14)).block, (a.add (j * 14)).off + 10, none⟩) = some (.int .i64 p.x10) ∧ w.cell? (⟨(a.add (j * 14)).block, (a.add (j * 14)).off + 11, none⟩) = some (.int .i64 p.x11) ∧ w.cell? (⟨(a.add (j * 14)).block, (a.add (j * 14)).off + 12, none⟩) = some (.int .i64 p.x12) ∧ w.cell? (⟨(a.add (j * 14)).block, (a.add (j * 14)).off + 13, none⟩) = some (.bool p.x13)
def Pds (w : World) (F : Nat → Prop) (A : Option Addr) (n : Nat) (f : Nat → Pd) : Prop := ∀ j, j < n → PdAt w F A j (f j)
theorem PdAt.chg {w w' : World} {F S : Nat → Prop} {A : Option Addr} {j : Nat} {p : Pd} (h : PdAt w F A j p) (c : Chg S w w') (hF : ∀ k, F k → k < w.heap.size ∧ ¬ S k) : PdAt w' F A j p := by
  obtain ⟨a, rfl, hb, h0, h1, h2, h3, h4, h5, h6, h7, h8, h9, h10, h11, h12, h13⟩ := h
  have hb1 : (a.add (j * 14)).block < w.heap.size := by rw [addP_block]; exact (hF _ hb).1
  have hb2 : ¬ S (a.add (j * 14)).block := by rw [addP_block]; exact (hF _ hb).2
  exact ⟨a, rfl, hb, (c.cell hb1 hb2).trans h0, (c.cell (p := ⟨(a.add (j * 14)).block, _, none⟩) hb1 hb2).trans h1, (c.cell (p := ⟨(a.add (j * 14)).block, _, none⟩) hb1 hb2).trans h2, (c.cell (p := ⟨(a.add (j * 14)).block, _, none⟩) hb1 hb2).trans h3, (c.cell (p := ⟨(a.add (j * 14)).block, _, none⟩) hb1 hb2).trans h4, (c.cell (p := ⟨(a.add (j * 14)).block, _, none⟩) hb1 hb2).trans h5, (c.cell (p := ⟨(a.add (j * 14)).block, _, none⟩) hb1 hb2).trans h6, (c.cell (p := ⟨(a.add (j * 14)).block, _, none⟩) hb1 hb2).trans h7, (c.cell (p := ⟨(a.add (j * 14)).block, _, none⟩) hb1 hb2).trans h8, (c.cell (p := ⟨(a.add (j * 14)).block, _, none⟩) hb1 hb2).trans h9, (c.cell (p := ⟨(a.add (j * 14)).block, _, none⟩) hb1 hb2).trans h10, (c.cell (p := ⟨(a.add (j * 14)).block, _, none⟩) hb1 hb2).trans h11, (c.cell (p := ⟨(a.add (j * 14)).block, _, none⟩) hb1 hb2).trans h12, (c.cell (p := ⟨(a.add (j * 14)).block, _, none⟩) hb1 hb2).trans h13⟩
theorem Pds.new {w w' : World} {F : Nat → Prop} {A : Option Addr} {n : Nat} {f : Nat → Pd} (h : Pds w F A n f) (c : New w w') (hF : ∀ k, F k → k < w.heap.size) : Pds w' F A n f := fun j hj => (h j hj).chg c fun k hk => ⟨hF k hk, fun f => f⟩
theorem Pds.nil (w : World) (f : Nat → Pd) : Pds w (fun _ => False) none 0 f := fun j hj => by omega
theorem Pds.one {w : World} {g : Nat} {t : TypeId} {p : Pd} (h : Has w g t #[.int .i64 p.x0, .int .i64 p.x1, .int .i64 p.x2, .int .i64 p.x3, .int .i64 p.x4, .int .i64 p.x5, .int .i64 p.x6, .int .i64 p.x7, .bool p.x8, .int .i64 p.x9, .int .i64 p.x10, .int .i64 p.x11, .int .i64 p.x12, .bool p.x13]) : Pds w (· = g) (some ⟨g, 0, none⟩) 1 (fun _ => p) := fun j hj => by
  obtain rfl : j = 0 := by omega
  exact ⟨_, rfl, rfl, (h.cell 0).trans rfl, (h.cell 1).trans rfl, (h.cell 2).trans rfl, (h.cell 3).trans rfl, (h.cell 4).trans rfl, (h.cell 5).trans rfl, (h.cell 6).trans rfl, (h.cell 7).trans rfl, (h.cell 8).trans rfl, (h.cell 9).trans rfl, (h.cell 10).trans rfl, (h.cell 11).trans rfl, (h.cell 12).trans rfl, (h.cell 13).trans rfl⟩
theorem Pds.two {w : World} {g : Nat} {t : TypeId} {p q : Pd} (h : Has w g t #[.int .i64 p.x0, .int .i64 p.x1, .int .i64 p.x2, .int .i64 p.x3, .int .i64 p.x4, .int .i64 p.x5, .int .i64 p.x6, .int .i64 p.x7, .bool p.x8, .int .i64 p.x9, .int .i64 p.x10, .int .i64 p.x11, .int .i64 p.x12, .bool p.x13, .int .i64 q.x0, .int .i64 q.x1, .int .i64 q.x2, .int .i64 q.x3, .int .i64 q.x4, .int .i64 q.x5, .int .i64 q.x6, .int .i64 q.x7, .bool q.x8, .int .i64 q.x9, .int .i64 q.x10, .int .i64 q.x11, .int .i64 q.x12, .bool q.x13]) : Pds w (· = g) (some ⟨g, 0, none⟩) 2 (fun i => if i = 0 then p else q) := fun j hj => by
  rcases (show j = 0 ∨ j = 1 by omega) with rfl | rfl
  · exact ⟨_, rfl, rfl, (h.cell 0).trans rfl, (h.cell 1).trans rfl, (h.cell 2).trans rfl, (h.cell 3).trans rfl, (h.cell 4).trans rfl, (h.cell 5).trans rfl, (h.cell 6).trans rfl, (h.cell 7).trans rfl, (h.cell 8).trans rfl, (h.cell 9).trans rfl, (h.cell 10).trans rfl, (h.cell 11).trans rfl, (h.cell 12).trans rfl, (h.cell 13).trans rfl⟩
  · exact ⟨_, rfl, rfl, (h.cell 14).trans rfl, (h.cell 15).trans rfl, (h.cell 16).trans rfl, (h.cell 17).trans rfl, (h.cell 18).trans rfl, (h.cell 19).trans rfl, (h.cell 20).trans rfl, (h.cell 21).trans rfl, (h.cell 22).trans rfl, (h.cell 23).trans rfl, (h.cell 24).trans rfl, (h.cell 25).trans rfl, (h.cell 26).trans rfl, (h.cell 27).trans rfl⟩
noncomputable def allR (n : Nat) (f : Nat → Pd) : Bool := @decide (∀ i, i < n → rightN (f i).ns = true) (Classical.propDecidable _)
theorem allR_yes {n : Nat} {f : Nat → Pd} (h : ∀ i, i < n → rightN (f i).ns = true) : allR n f = true := @decide_eq_true _ (Classical.propDecidable _) h
theorem allR_no {n i : Nat} {f : Nat → Pd} (hi : i < n) (h : rightN (f i).ns = false) : allR n f = false := @decide_eq_false _ (Classical.propDecidable _) fun hh => by rw [hh i hi] at h; cases h
theorem allR_zero (f : Nat → Pd) : allR 0 f = true := allR_yes fun i hi => by omega
theorem allR_one (f : Nat → Pd) : allR 1 f = rightN (f 0).ns := by
  cases h : rightN (f 0).ns with
  | true => exact allR_yes fun i hi => by rw [show i = 0 by omega]; exact h
  | false => exact allR_no (i := 0) (by omega) h
theorem allR_two (f : Nat → Pd) (h0 : rightN (f 0).ns = true) : allR 2 f = rightN (f 1).ns := by
  cases h : rightN (f 1).ns with
  | true => exact allR_yes fun i hi => (show i = 0 ∨ i = 1 by omega).elim (fun e => by rw [e]; exact h0) (fun e => by rw [e]; exact h)
  | false => exact allR_no (i := 1) (by omega) h
set_option maxRecDepth 100000 in
theorem right1_any (p : Pd) (w : World) : Calls Try.prog 42 #[p.V] w fun e w' => e = .returned (.bool (!rightN p.ns)) ∧ New w w' := by
  have HR := Lib.hid (fun w => iright_any p w)
  obtain ⟨b, hb⟩ : ∃ b, rightN p.ns = b := ⟨_, rfl⟩
  rw [hb] at HR ⊢
  clear hb
  obtain ⟨x0, x1, x2, x3, x4, x5, x6, x7, x8, x9, x10, x11, x12, x13⟩ := p
  have HR : Hid (∀ w, Calls Try.prog 33 #[.agg #[.int .i64 x0, .int .i64 x1, .int .i64 x2, .int .i64 x3, .int .i64 x4, .int .i64 x5, .int .i64 x6, .int .i64 x7, .bool x8, .int .i64 x9, .int .i64 x10, .int .i64 x11, .int .i64 x12, .bool x13]] w fun e w' => e = .returned (.bool b) ∧ New w w') := HR.out
  go_enter Try.func42, Try.ntmps42
  go_wp2_with fail
  with_reducible refine (HR.out _).mono ?_
  rintro e w1 ⟨rfl, hN⟩
  have HN := Lib.hid hN; clear hN
  go_wp2_with fail
  go_ret
  exact ⟨rfl, Chg.then_new ((Chg.refl _ _).alloc _) HN.out⟩
set_option maxRecDepth 100000 in
set_option maxHeartbeats 4000000 in
theorem indexP_any (A : Option Addr) (n c : Nat) (f : Nat → Pd) (F : Nat → Prop) (w : World) (hA : Pds w F A n f) (hF : ∀ k, F k → k < w.heap.size) (hn : n ≤ 1000000000000000000) :
    Calls Try.prog 78 #[.slice A n c, .func (.func 42) #[] #[]] w fun e w' => ∃ z : Int, e = .returned (.int .i64 z) ∧ decide (0 ≤ z) = (!allR n f) ∧ New w w' := by
  have HA := Lib.hid hA; clear hA
  have HF := Lib.hid hF; clear hF
  obtain ⟨B, hB⟩ : ∃ B, B = allR n f := ⟨_, rfl⟩
  rw [← hB]
  have HB := Lib.hid hB; clear hB
  go_enter Try.func78, Try.ntmps78
  go_wp2_with fail
  go_loopg [8] n (fun gk i wr => ∃ k : Nat, k ≤ n ∧ gk = n - k ∧ i = .int .i64 k ∧ (∀ j, j < k → rightN (f j).ns = true) ∧ New w wr)
  case atStart => exact ⟨0, by omega, by omega, rfl, fun j hj => by omega, Chg.refl _ _⟩
  case round =>
    obtain ⟨k, hk, rfl, rfl, hR, hN⟩ := hrel
    have HR := Lib.hid hR; clear hR
    have HN := Lib.hid hN; clear hN
    by_cases hlt : k < n
    · obtain ⟨a, ha, hab, a0, a1, a2, a3, a4, a5, a6, a7, a8, a9, a10, a11, a12, a13⟩ := (HA.out.new HN.out HF.out) k hlt
      subst ha
      have t1 : decide ((k : Int) < (n : Int)) = true := decide_eq_true (by omega)
      have t1' : decide (k < n) = true := decide_eq_true hlt
      have HC := Lib.hid (right1_any (f k))
      obtain ⟨b, hb⟩ : ∃ b, rightN (f k).ns = b := ⟨_, rfl⟩
      rw [hb] at HC
      have Hb := Lib.hid hb; clear hb
      obtain ⟨q, hq⟩ : ∃ q, q = f k := ⟨_, rfl⟩
      rw [← hq] at HC a0 a1 a2 a3 a4 a5 a6 a7 a8 a9 a10 a11 a12 a13
      clear hq
      obtain ⟨x0, x1, x2, x3, x4, x5, x6, x7, x8, x9, x10, x11, x12, x13⟩ := q
      have HC : Hid (∀ w, Calls Try.prog 42 #[.agg #[.int .i64 x0, .int .i64 x1, .int .i64 x2, .int .i64 x3, .int .i64 x4, .int .i64 x5, .int .i64 x6, .int .i64 x7, .bool x8, .int .i64 x9, .int .i64 x10, .int .i64 x11, .int .i64 x12, .bool x13]] w fun e w' => e = .returned (.bool (!b)) ∧ New w w') := HC.out
      simp only at a0 a1 a2 a3 a4 a5 a6 a7 a8 a9 a10 a11 a12 a13
      go_wp2_with fail
      with_reducible refine (HC.out _).mono ?_
      rintro e w2 ⟨rfl, hN2⟩
      have HN2 := Lib.hid (HN.out.then_new hN2); clear hN2
      cases b with
      | false =>
        have hBf : B = false := by rw [HB.out]; exact allR_no hlt Hb.out
        go_wp2_with fail
        go_ret
        exact ⟨_, rfl, by rw [hBf]; simp, HN2.out⟩
      | true =>
        go_wp2_with fail
        go_roundg (n - (k + 1))
        case measure => omega
        case rel => exact ⟨k + 1, by omega, rfl, by go_num, fun j hj => by
          rcases Nat.lt_or_ge j k with h | h
          · exact HR.out j h
          · rw [show j = k by omega]; exact Hb.out, HN2.out⟩
    · obtain rfl : k = n := by omega
      have hBt : B = true := by rw [HB.out]; exact allR_yes HR.out
      have t1 : decide ((k : Int) < (k : Int)) = false := decide_eq_false (by omega)
      go_wp2_with fail
      go_ret
      exact ⟨_, rfl, by rw [hBt]; simp, HN.out⟩
set_option maxRecDepth 100000 in
theorem Right10_any (A : Option Addr) (n c : Nat) (f : Nat → Pd) (F : Nat → Prop) (w : World) (hA : Pds w F A n f) (hF : ∀ k, F k → k < w.heap.size) (hn : n ≤ 1000000000000000000) :
    Calls Try.prog 12 #[.slice A n c] w fun e w' => e = .returned (.bool (allR n f)) ∧ New w w' := by
  have HC : Hid (Calls Try.prog 41 #[.slice A n c, .func (.func 42) #[] #[]] w fun e w' => e = .returned (.bool (!allR n f)) ∧ New w w') := by
    have HI := Lib.hid (indexP_any A n c f F w hA hF hn)
    clear hA hF
    obtain ⟨b, hb⟩ : ∃ b, b = allR n f := ⟨_, rfl⟩
    rw [← hb] at HI ⊢
    clear hb
    show Calls _ _ _ _ _
    go_enter Try.func41, Try.ntmps41
    go_wp2_with fail
    with_reducible refine HI.out.mono ?_
    rintro e w1 ⟨z, rfl, hz, hN⟩
    have HN := Lib.hid hN; clear hN
    go_wp2_with fail
    go_ret
    exact ⟨by rw [← hz]; rfl, HN.out⟩
  clear hA hF
  obtain ⟨b, hb⟩ : ∃ b, b = allR n f := ⟨_, rfl⟩
  rw [← hb] at HC ⊢
  clear hb
  go_enter Try.func12, Try.ntmps12
  go_wp2_with fail
  with_reducible refine HC.out.mono ?_
  rintro e w1 ⟨rfl, hN⟩
  have HN := Lib.hid hN; clear hN
  go_wp2_with fail
  go_ret
  exact ⟨by simp, HN.out⟩
end Go.Proofs.Ytkcokcanakljnaa
