import Derived.Test.YtkcokcanakljnaaTRefA
namespace Go.Proofs.Ytkcokcanakljnaa
open Go.RowKit
/-- the number of the first element of which f says yes -/
def idx (f : Int → List Nat → Tr → Bool) : Nat → Tr → Int
  | _, .nil => -1
  | k, .cons t b s r => if f t b s then k else idx f (k + 1) r
theorem idx_nil (f : Int → List Nat → Tr → Bool) (k : Nat) : idx f k .nil = -1 := rfl
theorem idx_cons (f : Int → List Nat → Tr → Bool) (k : Nat) (t : Int) (b : List Nat) (s r : Tr) : idx f k (.cons t b s r) = if f t b s then (k : Int) else idx f (k + 1) r := rfl
/-- what a function that is asked of elements answers -/
def Asks (K : Nat) (cap : Value) (F : Nat → Prop) (w : World) (M : Nat) (f : Int → List Nat → Tr → Bool) : Prop :=
  ∀ (t : Int) (bs : List Nat) (sub : Tr) (vb : Value) (B : Option Addr) (cb : Nat) (w1 : World), New w w1 → Byts w1 F vb bs → Lay w1 F B 0 sub → sub.len * 56 ≤ 140737488351232 → sub.size < M →
    Calls Try.prog K #[.agg #[.int .i64 t, vb, .slice B sub.len cb], cap] w1 fun e w' => e = .returned (.bool (f t bs sub)) ∧ New w1 w'
set_option maxRecDepth 100000 in
set_option maxHeartbeats 1000000 in
theorem index39 (f : Int → List Nat → Tr → Bool) (T : Tr) (n M : Nat) (A : Option Addr) (c : Nat) (w : World) (F : Nat → Prop) (g : Nat) (hn : T.len = n) (hM : T.size ≤ M) (hL : Lay w F A 0 T) (hF : ∀ k, F k → k < w.heap.size) (hs : n * 56 ≤ 140737488351232) (hC : Asks 89 (.pointer (some ⟨g, 0, none⟩)) F w M f) :
    Calls Try.prog 80 #[.slice A n c, .func (.func 89) #[] #[.pointer (some ⟨g, 0, none⟩)]] w fun e w' => e = .returned (.int .i64 (idx f 0 T)) ∧ New w w' := by
  have Hn := Lib.hid hn; clear hn
  have HL := Lib.hid hL; clear hL
  have HF := Lib.hid hF; clear hF
  have HC := Lib.hid hC; clear hC
  have HM := Lib.hid hM; clear hM
  go_enter Try.func80, Try.ntmps80
  go_wp2_with fail
  go_loopg [8] n (fun gk i wr => ∃ (k : Nat) (R : Tr), k + R.len = n ∧ gk = n - k ∧ i = .int .i64 k ∧ Lay w F A k R ∧ R.size ≤ M ∧ idx f k R = idx f 0 T ∧ New w wr)
  case atStart => exact ⟨0, T, by rw [Hn.out]; omega, by omega, rfl, HL.out, HM.out, rfl, Chg.refl _ _⟩
  case round =>
    obtain ⟨k, R, hk, rfl, rfl, hLR, hRs, hR, hN⟩ := hrel
    have HR := Lib.hid hR; clear hR
    cases R with
    | nil =>
      obtain rfl : k = n := by rw [← hk]; rfl
      have HN := Lib.hid hN
      clear hk hLR hRs hN
      go_wp2_with fail
      go_ret
      exact ⟨by rw [← HR.out]; rfl, HN.out⟩
    | cons t bs sub rest =>
      obtain ⟨⟨vb, B, cb, h3, hb, hnil, hsl, ht, hLs⟩, hLr⟩ := hLR
      obtain ⟨a, rfl, hab, h0, h1, h2⟩ := h3.chg hN (fun k hk => ⟨HF.out k hk, fun f => f⟩)
      simp only [Tr.len] at hk
      simp only [Tr.size] at hRs
      have hlt : k < n := by omega
      have Hk := Lib.hid hk; clear hk
      have HLr := Lib.hid hLr; clear hLr
      have HCo := Lib.hid (HC.out t bs sub vb B cb wr hN (hb.new hN HF.out) (hLs.new hN HF.out) hsl (by omega))
      have HRs := Lib.hid hRs; clear hRs
      have HN := Lib.hid hN; clear hN
      clear hab hnil hLs h3 hb hsl ht
      obtain ⟨p, hp⟩ : ∃ p, p = sub.len := ⟨_, rfl⟩
      rw [← hp] at h2 HCo
      clear hp
      go_wp2_with fail
      with_reducible refine HCo.out.mono ?_
      rintro e w' ⟨rfl, hN2⟩
      have HN2 := Lib.hid hN2; clear hN2
      cases hd : f t bs sub with
      | true =>
        go_wp2_with fail
        go_ret
        refine ⟨?_, HN.out.then_new HN2.out⟩
        rw [← HR.out, idx_cons, if_pos hd]; rfl
      | false =>
        go_wp2_with fail
        go_roundg (n - (k + 1))
        case measure => omega
        case rel => exact ⟨k + 1, rest, by have := Hk.out; omega, rfl, by go_num, HLr.out, by have := HRs.out; omega, by rw [← HR.out, idx_cons, if_neg (by rw [hd]; decide)], HN.out.then_new HN2.out⟩
theorem idx_any (q : Nat) (T : Tr) : ∀ k : Nat, decide (0 ≤ idx (fun _ _ s => Tr.deeper q s) k T) = Tr.deeper (q + 1) T := by
  induction T with
  | nil => intro k; rfl
  | cons t b s r _ ih =>
    intro k
    rw [idx_cons, deeper_cons]
    cases hd : Tr.deeper q s with
    | true => simp
    | false => rw [if_neg (by decide), ih (k + 1)]; rfl
set_option maxRecDepth 100000 in
set_option maxHeartbeats 1000000 in
theorem contains39 (f : Int → List Nat → Tr → Bool) (T : Tr) (n M : Nat) (A : Option Addr) (c : Nat) (w : World) (F : Nat → Prop) (g : Nat) (hn : T.len = n) (hM : T.size ≤ M) (hL : Lay w F A 0 T) (hF : ∀ k, F k → k < w.heap.size) (hs : n * 56 ≤ 140737488351232) (hC : Asks 89 (.pointer (some ⟨g, 0, none⟩)) F w M f) :
    Calls Try.prog 88 #[.slice A n c, .func (.func 89) #[] #[.pointer (some ⟨g, 0, none⟩)]] w fun e w' => e = .returned (.bool (decide (0 ≤ idx f 0 T))) ∧ New w w' := by
  have HC := Lib.hid (index39 f T n M A c w F g hn hM hL hF hs hC)
  clear hn hM hL hF hs hC
  go_enter Try.func88, Try.ntmps88
  go_wp2_with fail
  with_reducible refine HC.out.mono ?_
  rintro e w' ⟨rfl, hN⟩
  have HN := Lib.hid hN; clear hN
  obtain ⟨x, hx⟩ : ∃ x, x = idx f 0 T := ⟨_, rfl⟩
  rw [← hx]
  have Hx := Lib.hid hx; clear hx
  go_wp2_with fail
  go_ret
  exact ⟨by rw [← Hx.out]; rfl, HN.out⟩
set_option maxRecDepth 100000 in
set_option maxHeartbeats 1000000 in
/-- the closure in deeper: g is the box of the levels -/
theorem deeper1_any (t : Int) (sub : Tr) (vb : Value) (B : Option Addr) (p cb q g : Nat) (w : World) (hg : Has w g 3 #[.int .i64 ((q : Int) + 1)]) (hq : q ≤ 3)
    (hC : ∀ w1, New w w1 → Calls Try.prog 72 #[.slice B p cb, .int .i64 q] w1 fun e w' => e = .returned (.bool (Tr.deeper q sub)) ∧ New w1 w') :
    Calls Try.prog 89 #[.agg #[.int .i64 t, vb, .slice B p cb], .pointer (some ⟨g, 0, none⟩)] w fun e w' => e = .returned (.bool (Tr.deeper q sub)) ∧ New w w' := by
  have HC := Lib.hid hC; clear hC
  have hlt := hg.lt
  have hc := hg.cell 0
  simp at hc
  clear hg
  go_enter Try.func89, Try.ntmps89
  go_wp2_with fail
  with_reducible refine (HC.out _ ((Chg.refl _ _).alloc _)).mono ?_
  rintro e w' ⟨rfl, hN⟩
  have HN := Lib.hid hN; clear hN
  go_wp2_with fail
  go_ret
  exact ⟨rfl, ((Chg.refl _ _).alloc _).then_new HN.out⟩
set_option maxRecDepth 100000 in
set_option maxHeartbeats 1000000 in
theorem deeper_any : ∀ (q : Nat) (T : Tr) (n : Nat) (A : Option Addr) (c : Nat) (w : World) (F : Nat → Prop), q ≤ 4 → T.len = n → Lay w F A 0 T → (∀ k, F k → k < w.heap.size) → n * 56 ≤ 140737488351232 →
    Calls Try.prog 72 #[.slice A n c, .int .i64 q] w fun e w' => e = .returned (.bool (Tr.deeper q T)) ∧ New w w' := by
  intro q
  induction q with
  | zero =>
    intro T n A c w F hq hn hL hF hs
    have hd : Tr.deeper 0 T = decide (0 < n) := by
      rw [← hn]
      cases T <;> simp [Tr.deeper, Tr.len]
    rw [hd]
    clear hd hn hL hF
    go_enter Try.func72, Try.ntmps72
    go_wp2_with fail
    go_ret
    refine ⟨?_, (Chg.refl _ _).alloc _⟩
    simp
  | succ q ih =>
    intro T n A c w F hq hn hL hF hs
    have IH := Lib.hid ih; clear ih
    have Hn := Lib.hid hn; clear hn
    have HL := Lib.hid hL; clear hL
    have HF := Lib.hid hF; clear hF
    rw [show ((q + 1 : Nat) : Int) = (q : Int) + 1 from rfl]
    have hne : (((q : Int) + 1) == 0) = false := by simp; omega
    go_enter Try.func72, Try.ntmps72
    go_wp2_with fail
    have hN0 : New w (w.alloc (.cells #[.int .i64 ((q : Int) + 1)] 3)) := (Chg.refl _ _).alloc _
    with_reducible refine (contains39 (fun _ _ s => Tr.deeper q s) T n T.size A c _ F _ Hn.out (Nat.le_refl _) (HL.out.new hN0 HF.out) (fun k hk => Nat.lt_of_lt_of_le (HF.out k hk) hN0.size) hs ?_).mono ?_
    · intro t bs sub vb B cb w1 hw1 hb hLs hsl hsz
      exact deeper1_any t sub vb B sub.len cb q w.heap.size w1 ((Has.new w 3 #[.int .i64 ((q : Int) + 1)]).keep hw1) (by omega) (fun w2 hw2 => IH.out sub sub.len B cb w2 F (by omega) rfl (hLs.new hw2 (fun k hk => Nat.lt_of_lt_of_le (HF.out k hk) (Nat.le_trans hN0.size hw1.size))) (fun k hk => Nat.lt_of_lt_of_le (HF.out k hk) (Nat.le_trans hN0.size (Nat.le_trans hw1.size hw2.size))) hsl)
    · rintro e w' ⟨rfl, hN⟩
      rw [idx_any q T 0]
      have HN := Lib.hid (hN0.then_new hN); clear hN hN0
      go_wp2_with fail
      go_ret
      exact ⟨rfl, HN.out⟩
end Go.Proofs.Ytkcokcanakljnaa
