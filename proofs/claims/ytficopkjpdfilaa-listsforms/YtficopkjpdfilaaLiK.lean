/-
  Package lists: Put.
-/
import Derived.Test.YtficopkjpdfilaaLiC
import Derived.Test.YtficopkjpdfilaaLiN
namespace Go.Proofs.Ytficopkjpdfilaa
open Go.RowKit
set_option maxRecDepth 100000 in
set_option maxHeartbeats 4000000 in
theorem numbersOf_any (x : It) (w : World) : Calls Try.prog 61 #[x.V] w fun e w' => e = .returned x.V ∧ New w w' := by
  obtain ⟨c, o, i, n, a⟩ := x
  go_enter Try.func61, Try.ntmps61
  go_wp2_with fail
  have hX := Has.new_at (w.alloc (.cells #[.int .i64 c, .int .i64 o, .int .i64 i, .int .i64 n, .int .i64 a] 44)) 103 #[.int .i64 c, .int .i64 o, .int .i64 i, .int .i64 n, .int .i64 a] (w.heap.size + 1) (by simp)
  have hN : New w ((w.alloc (.cells #[.int .i64 c, .int .i64 o, .int .i64 i, .int .i64 n, .int .i64 a] 44)).alloc (.cells #[.int .i64 c, .int .i64 o, .int .i64 i, .int .i64 n, .int .i64 a] 103)) := ((Chg.refl _ w).alloc _).alloc _
  generalize ((w.alloc (.cells #[.int .i64 c, .int .i64 o, .int .i64 i, .int .i64 n, .int .i64 a] 44)).alloc (.cells #[.int .i64 c, .int .i64 o, .int .i64 i, .int .i64 n, .int .i64 a] 103)) = wX at hX hN ⊢
  have g0 := (hX.cell 0).trans rfl
  have g1 := (hX.cell 1).trans rfl
  have g2 := (hX.cell 2).trans rfl
  have g3 := (hX.cell 3).trans rfl
  have g4 := (hX.cell 4).trans rfl
  refine bodyPost_ret (v := .agg #[.int .i64 c, .int .i64 o, .int .i64 i, .int .i64 n, .int .i64 a]) (by simp [results, Try.results61, go_sem, g0, g1, g2, g3, g4]) rfl ?_
  exact ⟨rfl, hN⟩
set_option maxRecDepth 100000 in
set_option maxHeartbeats 4000000 in
theorem lay1_any (x : It) (w : World) : Calls Try.prog 60 #[x.V] w fun e w' => e = .returned (.bool (!layB x)) ∧ New w w' := by
  have HN0 := Lib.hid (numbersOf_any x)
  have H5 := Lib.hid (fun g t w h => within_5 0 2147483648 x g t w h)
  obtain ⟨b, hb⟩ : ∃ b, b = layB x := ⟨_, rfl⟩
  rw [show inB 0 2147483648 [x.c, x.o, x.i, x.n, x.a] = layB x from rfl, ← hb] at H5
  rw [← hb]
  clear hb
  obtain ⟨c, o, i, n, a⟩ := x
  go_enter Try.func60, Try.ntmps60
  go_wp2_with fail
  with_reducible refine (HN0.out _).mono ?_
  rintro e w1 ⟨rfl, hN⟩
  have HN := Lib.hid (((Chg.refl (fun _ => False) w).alloc _).then_new hN); clear hN
  go_wp2_with fail
  have hA := Has.new w1 103 #[.int .i64 c, .int .i64 o, .int .i64 i, .int .i64 n, .int .i64 a]
  have hN := HN.out.alloc (.cells #[.int .i64 c, .int .i64 o, .int .i64 i, .int .i64 n, .int .i64 a] 103)
  generalize w1.alloc (.cells #[.int .i64 c, .int .i64 o, .int .i64 i, .int .i64 n, .int .i64 a] 103) = w2 at hA hN ⊢
  with_reducible refine (H5.out _ _ _ hA).mono ?_
  rintro e w3 ⟨rfl, hN2⟩
  have HN3 := Lib.hid (hN.then_new hN2); clear hN hN2 hA
  go_wp2_with fail
  go_ret
  exact ⟨rfl, HN3.out⟩
theorem any_not (f : It → Bool) (xs : List It) : (xs.any fun x => !f x) = !(xs.all f) := by
  induction xs with
  | nil => rfl
  | cons x xs ih => simp only [List.any_cons, List.all_cons, ih]; cases f x <;> simp
set_option maxRecDepth 100000 in
set_option maxHeartbeats 4000000 in
theorem layable_any (xs : List It) (A : Option Addr) (n c : Nat) (w : World) (F : Nat → Prop) (hl : xs.length = n) (hb : n ≤ 1000000000000000000) (hA : Its w F A xs) (hF : ∀ k, F k → k < w.heap.size) :
    Calls Try.prog 42 #[.slice A n c] w fun e w' => e = .returned (.bool (xs.all layB)) ∧ New w w' := by
  have HC := Lib.hid (contains_lay (fun x => !layB x) xs A n c w F hl hb hA hF (fun x w1 _ => lay1_any x w1))
  rw [any_not] at HC
  obtain ⟨b, hb⟩ : ∃ b, b = xs.all layB := ⟨_, rfl⟩
  rw [← hb] at HC ⊢
  clear hb hA hF hl
  go_enter Try.func42, Try.ntmps42
  go_wp2_with fail
  with_reducible refine HC.out.mono ?_
  rintro e w1 ⟨rfl, hN⟩
  have HN := Lib.hid hN; clear hN
  go_wp2_with fail
  go_ret
  exact ⟨by cases b <;> rfl, HN.out⟩
theorem flds_1 {w : World} {g : Nat} {x y : Int} (h : Has w g 91 #[.int .i64 x, .int .i64 y]) : Flds w (· = g) (some ⟨g, 0, none⟩) 1 (fun _ => x) (fun _ => y) := by
  intro i hi
  obtain rfl : i = 0 := by omega
  have hadd : (⟨g, 0, none⟩ : Addr).add (0 * 2) = ⟨g, 0, none⟩ := by simp [Addr.add]
  exact ⟨_, rfl, rfl, by rw [hadd]; exact (h.cell 0).trans rfl, by rw [hadd]; exact (h.cell 1).trans rfl⟩
def f3 (x y z : Int) (i : Nat) : Int := if i = 0 then x else if i = 1 then y else z
theorem flds_3 {w : World} {g : Nat} {x0 y0 x1 y1 x2 y2 : Int} (h : Has w g 91 #[.int .i64 x0, .int .i64 y0, .int .i64 x1, .int .i64 y1, .int .i64 x2, .int .i64 y2]) : Flds w (· = g) (some ⟨g, 0, none⟩) 3 (f3 x0 x1 x2) (f3 y0 y1 y2) := by
  intro i hi
  rcases (show i = 0 ∨ i = 1 ∨ i = 2 by omega) with rfl | rfl | rfl
  · exact ⟨_, rfl, rfl, by simpa [Addr.add, f3] using (h.cell 0).trans rfl, by simpa [Addr.add, f3] using (h.cell 1).trans rfl⟩
  · exact ⟨_, rfl, rfl, by simpa [Addr.add, f3] using (h.cell 2).trans rfl, by simpa [Addr.add, f3] using (h.cell 3).trans rfl⟩
  · exact ⟨_, rfl, rfl, by simpa [Addr.add, f3] using (h.cell 4).trans rfl, by simpa [Addr.add, f3] using (h.cell 5).trans rfl⟩
/-- a writer whose bytes are B -/
def WB (w : World) (b : Nat) (v : Value) (B : List Nat) : Prop := Wrt w b v (unpack B)
theorem WB.lt {w : World} {b : Nat} {v : Value} {B : List Nat} (h : WB w b v B) : b < w.heap.size := Has.lt h.1
/-- Put of one number in 32 bits -/
theorem put_32 (b g : Nat) (v : Value) (B : List Nat) (n : Int) (w : World) (hW : WB w b v B) (hg : Has w g 91 #[.int .i64 32, .int .i64 n]) (hv : v.ownBlock ≠ some g) (h0 : 0 ≤ n) (h1 : n ≤ 2147483648) (hB : B.length ≤ 70368744170000) :
    Calls Try.prog 43 #[.pointer (some ⟨b, 0, none⟩), .slice (some ⟨g, 0, none⟩) 1 1] w fun e w' => e = .returned (.int .i64 0) ∧ ∃ v', WB w' b v' (B ++ fourB n.toNat) ∧ WrX w w' b v v' := by
  refine (Put_ok b (· = g) v (unpack B) (some ⟨g, 0, none⟩) 1 1 (fun _ => 32) (fun _ => n) w hW (flds_1 hg) (fun k hk => by subst hk; exact ⟨hg.lt, fun e => by subst e; exact absurd rfl (Has.apart hg hW.1 (by decide)), hv⟩) (by rw [unpack_len]; omega) (fun j _ => ?_)).mono ?_
  · simp only [okF, decide_eq_true_eq]
    exact ⟨by omega, by omega, h0, by have : (2 : Int) ^ (32 : Int).toNat = 4294967296 := by decide
                                      omega⟩
  · rintro e w' ⟨rfl, v', h2, h3⟩
    refine ⟨rfl, v', ?_, h3⟩
    have e : unpack B ++ fbits (fun _ => (32 : Int)) (fun _ => n) 1 = unpack (B ++ fourB n.toNat) := by rw [unpack_app, four_bits]; rfl
    rw [e] at h2
    exact h2
/-- Put of the head -/
theorem put_head (b g : Nat) (v : Value) (tv : Int) (n m : Nat) (w : World) (hW : WB w b v []) (hg : Has w g 91 #[.int .i64 32, .int .i64 tv, .int .i64 8, .int .i64 n, .int .i64 8, .int .i64 m]) (hv : v.ownBlock ≠ some g) (h0 : 0 ≤ tv) (h1 : tv ≤ 2147483648) (hn : n < 256) (hm : m < 256) :
    Calls Try.prog 43 #[.pointer (some ⟨b, 0, none⟩), .slice (some ⟨g, 0, none⟩) 3 3] w fun e w' => e = .returned (.int .i64 0) ∧ ∃ v', WB w' b v' (fourB tv.toNat ++ [n % 256, m % 256]) ∧ WrX w w' b v v' := by
  refine (Put_ok b (· = g) v (unpack []) (some ⟨g, 0, none⟩) 3 3 (f3 32 8 8) (f3 tv n m) w hW (flds_3 hg) (fun k hk => by subst hk; exact ⟨hg.lt, fun e => by subst e; exact absurd rfl (Has.apart hg hW.1 (by decide)), hv⟩) (by rw [unpack_len]; simp) (fun j hj => ?_)).mono ?_
  · have e32 : (2 : Int) ^ (32 : Int).toNat = 4294967296 := by decide
    have e8 : (2 : Int) ^ (8 : Int).toNat = 256 := by decide
    rcases (show j = 0 ∨ j = 1 ∨ j = 2 by omega) with rfl | rfl | rfl
    · simp only [f3, okF, decide_eq_true_eq, if_true, e32]; omega
    · simp only [f3, okF, decide_eq_true_eq, if_true, show ¬ (1 : Nat) = 0 by decide, if_false, e8]; omega
    · simp only [f3, okF, decide_eq_true_eq, show ¬ (2 : Nat) = 0 by decide, show ¬ (2 : Nat) = 1 by decide, if_false, e8]; omega
  · rintro e w' ⟨rfl, v', h2, h3⟩
    refine ⟨rfl, v', ?_, h3⟩
    have e : unpack [] ++ fbits (f3 32 8 8) (f3 tv n m) 3 = unpack (fourB tv.toNat ++ [n % 256, m % 256]) := by
      rw [unpack_app, four_bits, show [n % 256, m % 256] = [n % 256] ++ [m % 256] from rfl, unpack_app, one_bits _ (Nat.mod_lt _ (by decide)), one_bits _ (Nat.mod_lt _ (by decide)), bitsOf_mod 8, bitsOf_mod 8]
      simp only [fbits, f3, unpack, List.flatMap_nil, List.nil_append, if_true, show ¬ (1 : Nat) = 0 by decide, show ¬ (2 : Nat) = 0 by decide, show ¬ (2 : Nat) = 1 by decide, if_false, List.append_assoc, Int.toNat_natCast]
      rfl
    rw [e] at h2
    exact h2
end Go.Proofs.Ytficopkjpdfilaa
