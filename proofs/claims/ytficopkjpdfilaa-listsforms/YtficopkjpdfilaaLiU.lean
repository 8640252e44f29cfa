/-
  The document's four, Numbers, num.
-/
import Derived.Test.YtficopkjpdfilaaLiO
namespace Go.Proofs.Ytficopkjpdfilaa
open Go.RowKit
set_option maxRecDepth 100000 in
set_option maxHeartbeats 4000000 in
theorem four_any (n : Nat) (hn : n ≤ 2147483648) (w : World) : Calls Try.prog 46 #[.int .i64 (n : Int)] w fun e w' => e = .returned (.slice (some ⟨w.heap.size, 0, none⟩) 4 4) ∧ w' = w.alloc (.cells ((fourB n).map bV).toArray 5) := by
  go_enter Try.func46, Try.ntmps46
  go_wp2_with fail
  go_ret
  refine ⟨rfl, ?_⟩
  have e0 : (n : Int) / 16777216 = ((n / 16777216 % 256 : Nat) : Int) := by omega
  have e1 : (n : Int) / 65536 % 256 = ((n / 65536 % 256 : Nat) : Int) := by omega
  have e2 : (n : Int) / 256 % 256 = ((n / 256 % 256 : Nat) : Int) := by omega
  have e3 : (n : Int) % 256 = ((n % 256 : Nat) : Int) := by omega
  rw [e0, e1, e2, e3]
  rfl
set_option maxRecDepth 100000 in
set_option maxHeartbeats 4000000 in
theorem Numbers_any (x : It) (w : World) : Calls Try.prog 47 #[x.V] w fun e w' => e = .returned (.slice (some ⟨w.heap.size + 1, 0, none⟩) 5 5) ∧ Has w' (w.heap.size + 1) 3 x.C ∧ New w w' := by
  obtain ⟨c, o, i, n, a⟩ := x
  go_enter Try.func47, Try.ntmps47
  go_wp2_with fail
  go_ret
  exact ⟨rfl, Has.new_at _ _ _ _ (by simp), ((Chg.refl _ _).alloc _).alloc _⟩
set_option maxRecDepth 100000 in
set_option maxHeartbeats 4000000 in
theorem num_any (b0 b1 b2 b3 : Nat) (h0 : b0 < 256) (h1 : b1 < 256) (h2 : b2 < 256) (h3 : b3 < 256) (ad : Addr) (n c : Nat) (hn : 4 ≤ n) (hb : n ≤ 1000000000000000000) (w : World) (c0 : w.cell? ad = some (.int .u8 (b0 : Int))) (c1 : w.cell? (ad.add 1) = some (.int .u8 (b1 : Int))) (c2 : w.cell? (ad.add 2) = some (.int .u8 (b2 : Int))) (c3 : w.cell? (ad.add 3) = some (.int .u8 (b3 : Int))) :
    Calls Try.prog 53 #[.slice (some ad) n c] w fun e w' => e = .returned (.int .i64 ((((b0 * 256 + b1) * 256 + b2) * 256 + b3 : Nat) : Int)) ∧ New w w' := by
  have hadd : ∀ k, 0 < k → ad.add k = ⟨ad.block, ad.off + k, none⟩ := fun k hk => by unfold Addr.add; rw [if_neg (by omega)]
  rw [hadd 1 (by omega)] at c1
  rw [hadd 2 (by omega)] at c2
  rw [hadd 3 (by omega)] at c3
  clear hadd
  have r0 : 0 < n := by omega
  have r1 : 1 < n := by omega
  have r2 : 2 < n := by omega
  have r3 : 3 < n := by omega
  have q1 : (1 : Int) < (n : Int) := by omega
  have q2 : (2 : Int) < (n : Int) := by omega
  have q3 : (3 : Int) < (n : Int) := by omega
  have q0 : (0 : Int) < (n : Int) := by omega
  have f1 : IntKind.i64.wrap ((b0 : Int) * 256) = (b0 : Int) * 256 := IntWalk.i64_in _ (by omega)
  have f2 : IntKind.i64.wrap ((b0 : Int) * 256 + (b1 : Int)) = (b0 : Int) * 256 + (b1 : Int) := IntWalk.i64_in _ (by omega)
  have f3 : IntKind.i64.wrap (((b0 : Int) * 256 + (b1 : Int)) * 256) = ((b0 : Int) * 256 + (b1 : Int)) * 256 := IntWalk.i64_in _ (by omega)
  have f4 : IntKind.i64.wrap (((b0 : Int) * 256 + (b1 : Int)) * 256 + (b2 : Int)) = ((b0 : Int) * 256 + (b1 : Int)) * 256 + (b2 : Int) := IntWalk.i64_in _ (by omega)
  have f5 : IntKind.i64.wrap ((((b0 : Int) * 256 + (b1 : Int)) * 256 + (b2 : Int)) * 256) = (((b0 : Int) * 256 + (b1 : Int)) * 256 + (b2 : Int)) * 256 := IntWalk.i64_in _ (by omega)
  have f6 : IntKind.i64.wrap ((((b0 : Int) * 256 + (b1 : Int)) * 256 + (b2 : Int)) * 256 + (b3 : Int)) = (((b0 : Int) * 256 + (b1 : Int)) * 256 + (b2 : Int)) * 256 + (b3 : Int) := IntWalk.i64_in _ (by omega)
  have g0 : IntKind.i64.wrap (b0 : Int) = (b0 : Int) := IntWalk.i64_in _ (by omega)
  have g1 : IntKind.i64.wrap (b1 : Int) = (b1 : Int) := IntWalk.i64_in _ (by omega)
  have g2 : IntKind.i64.wrap (b2 : Int) = (b2 : Int) := IntWalk.i64_in _ (by omega)
  have g3 : IntKind.i64.wrap (b3 : Int) = (b3 : Int) := IntWalk.i64_in _ (by omega)
  clear h0 h1 h2 h3 hn hb
  go_enter Try.func53, Try.ntmps53
  go_wp2_with fail
  go_region
  all_goals
    go_wp2_with fail
    go_ret
    exact ⟨by push_cast; rfl, (Chg.refl _ _).drew⟩
end Go.Proofs.Ytficopkjpdfilaa
