/-
  What (bits.Field).right does for every input; the state of a writer.
-/
import Derived.Test.YtjkpijinpfimiaaBRb
import Derived.Deep.DeepCutAuto
import Derived.Deep.RegionWith
import Derived.Deep.LoopGhost
namespace Go.Proofs.Ytjkpijinpfimiaa
open Go.RowKit
theorem Try.cells118 : Try.prog.cellsOf 118 = 2 := by kernel_rfl

theorem qs {P : Program} {f : FuncId} {args : Array Value} {w : World} {n : Nat} {v : Value} (h : Calls P f args (w.drewN n) fun e w' => e = .returned v ∧ w.drewN n = w') : Calls P f args (w.drewN n) fun e w' => e = .returned v ∧ ∃ m, w' = w.drewN m :=
  h.mono fun _ _ ⟨he, hw⟩ => ⟨he, n, hw.symm⟩
theorem two_pow_le (n : Nat) (h : n ≤ 32) : (2 : Int) ^ n ≤ 4294967296 := by
  have h' : (2 : Nat) ^ n ≤ 2 ^ 32 := Nat.pow_le_pow_right (by omega) h
  have : (((2 : Nat) ^ n : Nat) : Int) ≤ ((2 ^ 32 : Nat) : Int) := by exact_mod_cast h'
  simpa using this
theorem two_pow_pos (n : Nat) : (0 : Int) < 2 ^ n := Int.pow_pos (by omega)
def okF (wd v : Int) : Bool := decide (1 ≤ wd ∧ wd ≤ 32 ∧ 0 ≤ v ∧ v < 2 ^ wd.toNat)
set_option maxRecDepth 100000 in
set_option maxHeartbeats 400000 in
theorem right_any (wd v : Int) (w : World) :
    Calls Try.prog 87 #[.agg #[.int .i64 wd, .int .i64 v]] w fun e w' => e = .returned (.bool (okF wd v)) ∧ New w w' := by
  by_cases h1 : 1 ≤ wd ∧ wd ≤ 32
  · have hrw : rw wd = true := by simp [rw, h1]
    obtain ⟨h1, h2⟩ := h1
    by_cases h3 : 0 ≤ v
    · go_enter Try.func87, Try.ntmps87
      go_wp2
      go_quiet ((go_at_call 84; exact qs (rightWidth_any _ _)))
      go_wp2
      go_ret
      refine ⟨?_, ((Chg.refl _ _).alloc _).drewN _⟩
      have e2 : IntKind.i64.wrap (2 ^ wd.toNat) = 2 ^ wd.toNat := IntWalk.i64_in _ (by have := two_pow_le wd.toNat (by omega); have := two_pow_pos wd.toNat; omega)
      show Ending.returned (.bool (decide (v < IntKind.i64.wrap (2 ^ wd.toNat)))) = _
      rw [e2]
      simp [okF, h1, h2, h3]
    · have hd : decide (0 ≤ v) = false := by simpa using h3
      have Hn := Lib.hid h3; clear h3
      go_enter Try.func87, Try.ntmps87
      go_wp2
      go_quiet ((go_at_call 84; exact qs (rightWidth_any _ _)))
      go_wp2
      go_ret
      refine ⟨?_, ((Chg.refl _ _).alloc _).drewN _⟩
      have : okF wd v = false := by simp only [okF, decide_eq_false_iff_not]; exact fun h => absurd h.2.2.1 (by have := Hn.out; omega)
      rw [this]; rfl
  · have hrw : rw wd = false := by simp only [rw, h1, decide_false]
    have Hn := Lib.hid h1; clear h1
    go_enter Try.func87, Try.ntmps87
    go_wp2
    go_quiet ((go_at_call 84; exact qs (rightWidth_any _ _)))
    go_wp2
    go_ret
    refine ⟨?_, ((Chg.refl _ _).alloc _).drewN _⟩
    have : okF wd v = false := by simp only [okF, decide_eq_false_iff_not]; exact fun h => Hn.out ⟨h.1, h.2.1⟩
    rw [this]; rfl

/-- a writer of the bits L: its block b, the slice v of its bytes -/
def Wrt (w : World) (b : Nat) (v : Value) (L : List Bool) : Prop :=
  Has w b 129 #[v, .int .i64 (L.length : Int)] ∧ w.ownsRow 0 5 1 v (pack L).length ((pack L).map bV)
theorem Wrt.chg {S : Nat → Prop} {w w' : World} {b : Nat} {v : Value} {L : List Bool} (h : Wrt w b v L) (c : Chg S w w') (hb : ¬ S b) (hv : ∀ k, v.ownBlock = some k → ¬ S k) : Wrt w' b v L :=
  ⟨h.1.chg c hb, own_chg h.2 c hv⟩
def WrX (w wr : World) (b : Nat) (v vr : Value) : Prop := Chg (fun k => k = b ∨ v.ownBlock = some k) w wr ∧ (vr.ownBlock = v.ownBlock ∨ ∀ k, vr.ownBlock = some k → w.heap.size ≤ k)
theorem WrX.append {w wr w' : World} {b : Nat} {v vr vr' : Value} (h : WrX w wr b v vr) (hc : Chg (fun k => vr.ownBlock = some k) wr w') (hf : vr'.ownBlock = vr.ownBlock ∨ ∀ k, vr'.ownBlock = some k → wr.heap.size ≤ k) : WrX w w' b v vr' := by
  obtain ⟨h1, h2⟩ := h
  refine ⟨h1.trans hc fun i hi hk => ?_, ?_⟩
  · rcases h2 with h2 | h2
    · exact Or.inr (by rw [← h2]; exact hk)
    · exact absurd (h2 i hk) (by omega)
  · rcases hf with hf | hf
    · rcases h2 with h2 | h2
      · exact Or.inl (hf.trans h2)
      · exact Or.inr fun k hk => h2 k (by rw [← hf]; exact hk)
    · exact Or.inr fun k hk => Nat.le_trans h1.size (hf k hk)
theorem WrX.step {w wr w' : World} {b : Nat} {v vr : Value} (h : WrX w wr b v vr) (hc : Chg (fun k => k = b ∨ vr.ownBlock = some k) wr w') : WrX w w' b v vr := by
  obtain ⟨h1, h2⟩ := h
  refine ⟨h1.trans hc fun i hi hk => ?_, h2⟩
  rcases hk with hk | hk
  · exact Or.inl hk
  · rcases h2 with h2 | h2
    · exact Or.inr (by rw [← h2]; exact hk)
    · exact absurd (h2 i hk) (by omega)
/-- the state in the midst of writing a bit: what the bytes are, what the count is -/
def Mid (w0 wr : World) (b : Nat) (v vr : Value) (m cnt : Nat) (Pk : List Nat) (width value : Nat) : Prop :=
  Has wr b 129 #[vr, .int .i64 (cnt : Int)] ∧ wr.ownsRow 0 5 1 vr m (Pk.map bV) ∧ Has wr w0.heap.size 118 #[.int .i64 (width : Int), .int .i64 (value : Int)] ∧ WrX w0 wr b v vr
end Go.Proofs.Ytjkpijinpfimiaa
