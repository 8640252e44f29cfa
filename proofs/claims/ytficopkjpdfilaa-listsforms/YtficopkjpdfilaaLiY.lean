/-
  Contracts for ListsForms: Put and Get with the mathematics of both ways.
-/
import Derived.Test.YtficopkjpdfilaaLiX
import Derived.Test.YtficopkjpdfilaaLiW
import Derived.Test.YtficopkjpdfilaaLAgain12
namespace Go.Proofs.Ytficopkjpdfilaa
open Go.RowKit
open Go.ChangeShapes Go.WideShapes Go.ChangeAt Go.Joins
/-- the bytes that Put gives, none with a word -/
def putB (tv : Int) (add off : List It) : List Nat := if putE tv add off = 0 then delB tv add off else []
theorem putB_small (tv : Int) (add off : List It) : ∀ x ∈ putB tv add off, x < 256 := by
  intro x hx
  unfold putB at hx
  split at hx
  · exact delB_small tv add off x hx
  · cases hx
theorem putB_bound (tv : Int) (add off : List It) : (putB tv add off).length ≤ 3000 := by
  unfold putB
  split
  · rename_i h
    obtain ⟨_, _, _, h5, h6⟩ := putE_zero h
    rw [delB_len]; omega
  · simp
theorem putB_pos {tv : Int} {add off : List It} (h : putE tv add off ≠ 0) : (putB tv add off).length = 0 := by
  unfold putB
  rw [if_neg h]
  rfl
theorem PutR.one {w w' : World} {tv : Int} {add off : List It} {e : Ending} (h : PutR w tv add off e w') : ∃ A c, e = .returned (.tuple #[.slice A (putB tv add off).length c, .int .i64 (putE tv add off)]) ∧ w'.ownsRow w.heap.size 5 1 (.slice A (putB tv add off).length c) (putB tv add off).length ((putB tv add off).map bV) := by
  unfold putB
  rcases h with ⟨h0, A, c, he, hO⟩ | ⟨h0, he⟩
  · rw [if_pos h0, h0]
    exact ⟨A, c, he, hO⟩
  · rw [if_neg h0]
    exact ⟨none, 0, he, rfl, Or.inl ⟨rfl, rfl⟩⟩
theorem GetR.back {w w' : World} {tv : Int} {add off : List It} {e : Ending} (hx : putE tv add off = 0) (h : GetR w (putB tv add off) e w') : ∃ A1 c1 A2 c2, e = .returned (.tuple #[.agg #[.int .i64 tv, .slice A1 add.length c1, .slice A2 off.length c2], .int .i64 0]) ∧
    w'.ownsRow w.heap.size 44 5 (.slice A1 add.length c1) add.length (ics add) ∧ w'.ownsRow w.heap.size 44 5 (.slice A2 off.length c2) off.length (ics off) ∧ New w w' := by
  unfold putB at h
  rw [if_pos hx] at h
  obtain ⟨h1, h2, h3, h4⟩ := get_put hx
  unfold GetR at h
  rw [h1, h2, h3, h4] at h
  obtain ⟨⟨A1, c1, A2, c2, he, hO1, hO2⟩, hN⟩ := h
  exact ⟨A1, c1, A2, c2, he, hO1, hO2, hN⟩
theorem PutR.back {w w' : World} {bs : List Nat} {e : Ending} (hx : getE bs = 0) (h256 : ∀ x ∈ bs, x < 256) (h : PutR w (getT bs) (getA bs) (getO bs) e w') : ∃ A c, e = .returned (.tuple #[.slice A bs.length c, .int .i64 0]) ∧ w'.ownsRow w.heap.size 5 1 (.slice A bs.length c) bs.length (bs.map bV) := by
  obtain ⟨h1, h2⟩ := put_get hx h256
  obtain ⟨A, c, he, hO⟩ := h.one
  unfold putB at he hO
  rw [if_pos h1, h2, h1] at he
  rw [if_pos h1, h2] at hO
  exact ⟨A, c, he, hO⟩
theorem get_bound (bs : List Nat) : (getA bs).length ≤ 64 ∧ (getO bs).length ≤ 64 := by
  by_cases h : getE bs = 0
  · obtain ⟨h6, h1, h2, h3, h4, h5⟩ := getE_zero h
    unfold getA getO
    rw [if_pos h, if_pos h, getIts_len, getIts_len]
    exact ⟨h2, h3⟩
  · unfold getA getO
    rw [if_neg h, if_neg h]
    simp
theorem own_its {w w' : World} {base c n : Nat} {A : Option Addr} {xs : List It} (h : w.ownsRow base 44 5 (.slice A n c) n (ics xs)) (hN : New w w') : Its w' (· < w'.heap.size) A xs :=
  (Its.of_own (own_new h hN)).mono (own_lt (own_new h hN))
theorem Its.any {w w' : World} {A : Option Addr} {xs : List It} (h : Its w (· < w.heap.size) A xs) (hN : New w w') : Its w' (· < w'.heap.size) A xs :=
  (h.new hN (fun _ h => h)).mono fun _ hk => Nat.lt_of_lt_of_le hk hN.size
/-- Same of two rows that hold the same -/
theorem Same_eq (xs : List It) (A B : Option Addr) (n m ca cb : Nat) (w : World) (hl : xs.length = n) (hm : xs.length = m) (hb : n ≤ 1000000000000000000) (hA : Its w (· < w.heap.size) A xs) (hB : Its w (· < w.heap.size) B xs) :
    Calls Try.prog 13 #[.slice A n ca, .slice B m cb] w fun e w' => e = .returned (.bool true) ∧ New w w' :=
  (Same_any xs xs A B n m ca cb w _ hl hm hb (by omega) hA hB).mono fun e w' ⟨he, hN⟩ => ⟨by rw [he]; simp, hN⟩
theorem own_its_len {w : World} {base c n : Nat} {A : Option Addr} {xs : List It} (h : w.ownsRow base 44 5 (.slice A n c) n (ics xs)) : xs.length = n := by
  have := h.1
  rw [ics_len] at this
  omega
end Go.Proofs.Ytficopkjpdfilaa
