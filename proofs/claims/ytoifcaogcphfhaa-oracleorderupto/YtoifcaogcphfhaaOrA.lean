/-
  The laws' joined and awake.
-/
import Derived.Test.YtoifcaogcphfhaaOrR
namespace Go.Proofs.Ytoifcaogcphfhaa
open Go.ChangeShapes Go.WideShapes Go.ChangeAt Go.RowKit Go.Maps
theorem bstr_append (a b : List Nat) : bstr (a ++ b) = bstr a ++ bstr b := by
  apply ByteArray.ext
  simp [bstr]
set_option maxRecDepth 100000 in
set_option maxHeartbeats 2000000 in
theorem joined_any (A : Option Addr) (n c : Nat) (F : Nat → Prop) (L : List (List Nat)) (w : World) (hA : Lists w F A L) (hn : L.length = n) (hb : n ≤ 2000000) (hT : L.flatten.length ≤ 140737488355328) :
    Calls Try.prog 7 #[.slice A n c] w fun e w' => e = .returned (.string (bstr L.flatten)) ∧ w' = w := by
  obtain ⟨vs, hV, hB⟩ := hA
  rw [hn] at hV hB
  have HV := Lib.hid hV; clear hV
  have HB := Lib.hid hB; clear hB
  have Hn := Lib.hid hn; clear hn
  have HT := Lib.hid hT; clear hT
  go_enter Try.func7, Try.ntmps7
  go_wp2_with fail
  go_loopg [3, 4] n (fun gk a i wr => ∃ (k : Nat) (s : ByteArray), k ≤ n ∧ gk = n - k ∧ a = .string s ∧ s = bstr (L.take k).flatten ∧ i = .int .i64 k ∧ w = wr)
  case atStart => exact ⟨0, _, by omega, by omega, rfl, rfl, rfl, rfl⟩
  case round =>
    obtain ⟨k, s, hk, rfl, rfl, hs, rfl, rfl⟩ := hrel
    by_cases hlt : k < n
    · obtain ⟨a, rfl, _, hc⟩ := HV.out k hlt
      have hcv := (HB.out k hlt).string
      obtain ⟨B, cb, hve, _⟩ := HB.out k hlt
      rw [hve] at hc hcv
      have HFl : Hid ((L.take (k + 1)).flatten = (L.take k).flatten ++ L.getD k []) := flat_take L k (by rw [Hn.out]; exact hlt)
      have hz : s.size + (bstr (L.getD k [])).size ≤ 140737488355328 := by
        have := Nat.le_trans (flat_len_le L (k + 1)) HT.out
        rw [HFl.out, List.length_append] at this
        rw [hs, bstr_size, bstr_size]
        exact this
      obtain ⟨q, hq⟩ : ∃ q, q = (L.getD k []).length := ⟨_, rfl⟩
      obtain ⟨s2, hs2⟩ : ∃ s2, s2 = bstr (L.getD k []) := ⟨_, rfl⟩
      rw [← hq] at hc hcv
      rw [← hs2] at hcv hz
      have Hs := Lib.hid hs; clear hs
      have Hs2 := Lib.hid hs2; clear hs2
      clear hq hve
      go_wp2_with fail
      go_roundg (n - (k + 1))
      case measure => omega
      case rel => exact ⟨k + 1, s ++ s2, by omega, rfl, rfl, by rw [HFl.out, bstr_append, Hs.out, Hs2.out], by go_num, rfl⟩
    · obtain rfl : k = n := by omega
      have hall : L.take k = L := List.take_of_length_le (by rw [Hn.out]; omega)
      rw [hall] at hs
      have Hs := Lib.hid hs; clear hs hall
      go_wp2_with fail
      go_ret
      exact ⟨by rw [← Hs.out]; rfl, rfl⟩
def aX : Sl := ⟨1, 0, 0, 1, bstr [97, 98]⟩
def aY : Sl := ⟨1, 0, 0, 2, bstr [97, 98]⟩
theorem aXY : aX ≠ aY := by intro h; have := congrArg Sl.v h; simp [aX, aY] at this
theorem mintN_x0 : mintN [] aX = 1 := by simp [mintN]
theorem mintL_x0 : mintL [] aX = [aX] := by simp [mintL]
theorem mintN_x1 : mintN [aX] aX = 1 := by simp [mintN, atN]
theorem mintL_x1 : mintL [aX] aX = [aX] := by simp [mintL]
theorem mintN_y : mintN [aX] aY = 2 := by simp [mintN, aXY.symm]
theorem mintL_y : mintL [aX] aY = [aX, aY] := by simp [mintL, aXY.symm]
theorem holds_x1 : holdsB [aX, aY] aX 1 = true := by simp [holdsB, atN]
theorem holds_x2 : holdsB [aX, aY] aX 2 = false := by simp [holdsB, atN]
/-- an oracle's letters -/
def OrcV (w : World) (base g : Nat) (M : List Sl) (mv sv : Value) : Prop := Has w g 28 #[mv, sv] ∧ base ≤ g ∧ w.ownsRow base 53 5 sv M.length (slRow M) ∧
  ((mv = .map none ∧ M = []) ∨ ∃ b, mv = .map (some b) ∧ base ≤ b ∧ Mp w b M) ∧ (∀ y ∈ M, SlOk y) ∧ M.Nodup
theorem Orc.letters {w : World} {base g : Nat} {M : List Sl} (h : Orc w base g M) : ∃ mv sv, OrcV w base g M mv sv := h
theorem OrcV.orc {w : World} {base g : Nat} {M : List Sl} {mv sv : Value} (h : OrcV w base g M mv sv) : Orc w base g M := ⟨mv, sv, h⟩
theorem Orc.made (w : World) : Orc (w.alloc (.cells #[.map none, .slice none 0 0] 28)) w.heap.size w.heap.size [] :=
  ⟨.map none, .slice none 0 0, Has.new w _ _, Nat.le_refl _, World.ownsRow_nil _ _ _ _, Or.inl ⟨rfl, rfl⟩, by simp, by simp⟩
/-- Mint, in short -/
theorem Mint_orc (base g : Nat) (M : List Sl) (k0 k1 k2 k3 : Int) (h0 : (Lit.int .i64 k0).wf = true) (h1 : (Lit.int .i64 k1).wf = true) (h2 : (Lit.int .i64 k2).wf = true) (h3 : (Lit.int .i64 k3).wf = true)
    (A : Option Addr) (n c : Nat) (F : Nat → Prop) (L : List (List Nat)) (w : World) (hM : Orc w base g M) (hm : M.length ≤ 1000)
    (hA : Lists w F A L) (hF : ∀ k, F k → k < w.heap.size) (hn : L.length = n) (hnc : n ≤ c) (hb : n ≤ 2000000) (hT : L.flatten.length ≤ 140737488355328) :
    Calls Try.prog 11 #[.pointer (some ⟨g, 0, none⟩), .agg #[.int .i64 k0, .int .i64 k1, .int .i64 k2, .int .i64 k3], .slice A n c] w fun e w' => e = .returned (.int .i64 (mintN M ⟨k0, k1, k2, k3, bstr L.flatten⟩ : Nat)) ∧ Orc w' base g (mintL M ⟨k0, k1, k2, k3, bstr L.flatten⟩) ∧ Chg (OS base w) w w' := by
  obtain ⟨mv, sv, a1, a2, a3, a4, a5, a6⟩ := hM
  exact (Mint_any base g M k0 k1 k2 k3 h0 h1 h2 h3 A n c F L w mv sv a1 a2 a3 a4 a5 a6 hm hA hF hn hnc hb hT).mono fun e w' h => ⟨h.1, h.2.1, h.2.2.1⟩
theorem Chg.os_new {base : Nat} {w w' : World} (h : Chg (OS base w) w w') (hb : w.heap.size ≤ base) : New w w' := h.mono fun i hi hS => by have := hS.1; omega
end Go.Proofs.Ytoifcaogcphfhaa
