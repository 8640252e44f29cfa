/-
  What the law StampBack does: it returns true and turns nothing that was there.
-/
import Derived.Test.YtcnnakidpnhecaaAwake
import Derived.Test.YtcnnakidpnhecaaDecB
namespace Go.Proofs.Ytcnnakidpnhecaa
open Go.RowKit
theorem i64_wf {n : Int} (h : (Lit.int .i64 n).wf = true) : -9223372036854775808 ≤ n ∧ n ≤ 9223372036854775807 := by
  simpa [Lit.wf, IntKind.min, IntKind.max, IntKind.signed, IntKind.bits] using h
theorem own_arr_bs {w : World} {base n c : Nat} {A : Option Addr} {bs : List Nat} (hl : bs.length = n) (h : w.ownsRow base 5 1 (.slice A n c) n (bs.map bV)) : Arr w (fun k => Value.ownBlock (.slice A n c) = some k) A n (fun i => bV (bs.getD i 0)) := by
  subst hl; exact own_arr_bytes h
/-- Digits where it is an error, of whatever kind -/
theorem Digits_err (n c : Int) (w : World) (hn : n ≤ 9223372036854775807) (h : ¬ (0 ≤ n ∧ 1 ≤ c ∧ c ≤ 18 ∧ n.toNat < 10 ^ c.toNat)) :
    Calls Try.prog 12 #[.int .i64 n, .int .i64 c] w fun e w' => e = .returned (.tuple #[.slice none 0 0, .int .i64 2]) ∧ New w w' := by
  by_cases h1 : c < 1 ∨ 18 < c ∨ n < 0
  · refine (Digits_no n c w h1).mono ?_
    rintro e w' ⟨rfl, rfl⟩
    exact ⟨rfl, Chg.refl _ _⟩
  · obtain ⟨nn, rfl⟩ : ∃ nn : Nat, n = (nn : Int) := ⟨n.toNat, by omega⟩
    obtain ⟨cc, rfl⟩ : ∃ cc : Nat, c = (cc : Int) := ⟨c.toNat, by omega⟩
    rw [Int.toNat_natCast, Int.toNat_natCast] at h
    exact Digits_big nn cc w (by omega) (by omega) (by omega) (fun hlt => h ⟨by omega, by omega, by omega, hlt⟩)
set_option maxHeartbeats 1000000 in
theorem back_walk (n c : Int) (w : World) (hn : (Lit.int .i64 n).wf = true) :
    Calls Try.prog 4 #[.int .i64 n, .int .i64 c] w fun e w' => e = .returned (.bool true) ∧ New w w' := by
  have hb := (i64_wf hn).2
  clear hn
  by_cases h : 0 ≤ n ∧ 1 ≤ c ∧ c ≤ 18 ∧ n.toNat < 10 ^ c.toNat
  · obtain ⟨h1, h2, h3, h4⟩ := h
    obtain ⟨nn, rfl⟩ : ∃ nn : Nat, n = (nn : Int) := ⟨n.toNat, by omega⟩
    obtain ⟨cc, rfl⟩ : ∃ cc : Nat, c = (cc : Int) := ⟨c.toNat, by omega⟩
    rw [Int.toNat_natCast, Int.toNat_natCast] at h4
    have hd := fun w => Digits_ok nn cc w (by omega) (by omega) (by omega) h4
    obtain ⟨r1, r2⟩ := read_back nn cc (by omega) (by omega) h4
    have hm := dbytes_mem nn cc ((cc + 1) / 2)
    have hl := dbytes_length nn cc ((cc + 1) / 2)
    obtain ⟨L, hL⟩ : ∃ L, L = (cc + 1) / 2 := ⟨_, rfl⟩
    rw [← hL] at hd r1 r2 hm hl
    obtain ⟨bs, hbs⟩ : ∃ bs, bs = dbytes nn cc L := ⟨_, rfl⟩
    rw [← hbs] at hd r1 r2 hm hl
    have hlen : (((L : Int) == (cc : Int) / 2 + (cc : Int) % 2) = true) := by rw [beq_iff_eq]; omega
    have hL9 : L ≤ 9 := by omega
    have HD := Lib.hid hd; clear hd
    have HR1 := Lib.hid r1; clear r1
    have HR2 := Lib.hid r2; clear r2
    have HM := Lib.hid hm; clear hm
    have HLn := Lib.hid hl; clear hl
    clear hL hbs h4
    go_enter Try.func4, Try.ntmps4
    go_wp2_with fail
    with_reducible refine (awake_any _).mono ?_
    rintro e w1 ⟨rfl, hN1⟩
    have HN1 := Lib.hid hN1; clear hN1
    go_wp2_with fail
    with_reducible refine (HD.out _).mono ?_
    rintro e w2 ⟨g, rfl, hO2, hN2⟩
    have hA := own_arr_bs HLn.out hO2
    have hNm := Number_any (some ⟨g, 0, none⟩) L L _ bs w2 hA HLn.out HM.out (by omega)
    rw [HR1.out, HR2.out] at hNm
    have HNm := Lib.hid hNm
    have HN2 := Lib.hid hN2; clear hN2 hO2 hA hNm
    go_wp2_with fail
    with_reducible refine HNm.out.mono ?_
    rintro e w3 ⟨rfl, rfl⟩
    go_wp2
    go_ret
    exact ⟨rfl, HN1.out.then_new HN2.out⟩
  · have hd := fun w => Digits_err n c w hb h
    have HD := Lib.hid hd; clear hd h
    go_enter Try.func4, Try.ntmps4
    go_wp2_with fail
    with_reducible refine (awake_any _).mono ?_
    rintro e w1 ⟨rfl, hN1⟩
    have HN1 := Lib.hid hN1; clear hN1
    go_wp2_with fail
    with_reducible refine (HD.out _).mono ?_
    rintro e w2 ⟨rfl, hN2⟩
    have HN2 := Lib.hid hN2; clear hN2
    go_wp2
    go_ret
    exact ⟨rfl, HN1.out.then_new HN2.out⟩
theorem back_law {W : World} (n : Int) (hn : (Lit.int .i64 n).wf = true) (c : Int) (_ : (Lit.int .i64 c).wf = true) :
    Calls Try.prog 4 #[.int .i64 n, .int .i64 c] W fun e w' => e = .returned (.bool true) ∧ New W w' := back_walk n c W hn
end Go.Proofs.Ytcnnakidpnhecaa
