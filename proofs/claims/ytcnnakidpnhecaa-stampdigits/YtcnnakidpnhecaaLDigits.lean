/-
  What the law StampDigits does: it returns true and turns nothing that was there.
-/
import Derived.Test.YtcnnakidpnhecaaStF
namespace Go.Proofs.Ytcnnakidpnhecaa
open Go.RowKit
theorem refDigits_ok (n c : Int) (w : World) (hn : n ≤ 9223372036854775807) (h : okD n c) :
    Calls Try.prog 13 #[.int .i64 n, .int .i64 c] w fun e w' => ∃ A cc, e = .returned (.tuple #[.slice A ((c.toNat + 1) / 2) cc, .bool true]) ∧ w'.ownsRow w.heap.size 5 1 (.slice A ((c.toNat + 1) / 2) cc) ((c.toNat + 1) / 2) ((fbytes n.toNat ((c.toNat + 1) / 2)).map bV) ∧ New w w' := by
  obtain ⟨h1, h2, h3, h4⟩ := h
  obtain ⟨nn, rfl⟩ : ∃ nn : Nat, n = (nn : Int) := ⟨n.toNat, by omega⟩
  obtain ⟨cc, rfl⟩ : ∃ cc : Nat, c = (cc : Int) := ⟨c.toNat, by omega⟩
  rw [Int.toNat_natCast, Int.toNat_natCast] at h4
  rw [Int.toNat_natCast, Int.toNat_natCast]
  refine (refDigits_any nn cc w (by omega) (by omega) (by omega)).mono ?_
  rintro e w' ⟨hN, hd⟩
  rw [if_pos h4] at hd
  obtain ⟨A, q, he, ho⟩ := hd
  exact ⟨A, q, he, ho, hN⟩
theorem refDigits_err (n c : Int) (w : World) (hn : n ≤ 9223372036854775807) (h : ¬ okD n c) :
    Calls Try.prog 13 #[.int .i64 n, .int .i64 c] w fun e w' => e = .returned (.tuple #[.slice none 0 0, .bool false]) ∧ New w w' := by
  by_cases h1 : c < 1 ∨ 18 < c ∨ n < 0
  · refine (refDigits_no n c w h1).mono ?_
    rintro e w' ⟨rfl, rfl⟩
    exact ⟨rfl, Chg.refl _ _⟩
  · obtain ⟨nn, rfl⟩ : ∃ nn : Nat, n = (nn : Int) := ⟨n.toNat, by omega⟩
    obtain ⟨cc, rfl⟩ : ∃ cc : Nat, c = (cc : Int) := ⟨c.toNat, by omega⟩
    refine (refDigits_any nn cc w (by omega) (by omega) (by omega)).mono ?_
    rintro e w' ⟨hN, hd⟩
    rw [if_neg (fun hlt => h ⟨by omega, by omega, by omega, by rw [Int.toNat_natCast, Int.toNat_natCast]; exact hlt⟩)] at hd
    exact ⟨hd, hN⟩
set_option maxHeartbeats 2000000 in
theorem digits_walk (n c : Int) (A : Option Addr) (bn bc : Nat) (bs : List Nat) (w : World) (hn : n ≤ 9223372036854775807) (hlen : bs.length = bn) (hA : Arr w (· < w.heap.size) A bn (fun i => bV (bs.getD i 0))) (h256 : ∀ x ∈ bs, x < 256) (hb : bn ≤ 9223372036854775807) :
    Calls Try.prog 3 #[.int .i64 n, .int .i64 c, .slice A bn bc] w fun e w' => e = .returned (.bool true) ∧ New w w' := by
  have hM := fun wx (h : New w wx) => Number_any A bn bc _ bs wx (hA.new h (fun k hk => hk)) hlen h256 hb
  have hK := fun wx (h : New w wx) => refNumber_any A bn bc _ bs wx (hA.new h (fun k hk => hk)) hlen h256 hb
  obtain ⟨V, hV⟩ : ∃ V, V = numVal bs := ⟨_, rfl⟩
  obtain ⟨E, hE⟩ : ∃ E, E = numErr bs := ⟨_, rfl⟩
  rw [← hV, ← hE] at hM hK
  have HM := Lib.hid hM; clear hM
  have HK := Lib.hid hK; clear hK
  clear hV hE hlen hA h256
  by_cases h : okD n c
  · have hD := fun w => Digits_okD n c w hn h
    have hQ := fun w => refDigits_ok n c w hn h
    obtain ⟨L, hL⟩ : ∃ L, L = (c.toNat + 1) / 2 := ⟨_, rfl⟩
    rw [← hL] at hD hQ
    obtain ⟨xs, hxs⟩ : ∃ xs, xs = fbytes n.toNat L := ⟨_, rfl⟩
    rw [← hxs] at hD hQ
    have HD := Lib.hid hD; clear hD
    have HQ := Lib.hid hQ; clear hQ
    clear hL hxs h
    go_enter Try.func3, Try.ntmps3
    go_wp2_with fail
    with_reducible refine (awake_any _).mono ?_
    rintro e w1 ⟨rfl, hN1⟩
    have HN1 := Lib.hid hN1; clear hN1
    go_wp2_with fail
    with_reducible refine (HD.out _).mono ?_
    rintro e w2 ⟨g, rfl, hO2, hN2⟩
    have HO2 := Lib.hid hO2; clear hO2
    have HN2 := Lib.hid (HN1.out.then_new hN2); clear hN2
    go_wp2_with fail
    with_reducible refine (HQ.out _).mono ?_
    rintro e w3 ⟨A3, c3, rfl, hO3, hN3⟩
    have HO2' := Lib.hid (own_new HO2.out hN3)
    have HO3 := Lib.hid hO3; clear hO3
    have HN3 := Lib.hid (HN2.out.then_new hN3); clear hN3
    go_wp2_with fail
    with_reducible refine (HM.out _ HN3.out).mono ?_
    rintro e w4 ⟨rfl, rfl⟩
    go_wp2_with fail
    with_reducible refine (HK.out _ HN3.out).mono ?_
    rintro e w5 ⟨rfl, kk, rfl⟩
    have hconv1 : (convert 22 9 (.slice (some ⟨g, 0, none⟩) L L)).run Try.prog (w3.drewN kk) = .ok (.string (bstr xs)) (w3.drewN kk) := own_string Try.underlying22 Try.underlying5 Try.underlying9 (own_new HO2'.out ((Chg.refl _ _).drewN kk))
    have hconv2 : (convert 22 9 (.slice A3 L c3)).run Try.prog (w3.drewN kk) = .ok (.string (bstr xs)) (w3.drewN kk) := own_string Try.underlying22 Try.underlying5 Try.underlying9 (own_new HO3.out ((Chg.refl _ _).drewN kk))
    go_wp2
    go_ret
    exact ⟨rfl, HN3.out.drewN _⟩
  · have HD := Lib.hid (fun w => Digits_err n c w hn h)
    have HQ := Lib.hid (fun w => refDigits_err n c w hn h)
    clear h
    have hnil : ∀ w, (convert 22 9 (.slice none 0 0)).run Try.prog w = .ok (.string ⟨#[]⟩) w := fun w => run_convert_bytes_nil w 22 5 Try.underlying22 Try.underlying5 0 0 9 Try.underlying9
    go_enter Try.func3, Try.ntmps3
    go_wp2_with fail
    with_reducible refine (awake_any _).mono ?_
    rintro e w1 ⟨rfl, hN1⟩
    have HN1 := Lib.hid hN1; clear hN1
    go_wp2_with fail
    with_reducible refine (HD.out _).mono ?_
    rintro e w2 ⟨rfl, hN2⟩
    have HN2 := Lib.hid (HN1.out.then_new hN2); clear hN2
    go_wp2_with fail
    with_reducible refine (HQ.out _).mono ?_
    rintro e w3 ⟨rfl, hN3⟩
    have HN3 := Lib.hid (HN2.out.then_new hN3); clear hN3
    go_wp2_with fail
    with_reducible refine (HM.out _ HN3.out).mono ?_
    rintro e w4 ⟨rfl, rfl⟩
    go_wp2_with fail
    with_reducible refine (HK.out _ HN3.out).mono ?_
    rintro e w5 ⟨rfl, kk, rfl⟩
    go_wp2
    go_ret
    exact ⟨rfl, HN3.out.drewN _⟩
theorem digits_law {W : World} (n : Int) (hn : (Lit.int .i64 n).wf = true) (c : Int) (_ : (Lit.int .i64 c).wf = true) (A : Option Addr) (bn bc : Nat)
    (h : ∃ bs : List Nat, bs.length = bn ∧ Arr W (· < W.heap.size) A bn (fun i => bV (bs.getD i 0)) ∧ (∀ x ∈ bs, x < 256) ∧ bn ≤ bc ∧ bc ≤ maxLen ∧ (A = none → bn = 0 ∧ bc = 0)) :
    Calls Try.prog 3 #[.int .i64 n, .int .i64 c, .slice A bn bc] W fun e w' => e = .returned (.bool true) ∧ New W w' := by
  obtain ⟨bs, hl, hA, h256, h1, h2, _⟩ := h
  unfold maxLen at h2
  exact digits_walk n c A bn bc bs W (i64_wf hn).2 hl hA h256 (by omega)
end Go.Proofs.Ytcnnakidpnhecaa
