import Derived.Test.YtkcokcanakljnaaTRefC
import Derived.Test.YtkcokcanakljnaaTlvB
namespace Go.Proofs.Ytkcokcanakljnaa
open Go.RowKit
/-- what Put answers: an error's number, or the encoding -/
inductive PutA where
  | err (e : Int)
  | ok (x : List Nat)
def Tr.put (T : Tr) : PutA := if Tr.deeper 4 T then .err 15 else if Tr.right 0 T then (match T.enc with | none => .err 11 | some x => .ok x) else .err 2
def PutR (w : World) (o : PutA) (e : Ending) (w' : World) : Prop := match o with
  | .err z => e = .returned (.tuple #[.slice none 0 0, .int .i64 z])
  | .ok x => ∃ A c, e = .returned (.tuple #[.slice A x.length c, .int .i64 0]) ∧ w'.ownsRow w.heap.size 5 1 (.slice A x.length c) x.length (x.map bV) ∧ (∀ y ∈ x, y < 256) ∧ x.length ≤ 70000
theorem own_less {w : World} {b b' e size n : Nat} {v : Value} {xs : List Value} (h : w.ownsRow b e size v n xs) (hb : b' ≤ b) : w.ownsRow b' e size v n xs := own_base h fun k hk => Nat.le_trans hb (h.lt k hk).1
set_option maxRecDepth 100000 in
set_option maxHeartbeats 2000000 in
theorem Put_any (T : Tr) (n : Nat) (A : Option Addr) (c : Nat) (w : World) (F : Nat → Prop) (hn : T.len = n) (hL : Lay w F A 0 T) (hF : ∀ k, F k → k < w.heap.size) (hs : n * 56 ≤ 140737488351232) :
    Calls Try.prog 36 #[.slice A n c] w fun e w' => PutR w T.put e w' ∧ New w w' := by
  have HL := Lib.hid hL; clear hL
  have Hn := Lib.hid hn; clear hn
  have HF := Lib.hid hF; clear hF
  have HD : Hid (Calls Try.prog 72 #[.slice A n c, .int .i64 4] w fun e w' => e = .returned (.bool (Tr.deeper 4 T)) ∧ New w w') := deeper_any 4 T n A c w F (by decide) Hn.out HL.out HF.out hs
  go_enter Try.func36, Try.ntmps36
  go_wp2_with fail
  with_reducible refine HD.out.mono ?_
  rintro e w1 ⟨rfl, hN1⟩
  have HN1 := Lib.hid hN1; clear hN1
  cases hd : Tr.deeper 4 T with
  | true =>
    have Hd := Lib.hid hd; clear hd
    go_wp2_with fail
    go_ret2
    refine ⟨?_, HN1.out⟩
    rw [Tr.put, if_pos Hd.out]; rfl
  | false =>
    have Hd : Hid (¬ (Tr.deeper 4 T = true)) := by rw [Hid, hd]; decide
    clear hd
    go_wp2_with fail
    with_reducible refine (right_any (T.size + 1) T (Nat.lt_succ_self _) n A c w1 F Hn.out (HL.out.new HN1.out HF.out) (fun k hk => Nat.lt_of_lt_of_le (HF.out k hk) HN1.out.size) hs).mono ?_
    rintro e w2 ⟨rfl, hN2⟩
    have HN2 := Lib.hid (HN1.out.then_new hN2); clear hN2
    cases hr : Tr.right 0 T with
    | false =>
      have Hr : Hid (¬ (Tr.right 0 T = true)) := by rw [Hid, hr]; decide
      clear hr
      go_wp2_with fail
      go_ret2
      refine ⟨?_, HN2.out⟩
      rw [Tr.put, if_neg Hd.out, if_neg Hr.out]; rfl
    | true =>
      have Hr := Lib.hid hr; clear hr
      go_wp2_with fail
      with_reducible refine (laid_any (T.size + 1) T (Nat.lt_succ_self _) n A c w2 F Hn.out (HL.out.new HN2.out HF.out) (fun k hk => Nat.lt_of_lt_of_le (HF.out k hk) HN2.out.size) hs Hr.out).mono ?_
      rintro e w3 ⟨hE, hN3⟩
      have HN3 := Lib.hid (HN2.out.then_new hN3); clear hN3
      cases hen : T.enc with
      | none =>
        rw [hen] at hE
        simp only [EncR] at hE
        subst hE
        have Hen := Lib.hid hen; clear hen
        go_wp2_with fail
        go_ret2
        refine ⟨?_, HN3.out⟩
        rw [Tr.put, if_neg Hd.out, if_pos Hr.out, Hen.out]; rfl
      | some x =>
        rw [hen] at hE
        obtain ⟨A2, c2, rfl, hO, hx, hxl⟩ := hE
        have Hen := Lib.hid hen; clear hen
        have HO := Lib.hid hO; clear hO
        have Hx := Lib.hid hx; clear hx
        obtain ⟨xl, hxe⟩ : ∃ xl, xl = x.length := ⟨_, rfl⟩
        have Hxe := Lib.hid hxe
        rw [← hxe] at hxl ⊢
        clear hxe
        go_wp2_with fail
        go_ret2
        refine ⟨?_, HN3.out⟩
        rw [Tr.put, if_neg Hd.out, if_pos Hr.out, Hen.out]
        exact ⟨A2, c2, by rw [← Hxe.out]; rfl, own_less HO.out HN2.out.size, Hx.out, by rw [← Hxe.out]; exact hxl⟩
end Go.Proofs.Ytkcokcanakljnaa
