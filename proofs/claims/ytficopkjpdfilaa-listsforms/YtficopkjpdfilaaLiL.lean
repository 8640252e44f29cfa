/-
  Package lists: putItems, Put.
-/
import Derived.Test.YtficopkjpdfilaaLiK
namespace Go.Proofs.Ytficopkjpdfilaa
open Go.RowKit
/-- the bytes of an item's first numbers -/
def prt (x : It) (t : Nat) : List Nat := (([x.c, x.o, x.i, x.n, x.a] : List Int).take t).flatMap fun z => fourB z.toNat
theorem prt_5 (x : It) : prt x 5 = itB x := by simp [prt, itB]
theorem layB_at {x : It} (h : layB x = true) : (0 ≤ x.c ∧ x.c ≤ 2147483648) ∧ (0 ≤ x.o ∧ x.o ≤ 2147483648) ∧ (0 ≤ x.i ∧ x.i ≤ 2147483648) ∧ (0 ≤ x.n ∧ x.n ≤ 2147483648) ∧ (0 ≤ x.a ∧ x.a ≤ 2147483648) := by
  simp only [layB, inB, List.all_cons, List.all_nil, Bool.and_true, Bool.and_eq_true, decide_eq_true_eq] at h
  omega
theorem prt_len (x : It) (t : Nat) : (prt x t).length ≤ 20 := by
  rcases (show t = 0 ∨ t = 1 ∨ t = 2 ∨ t = 3 ∨ t = 4 ∨ 5 ≤ t by omega) with rfl | rfl | rfl | rfl | rfl | h
  all_goals first | (simp [prt, four_len]; done) | skip
  have e : prt x t = prt x 5 := by unfold prt; rw [List.take_of_length_le (by simpa using h)]; rfl
  rw [e, prt_5, itB_len]
  exact Nat.le_refl _
theorem idx5_0 (c o i n a : Int) (w : World) : (Instr.index 103 (.agg #[.int .i64 c, .int .i64 o, .int .i64 i, .int .i64 n, .int .i64 a]) (.int .i64 0)).run Try.prog w = .ok (.int .i64 c) w := by kernel_rfl
theorem idx5_1 (c o i n a : Int) (w : World) : (Instr.index 103 (.agg #[.int .i64 c, .int .i64 o, .int .i64 i, .int .i64 n, .int .i64 a]) (.int .i64 1)).run Try.prog w = .ok (.int .i64 o) w := by kernel_rfl
theorem idx5_2 (c o i n a : Int) (w : World) : (Instr.index 103 (.agg #[.int .i64 c, .int .i64 o, .int .i64 i, .int .i64 n, .int .i64 a]) (.int .i64 2)).run Try.prog w = .ok (.int .i64 i) w := by kernel_rfl
theorem idx5_3 (c o i n a : Int) (w : World) : (Instr.index 103 (.agg #[.int .i64 c, .int .i64 o, .int .i64 i, .int .i64 n, .int .i64 a]) (.int .i64 3)).run Try.prog w = .ok (.int .i64 n) w := by kernel_rfl
theorem idx5_4 (c o i n a : Int) (w : World) : (Instr.index 103 (.agg #[.int .i64 c, .int .i64 o, .int .i64 i, .int .i64 n, .int .i64 a]) (.int .i64 4)).run Try.prog w = .ok (.int .i64 a) w := by kernel_rfl
set_option maxRecDepth 100000 in
set_option maxHeartbeats 8000000 in
theorem putItems_any (b : Nat) (v : Value) (B : List Nat) (xs : List It) (A : Option Addr) (n c : Nat) (F : Nat → Prop) (w : World) (hW : WB w b v B) (hA : Its w F A xs) (hF : ∀ k, F k → k < w.heap.size ∧ ¬ (k = b ∨ v.ownBlock = some k)) (hl : xs.length = n) (hn : n ≤ 64) (hB : B.length ≤ 2000) (hlay : xs.all layB = true) :
    Calls Try.prog 44 #[.pointer (some ⟨b, 0, none⟩), .slice A n c] w fun e w' => e = .returned (.tuple #[]) ∧ ∃ v', WB w' b v' (B ++ itsB xs) ∧ WrX w w' b v v' := by
  have HW := Lib.hid hW; clear hW
  have HA := Lib.hid hA; clear hA
  have HF := Lib.hid hF; clear hF
  have Hl := Lib.hid hl; clear hl
  have Hlay := Lib.hid hlay; clear hlay
  go_enter Try.func44, Try.ntmps44
  go_wp2_with fail
  go_loopg [10] n (fun gk i wr => ∃ (k : Nat) (v' : Value), k ≤ n ∧ gk = n - k ∧ i = .int .i64 k ∧ WB wr b v' (B ++ itsB (xs.take k)) ∧ WrX w wr b v v')
  case atStart => exact ⟨0, v, by omega, by omega, rfl, by rw [List.take_zero, show itsB [] = [] from rfl, List.append_nil]; exact HW.out, ⟨Chg.refl _ _, Or.inl rfl⟩⟩
  case round =>
    obtain ⟨w9, hw9⟩ : ∃ w9, w9 = wr := ⟨_, rfl⟩
    rw [← hw9] at hrel ⊢
    clear hw9
    obtain ⟨k, v1, hk, rfl, rfl, hW1, hX1⟩ := hrel
    have HW1 := Lib.hid hW1; clear hW1
    have HX1 := Lib.hid hX1; clear hX1
    by_cases hlt : k < n
    · obtain ⟨x, hx⟩ : ∃ x, xs[k]? = some x := ⟨_, List.getElem?_eq_getElem (by rw [Hl.out]; exact hlt)⟩
      obtain ⟨a, rfl, hab, a0, a1, a2, a3, a4⟩ := (HA.out.chg HX1.out.1 HF.out) k x hx
      have Hx : Hid (layB x = true) := by have := Hlay.out; rw [List.all_eq_true] at this; exact this x (List.mem_of_getElem? hx)
      have Hst : Hid (B ++ itsB (xs.take (k + 1)) = B ++ itsB (xs.take k) ++ itB x) := by rw [Hid, take_snoc hx, itsB_app, itsB_one, List.append_assoc]
      have Hbl : Hid ((B ++ itsB (xs.take k)).length ≤ 4000) := by rw [Hid, List.length_append, itsB_len, List.length_take]; omega
      have HNo := Lib.hid (numbersOf_any x)
      obtain ⟨y, hy⟩ : ∃ y, y = x := ⟨_, rfl⟩
      rw [← hy] at Hx Hst
      have Hy := Lib.hid hy; clear hy hab hx
      obtain ⟨xc, xo, xi, xn, xa⟩ := x
      obtain ⟨B1, hB1⟩ : ∃ B1, B1 = B ++ itsB (xs.take k) := ⟨_, rfl⟩
      rw [← hB1] at HW1 Hst Hbl
      clear hB1
      go_wp2_with fail
      with_reducible refine (HNo.out _).mono ?_
      rintro e w1 ⟨rfl, hN⟩
      have HN1 := Lib.hid (((Chg.refl (fun _ => False) w9).alloc _).then_new hN); clear hN a0 a1 a2 a3 a4
      go_wp2_with fail
      go_loopg [16] 5 (fun gj j wr2 => ∃ (t : Nat) (v2 : Value), t ≤ 5 ∧ gj = 5 - t ∧ j = .int .i64 t ∧ WB wr2 b v2 (B1 ++ prt y t) ∧ WrX w wr2 b v v2)
      case atStart => exact ⟨0, v1, by omega, by omega, rfl, by rw [show prt y 0 = [] from rfl, List.append_nil]; exact Wrt.new HW1.out HN1.out, HX1.out.1.then_new HN1.out, HX1.out.2⟩
      case round =>
        obtain ⟨t, v2, ht, rfl, rfl, hW2, hX2⟩ := hrel
        have HW2 := Lib.hid hW2; clear hW2
        have HX2 := Lib.hid hX2; clear hX2
        have HP : Hid (∀ (z : Int), 0 ≤ z → z ≤ 2147483648 → Calls Try.prog 43 #[.pointer (some ⟨b, 0, none⟩), .slice (some ⟨wr.heap.size, 0, none⟩) 1 1] (wr.alloc (.cells #[.int .i64 32, .int .i64 z] 91)) fun e w' => e = .returned (.int .i64 0) ∧ ∃ v', WB w' b v' ((B1 ++ prt y t) ++ fourB z.toNat) ∧ WrX (wr.alloc (.cells #[.int .i64 32, .int .i64 z] 91)) w' b v2 v') := fun z h0 h1 =>
          put_32 b wr.heap.size v2 (B1 ++ prt y t) z _ (Wrt.new HW2.out ((Chg.refl _ _).alloc _)) (Has.new _ _ _) (fun e => by have := own_lt HW2.out.2 _ e; omega) h0 h1 (by have h1 := Hbl.out; have h2 := prt_len y t; rw [List.length_append]; omega)
        have HX3 : Hid (∀ z w' v', WrX (wr.alloc (.cells #[.int .i64 32, .int .i64 z] 91)) w' b v2 v' → WrX w w' b v v') := fun z w' v' h => WrX.trans HX2.out ((Chg.refl _ _).alloc _) h
        have hly := layB_at Hx.out
        rw [Hy.out] at hly
        have HL := Lib.hid hly; clear hly
        have Hbl2 := Lib.hid (List.append_assoc B1 (prt y t))
        rcases (show t = 0 ∨ t = 1 ∨ t = 2 ∨ t = 3 ∨ t = 4 ∨ t = 5 by omega) with rfl | rfl | rfl | rfl | rfl | rfl
        · clear HW2
          have i0 := idx5_0 xc xo xi xn xa
          go_wp2_with fail
          with_reducible refine (HP.out _ HL.out.1.1 HL.out.1.2).mono ?_
          rintro e w5 ⟨rfl, v5, hW5, hX5⟩
          have HX5 := Lib.hid (HX3.out _ _ _ hX5)
          have HW5 := Lib.hid hW5
          clear hW5 hX5
          go_wp2_with fail
          go_roundg 4
          case measure => omega
          case rel => exact ⟨1, v5, by omega, by omega, rfl, by rw [show B1 ++ prt y 1 = B1 ++ prt y 0 ++ fourB y.c.toNat by simp [prt], Hy.out]; rw [Hy.out] at HW5; exact HW5.out, HX5.out⟩
        · clear HW2
          have i1 := idx5_1 xc xo xi xn xa
          go_wp2_with fail
          with_reducible refine (HP.out _ HL.out.2.1.1 HL.out.2.1.2).mono ?_
          rintro e w5 ⟨rfl, v5, hW5, hX5⟩
          have HX5 := Lib.hid (HX3.out _ _ _ hX5)
          have HW5 := Lib.hid hW5
          clear hW5 hX5
          go_wp2_with fail
          go_roundg 3
          case measure => omega
          case rel => exact ⟨2, v5, by omega, by omega, rfl, by rw [show B1 ++ prt y 2 = B1 ++ prt y 1 ++ fourB y.o.toNat by simp [prt], Hy.out]; rw [Hy.out] at HW5; exact HW5.out, HX5.out⟩
        · clear HW2
          have i2 := idx5_2 xc xo xi xn xa
          go_wp2_with fail
          with_reducible refine (HP.out _ HL.out.2.2.1.1 HL.out.2.2.1.2).mono ?_
          rintro e w5 ⟨rfl, v5, hW5, hX5⟩
          have HX5 := Lib.hid (HX3.out _ _ _ hX5)
          have HW5 := Lib.hid hW5
          clear hW5 hX5
          go_wp2_with fail
          go_roundg 2
          case measure => omega
          case rel => exact ⟨3, v5, by omega, by omega, rfl, by rw [show B1 ++ prt y 3 = B1 ++ prt y 2 ++ fourB y.i.toNat by simp [prt], Hy.out]; rw [Hy.out] at HW5; exact HW5.out, HX5.out⟩
        · clear HW2
          have i3 := idx5_3 xc xo xi xn xa
          go_wp2_with fail
          with_reducible refine (HP.out _ HL.out.2.2.2.1.1 HL.out.2.2.2.1.2).mono ?_
          rintro e w5 ⟨rfl, v5, hW5, hX5⟩
          have HX5 := Lib.hid (HX3.out _ _ _ hX5)
          have HW5 := Lib.hid hW5
          clear hW5 hX5
          go_wp2_with fail
          go_roundg 1
          case measure => omega
          case rel => exact ⟨4, v5, by omega, by omega, rfl, by rw [show B1 ++ prt y 4 = B1 ++ prt y 3 ++ fourB y.n.toNat by simp [prt], Hy.out]; rw [Hy.out] at HW5; exact HW5.out, HX5.out⟩
        · clear HW2
          have i4 := idx5_4 xc xo xi xn xa
          go_wp2_with fail
          with_reducible refine (HP.out _ HL.out.2.2.2.2.1 HL.out.2.2.2.2.2).mono ?_
          rintro e w5 ⟨rfl, v5, hW5, hX5⟩
          have HX5 := Lib.hid (HX3.out _ _ _ hX5)
          have HW5 := Lib.hid hW5
          clear hW5 hX5
          go_wp2_with fail
          go_roundg 0
          case measure => omega
          case rel => exact ⟨5, v5, by omega, by omega, rfl, by rw [show B1 ++ prt y 5 = B1 ++ prt y 4 ++ fourB y.a.toNat by simp [prt], Hy.out]; rw [Hy.out] at HW5; exact HW5.out, HX5.out⟩
        · have HW6 : Hid (WB wr b v2 (B ++ itsB (xs.take (k + 1)))) := by rw [Hid, Hst.out, ← prt_5]; exact HW2.out
          clear HW2
          go_wp2_with fail
          go_roundg (n - (k + 1))
          case measure => omega
          case rel => exact ⟨k + 1, v2, by omega, rfl, by go_num, HW6.out, HX2.out⟩
    · obtain rfl : k = n := by omega
      have HW2 : Hid (WB w9 b v1 (B ++ itsB xs)) := by have h := HW1.out; rwa [show xs.take k = xs from by rw [← Hl.out, List.take_length]] at h
      go_wp2_with fail
      go_end0
      exact ⟨rfl, v1, HW2.out, HX1.out⟩
end Go.Proofs.Ytficopkjpdfilaa
