/-
  Package lists: Put.
-/
import Derived.Test.YtficopkjpdfilaaLiL
namespace Go.Proofs.Ytficopkjpdfilaa
open Go.RowKit
def PutR (w : World) (tv : Int) (add off : List It) (e : Ending) (w' : World) : Prop :=
  (putE tv add off = 0 ∧ ∃ A c, e = .returned (.tuple #[.slice A (delB tv add off).length c, .int .i64 0]) ∧ w'.ownsRow w.heap.size 5 1 (.slice A (delB tv add off).length c) (delB tv add off).length ((delB tv add off).map bV)) ∨
  (putE tv add off ≠ 0 ∧ e = .returned (.tuple #[.slice none 0 0, .int .i64 (putE tv add off)]))
theorem PutR.no {w w' : World} {tv : Int} {add off : List It} {x : Int} (h : putE tv add off = x) (hx : x ≠ 0) : PutR w tv add off (.returned (.tuple #[.slice none 0 0, .int .i64 x])) w' := by
  subst h
  exact Or.inr ⟨hx, rfl⟩
theorem WrX.fresh {w w' : World} {b : Nat} {v : Value} (h : WrX w w' b (.slice none 0 0) v) : ∀ k, v.ownBlock = some k → w.heap.size ≤ k := fun k hk => by
  rcases h.2 with h | h
  · rw [h] at hk; simp [Value.ownBlock] at hk
  · exact h k hk
theorem WrX.new {w w1 w' : World} {b : Nat} {v : Value} (h : WrX w1 w' b (.slice none 0 0) v) (hN : New w w1) (hb : w.heap.size ≤ b) : New w w' :=
  hN.trans h.1 fun i hi hk => by
    rcases hk with hk | hk
    · omega
    · simp [Value.ownBlock] at hk
set_option maxRecDepth 100000 in
set_option maxHeartbeats 8000000 in
theorem Put_any (add off : List It) (B D : Option Addr) (m p ca co : Nat) (tv : Int) (F : Nat → Prop) (w : World) (hB : Its w F B add) (hD : Its w F D off) (hF : ∀ k, F k → k < w.heap.size) (hm : add.length = m) (hp : off.length = p) (hmb : m ≤ 3518437208883) (hpb : p ≤ 3518437208883) :
    Calls Try.prog 21 #[.agg #[.int .i64 tv, .slice B m ca, .slice D p co]] w fun e w' => PutR w tv add off e w' ∧ New w w' := by
  have HB := Lib.hid hB; clear hB
  have HD := Lib.hid hD; clear hD
  have HF := Lib.hid hF; clear hF
  have Hm := Lib.hid hm; clear hm
  have Hp := Lib.hid hp; clear hp
  have HK : Hid (∀ wy, New (w.alloc (.cells #[.int .i64 tv, .slice B m ca, .slice D p co] 37)) wy → (w.heap.size < wy.heap.size ∧ wy.cell? ⟨w.heap.size, 0, none⟩ = some (.int .i64 tv) ∧ wy.cell? ⟨w.heap.size, 1, none⟩ = some (.slice B m ca) ∧ wy.cell? ⟨w.heap.size, 2, none⟩ = some (.slice D p co))) := fun wy hy => by
    have hg := (Has.new w 37 #[.int .i64 tv, .slice B m ca, .slice D p co]).keep hy
    exact ⟨hg.lt, hg.cell 0, hg.cell 1, hg.cell 2⟩
  obtain ⟨b1, hb1⟩ : ∃ b, b = inB 1 2147483647 [tv] := ⟨_, rfl⟩
  obtain ⟨b2, hb2⟩ : ∃ b, b = add.all layB := ⟨_, rfl⟩
  obtain ⟨b3, hb3⟩ : ∃ b, b = off.all layB := ⟨_, rfl⟩
  obtain ⟨b4, hb4⟩ : ∃ b, b = inB 0 64 [(m : Int), (p : Int)] := ⟨_, rfl⟩
  have hE : putE tv add off = if !b1 || !b2 || !b3 then 2 else if !b4 then 11 else 0 := by unfold putE; rw [Hm.out, Hp.out, ← hb1, ← hb2, ← hb3, ← hb4]
  have HE := Lib.hid hE; clear hE
  have HW1 := Lib.hid (fun g w h => within_1 1 2147483647 tv g w h)
  have HW2 := Lib.hid (fun g w h => within_2 0 64 (m : Int) (p : Int) g w h)
  have HL1 := Lib.hid (fun w1 (hN : New w w1) => layable_any add B m ca w1 F Hm.out (by omega) (HB.out.new hN HF.out) (fun k hk => Nat.lt_of_lt_of_le (HF.out k hk) hN.size))
  have HL2 := Lib.hid (fun w1 (hN : New w w1) => layable_any off D p co w1 F Hp.out (by omega) (HD.out.new hN HF.out) (fun k hk => Nat.lt_of_lt_of_le (HF.out k hk) hN.size))
  rw [← hb1] at HW1
  rw [← hb4] at HW2
  rw [← hb2] at HL1
  rw [← hb3] at HL2
  have Hb1 := Lib.hid hb1; clear hb1
  have Hb2 := Lib.hid hb2; clear hb2
  have Hb3 := Lib.hid hb3; clear hb3
  have Hb4 := Lib.hid hb4; clear hb4
  go_enter Try.func21, Try.ntmps21
  go_wp2_with fail
  have hA := Has.new_at (w.alloc (.cells #[.int .i64 tv, .slice B m ca, .slice D p co] 37)) 3 #[.int .i64 tv] (w.heap.size + 1) (by simp)
  have hN : New (w.alloc (.cells #[.int .i64 tv, .slice B m ca, .slice D p co] 37)) ((w.alloc (.cells #[.int .i64 tv, .slice B m ca, .slice D p co] 37)).alloc (.cells #[.int .i64 tv] 3)) := (Chg.refl _ _).alloc _
  have HN0 : Hid (New w (w.alloc (.cells #[.int .i64 tv, .slice B m ca, .slice D p co] 37))) := (Chg.refl _ _).alloc _
  generalize (w.alloc (.cells #[.int .i64 tv, .slice B m ca, .slice D p co] 37)).alloc (.cells #[.int .i64 tv] 3) = w1 at hA hN ⊢
  generalize (w.alloc (.cells #[.int .i64 tv, .slice B m ca, .slice D p co] 37)) = w0 at hN HK HN0
  with_reducible refine (HW1.out _ _ hA).mono ?_
  rintro e w2 ⟨rfl, hN2⟩
  have HN2 := Lib.hid (hN.then_new hN2); clear hA hN hN2
  obtain ⟨l2, x20, x21, x22⟩ := HK.out _ HN2.out
  cases b1 with
  | false =>
    have HE2 : Hid (putE tv add off = 2) := HE.out.trans (by simp)
    go_wp2_with fail
    go_ret2
    exact ⟨PutR.no HE2.out (by decide), HN0.out.then_new HN2.out⟩
  | true =>
    go_wp2_with fail
    with_reducible refine (HL1.out _ (HN0.out.then_new HN2.out)).mono ?_
    rintro e w3 ⟨rfl, hN3⟩
    have HN3 := Lib.hid (HN2.out.then_new hN3); clear hN3 l2 x20 x21 x22
    obtain ⟨l3, x30, x31, x32⟩ := HK.out _ HN3.out
    cases b2 with
    | false =>
      have HE2 : Hid (putE tv add off = 2) := HE.out.trans (by simp)
      go_wp2_with fail
      go_ret2
      exact ⟨PutR.no HE2.out (by decide), HN0.out.then_new HN3.out⟩
    | true =>
      go_wp2_with fail
      with_reducible refine (HL2.out _ (HN0.out.then_new HN3.out)).mono ?_
      rintro e w4 ⟨rfl, hN4⟩
      have HN4 := Lib.hid (HN3.out.then_new hN4); clear hN4 l3 x30 x31 x32
      obtain ⟨l4, x40, x41, x42⟩ := HK.out _ HN4.out
      cases b3 with
      | false =>
        have HE2 : Hid (putE tv add off = 2) := HE.out.trans (by simp)
        go_wp2_with fail
        go_ret2
        exact ⟨PutR.no HE2.out (by decide), HN0.out.then_new HN4.out⟩
      | true =>
        go_wp2_with fail
        have hA := Has.new w4 3 #[.int .i64 (m : Int), .int .i64 (p : Int)]
        have hN := HN4.out.alloc (.cells #[.int .i64 (m : Int), .int .i64 (p : Int)] 3)
        generalize w4.alloc (.cells #[.int .i64 (m : Int), .int .i64 (p : Int)] 3) = w5 at hA hN ⊢
        with_reducible refine (HW2.out _ _ hA).mono ?_
        rintro e w6 ⟨rfl, hN6⟩
        have HN6 := Lib.hid (hN.then_new hN6); clear hA hN hN6 l4 x40 x41 x42
        obtain ⟨l6, x60, x61, x62⟩ := HK.out _ HN6.out
        cases b4 with
        | false =>
          have HE2 : Hid (putE tv add off = 11) := HE.out.trans (by simp)
          go_wp2_with fail
          go_ret2
          exact ⟨PutR.no HE2.out (by decide), HN0.out.then_new HN6.out⟩
        | true =>
          have HE2 : Hid (putE tv add off = 0) := HE.out.trans (by simp)
          have htv : 1 ≤ tv ∧ tv ≤ 2147483647 := by have h := Hb1.out; simp [inB] at h; omega
          have hmp : m ≤ 64 ∧ p ≤ 64 := by have h := Hb4.out; simp [inB] at h; omega
          obtain ⟨ht1, ht2⟩ := htv
          obtain ⟨hm64, hp64⟩ := hmp
          have HNw := Lib.hid (HN0.out.then_new HN6.out)
          have hN7 : New w6 ((w6.alloc (.cells #[.slice none 0 0, .int .i64 0] 88)).alloc (.cells #[.int .i64 32, .int .i64 tv, .int .i64 8, .int .i64 (m : Int), .int .i64 8, .int .i64 (p : Int)] 91)) := ((Chg.refl _ _).alloc _).alloc _
          have HP := Lib.hid (put_head w6.heap.size (w6.heap.size + 1) (.slice none 0 0) tv m p ((w6.alloc (.cells #[.slice none 0 0, .int .i64 0] 88)).alloc (.cells #[.int .i64 32, .int .i64 tv, .int .i64 8, .int .i64 (m : Int), .int .i64 8, .int .i64 (p : Int)] 91)) (Wrt.new (Wr_zero w6) ((Chg.refl _ _).alloc _)) (Has.new_at _ _ _ _ (by simp)) (by simp [Value.ownBlock]) (by omega) (by omega) (by omega) (by omega))
          have HN7 := Lib.hid hN7; clear hN7
          clear ht1 ht2
          go_wp2_with fail
          with_reducible refine HP.out.mono ?_
          rintro e w8 ⟨rfl, v8, hW8, hX8⟩
          have HW8 := Lib.hid hW8
          have HX8 := Lib.hid hX8
          have HN8 := Lib.hid (hX8.new HN7.out (Nat.le_refl _))
          clear hW8 hX8 l6 x60 x61 x62
          obtain ⟨l8, x80, x81, x82⟩ := HK.out _ (HN6.out.then_new HN8.out)
          have HQ1 := Lib.hid (putItems_any w6.heap.size v8 _ add B m ca F w8 HW8.out (HB.out.new (HNw.out.then_new HN8.out) HF.out) (fun k hk => ⟨Nat.lt_of_lt_of_le (HF.out k hk) (HNw.out.then_new HN8.out).size, fun h => by
            have h1 := HF.out k hk
            have h2 := HNw.out.size
            rcases h with h | h
            · omega
            · have h3 := HX8.out.fresh k h
              have h4 := HN7.out.size
              omega⟩) Hm.out hm64 (by simp [four_len]) Hb2.out.symm)
          go_wp2_with fail
          with_reducible refine HQ1.out.mono ?_
          rintro e w9 ⟨rfl, v9, hW9, hX9⟩
          have HW9 := Lib.hid hW9
          have hX := WrX.trans HX8.out (Chg.refl _ _) hX9
          have HX9 := Lib.hid hX
          have HN9 := Lib.hid (hX.new HN7.out (Nat.le_refl _))
          clear hW9 hX9 hX l8 x80 x81 x82
          obtain ⟨l9, x90, x91, x92⟩ := HK.out _ (HN6.out.then_new HN9.out)
          have HQ2 := Lib.hid (putItems_any w6.heap.size v9 _ off D p co F w9 HW9.out (HD.out.new (HNw.out.then_new HN9.out) HF.out) (fun k hk => ⟨Nat.lt_of_lt_of_le (HF.out k hk) (HNw.out.then_new HN9.out).size, fun h => by
            have h1 := HF.out k hk
            have h2 := HNw.out.size
            rcases h with h | h
            · omega
            · have h3 := HX9.out.fresh k h
              have h4 := HN7.out.size
              omega⟩) Hp.out hp64 (by simp only [List.length_append, four_len, itsB_len, Hm.out, List.length_cons, List.length_nil]; omega) Hb3.out.symm)
          go_wp2_with fail
          with_reducible refine HQ2.out.mono ?_
          rintro e w10 ⟨rfl, v10, hW10, hX10⟩
          have hX := WrX.trans HX9.out (Chg.refl _ _) hX10
          have HN10 := Lib.hid (hX.new HN7.out (Nat.le_refl _))
          have hB10 : (fourB tv.toNat ++ [m % 256, p % 256] ++ itsB add ++ itsB off) = delB tv add off := by unfold delB; rw [Hm.out, Hp.out]; simp only [List.append_assoc]
          rw [hB10] at hW10
          have HBy := Lib.hid (Bytes_any w6.heap.size v10 _ w10 hW10 (by rw [unpack_len, delB_len, Hm.out, Hp.out]; omega))
          rw [pack_unpack _ (delB_small tv add off)] at HBy
          clear hW10 hX10 hX l9 x90 x91 x92 hB10
          go_wp2_with fail
          with_reducible refine HBy.out.mono ?_
          rintro e w11 ⟨A11, c11, rfl, hO, hN⟩
          have HO := Lib.hid hO; clear hO
          have HN11 := Lib.hid hN; clear hN
          go_wp2_with fail
          go_ret2
          exact ⟨Or.inl ⟨HE2.out, A11, c11, rfl, own_base HO.out (fun k hk => Nat.le_trans (HNw.out.then_new HN10.out).size (own_ge HO.out k hk))⟩, (HNw.out.then_new HN10.out).then_new HN11.out⟩
end Go.Proofs.Ytficopkjpdfilaa
