/-
  What stamp.allRight and stamp.Pack do, for every input within the stated bounds.
-/
import Derived.Test.YtcnnakidpnhecaaStC
namespace Go.Proofs.Ytcnnakidpnhecaa
open Go.RowKit
set_option maxHeartbeats 1000000 in
theorem allRight_no (F : Nat → Prop) (A : Option Addr) (n c : Nat) (fd fm : Nat → Int) (w : World) (hA : Flds w F A n fd fm) (hF : ∀ k, F k → k < w.heap.size) (hn : n ≤ 9223372036854775807) (j : Nat) (hj : j < n) (hbad : rightB (fd j) (fm j) = false) :
    Calls Try.prog 26 #[.slice A n c] w fun e w' => e = .returned (.bool false) ∧ New w w' := by
  have HA := Lib.hid hA; clear hA
  have Hbad := Lib.hid hbad; clear hbad
  have HF := Lib.hid hF; clear hF
  go_enter Try.func26, Try.ntmps26
  go_wp2
  go_loopg [7] n (fun gk i wr => ∃ k : Nat, k ≤ j ∧ gk = n - k ∧ i = .int .i64 k ∧ New w wr)
  case atStart => exact ⟨0, by omega, by omega, rfl, Chg.refl _ _⟩
  case round =>
    obtain ⟨k, hk, rfl, rfl, hC⟩ := hrel
    have hlt : k < n := by omega
    obtain ⟨a, rfl, hab, h1, h2⟩ := (HA.out.chg hC (fun k hk => ⟨HF.out k hk, fun f => f⟩)) k hlt
    have HC := Lib.hid hC; clear hC
    obtain ⟨x, hx⟩ : ∃ x, x = fd k := ⟨_, rfl⟩
    obtain ⟨y, hy⟩ : ∃ y, y = fm k := ⟨_, rfl⟩
    rw [← hx] at h1
    rw [← hy] at h2
    by_cases hok : rightB x y = true
    · have hkj : k < j := by
        rcases Nat.lt_or_ge k j with h | h
        · exact h
        · obtain rfl : k = j := by omega
          rw [hx, hy, Hbad.out] at hok; cases hok
      have Hx := Lib.hid hx; clear hx
      have Hy := Lib.hid hy; clear hy
      go_wp2_with (go_at_call 17; (with_reducible refine (Right_any _ _ _).mono ?_); rintro e w' ⟨rfl, rfl⟩)
      go_roundg (n - (k + 1))
      case measure => omega
      case rel => exact ⟨k + 1, by omega, rfl, by go_num, ((HC.out.alloc _).alloc _)⟩
    · have hok : rightB x y = false := by simpa using hok
      clear hx hy
      go_wp2_with (go_at_call 17; (with_reducible refine (Right_any _ _ _).mono ?_); rintro e w' ⟨rfl, rfl⟩)
      go_ret
      exact ⟨rfl, ((HC.out.alloc _).alloc _)⟩
set_option maxHeartbeats 1000000 in
theorem allRight_yes (F : Nat → Prop) (A : Option Addr) (n c : Nat) (fd fm : Nat → Int) (w : World) (hA : Flds w F A n fd fm) (hF : ∀ k, F k → k < w.heap.size) (hn : n ≤ 9223372036854775807) (hok : ∀ j, j < n → rightB (fd j) (fm j) = true) :
    Calls Try.prog 26 #[.slice A n c] w fun e w' => e = .returned (.bool true) ∧ New w w' := by
  have HA := Lib.hid hA; clear hA
  have Hok := Lib.hid hok; clear hok
  have HF := Lib.hid hF; clear hF
  go_enter Try.func26, Try.ntmps26
  go_wp2
  go_loopg [2, 7] n (fun gk r i wr => ∃ k : Nat, k ≤ n ∧ gk = n - k ∧ r = .bool false ∧ i = .int .i64 k ∧ New w wr)
  case atStart => exact ⟨0, by omega, by omega, rfl, rfl, Chg.refl _ _⟩
  case round =>
    obtain ⟨k, hk, rfl, rfl, rfl, hC⟩ := hrel
    by_cases hlt : k < n
    · obtain ⟨a, rfl, hab, h1, h2⟩ := (HA.out.chg hC (fun k hk => ⟨HF.out k hk, fun f => f⟩)) k hlt
      have HC := Lib.hid hC; clear hC
      have hok := Hok.out k hlt
      obtain ⟨x, hx⟩ : ∃ x, x = fd k := ⟨_, rfl⟩
      obtain ⟨y, hy⟩ : ∃ y, y = fm k := ⟨_, rfl⟩
      rw [← hx] at h1 hok
      rw [← hy] at h2 hok
      clear hx hy
      go_wp2_with (go_at_call 17; (with_reducible refine (Right_any _ _ _).mono ?_); rintro e w' ⟨rfl, rfl⟩)
      go_roundg (n - (k + 1))
      case measure => omega
      case rel => exact ⟨k + 1, by omega, rfl, rfl, by go_num, ((HC.out.alloc _).alloc _)⟩
    · have HC := Lib.hid hC; clear hC
      go_wp2
      go_ret
      exact ⟨rfl, HC.out⟩
set_option maxHeartbeats 1000000 in
theorem Pack_no (F : Nat → Prop) (A : Option Addr) (n c : Nat) (fd fm : Nat → Int) (w : World) (hA : Flds w F A n fd fm) (hF : ∀ k, F k → k < w.heap.size) (hn : n ≤ 9223372036854775807) (j : Nat) (hj : j < n) (hbad : rightB (fd j) (fm j) = false) :
    Calls Try.prog 19 #[.slice A n c] w fun e w' => e = .returned (.tuple #[.slice none 0 0, .int .i64 2]) ∧ New w w' := by
  have H := Lib.hid (allRight_no F A n c fd fm w hA hF hn j hj hbad)
  clear hA hF hbad
  go_enter Try.func19, Try.ntmps19
  go_wp2_with (go_at_call 26; (with_reducible refine H.out.mono ?_); rintro e w' ⟨rfl, hN⟩; have HN := Lib.hid hN; clear hN)
  go_ret2
  exact ⟨rfl, HN.out⟩
def stbits (fd fm : Nat → Int) : Nat → List Bool
  | 0 => []
  | n + 1 => stbits fd fm n ++ (bitsOf 16 (fd n).toNat ++ (bitsOf 11 (fm n).toNat ++ bitsOf 5 0))
theorem stbits_len (fd fm : Nat → Int) (n : Nat) : (stbits fd fm n).length = 32 * n := by
  induction n with
  | zero => rfl
  | succ n ih => simp only [stbits, List.length_append, ih, bitsOf_length]; omega
/-- the fields of one stamp, laid in a literal -/
def f3 (d m : Int) (w : World) : World := w.alloc (.cells #[.int .i64 16, .int .i64 d, .int .i64 11, .int .i64 m, .int .i64 5, .int .i64 0] 62)
theorem put3 (b : Nat) (v : Value) (L : List Bool) (d m : Int) (w : World) (hh : Nat) (he : w.heap.size = hh) (hW : Wr w b v L) (hL : L.length + 128 ≤ 562949953421312) (hr : rightB d m = true) :
    Calls Try.prog 27 #[.pointer (some ⟨b, 0, none⟩), .slice (some ⟨hh, 0, none⟩) 3 3] (f3 d m w) fun e w' => e = .returned (.int .i64 0) ∧ ∃ v', Wr w' b v' (L ++ (bitsOf 16 d.toNat ++ (bitsOf 11 m.toNat ++ bitsOf 5 0))) ∧ WrX w w' b v v' := by
  subst he
  have hb := hW.1.lt
  obtain ⟨r1, r2, r3, r4⟩ := rightB_true hr
  have hh : Has (f3 d m w) w.heap.size 62 #[.int .i64 16, .int .i64 d, .int .i64 11, .int .i64 m, .int .i64 5, .int .i64 0] := Has.new _ _ _
  have hN : New w (f3 d m w) := (Chg.refl _ _).alloc _
  refine (Put_ok b (· = w.heap.size) v L (some ⟨w.heap.size, 0, none⟩) 3 3 (fun i => if i = 0 then 16 else if i = 1 then 11 else 5) (fun i => if i = 0 then d else if i = 1 then m else 0) (f3 d m w) (hW.new hN) (fun i hi => by
      refine ⟨_, rfl, rfl, ?_⟩
      match i, hi with
      | 0, _ => exact ⟨hh.cell 0, hh.cell 1⟩
      | 1, _ => exact ⟨hh.cell 2, hh.cell 3⟩
      | 2, _ => exact ⟨hh.cell 4, hh.cell 5⟩) (fun k hk => ?_) (by omega) (fun j hj => ?_)).mono ?_
  · subst hk
    refine ⟨by simp [f3], by omega, fun e => ?_⟩
    have := (hW.2.lt _ e).2
    omega
  · match j, hj with
    | 0, _ => simp [okF]; omega
    | 1, _ => simp [okF]; omega
    | 2, _ => simp [okF]
  · rintro e w' ⟨rfl, v', h1, h2⟩
    refine ⟨rfl, v', ?_, ?_⟩
    · have e1 : fbits (fun i => if i = 0 then 16 else if i = 1 then 11 else 5) (fun i => if i = 0 then d else if i = 1 then m else 0) 3 = bitsOf 16 d.toNat ++ (bitsOf 11 m.toNat ++ bitsOf 5 0) := by
        simp [fbits]
      rw [e1] at h1
      exact h1
    · exact WrX.trans ⟨Chg.refl _ _, Or.inl rfl⟩ hN h2
set_option maxHeartbeats 1000000 in
theorem Pack_ok (F : Nat → Prop) (A : Option Addr) (n c : Nat) (fd fm : Nat → Int) (w : World) (hA : Flds w F A n fd fm) (hF : ∀ k, F k → k < w.heap.size) (hn : n ≤ 8796093022208) (hok : ∀ j, j < n → rightB (fd j) (fm j) = true) :
    Calls Try.prog 19 #[.slice A n c] w fun e w' => ∃ A' c', e = .returned (.tuple #[.slice A' (pack (stbits fd fm n)).length c', .int .i64 0]) ∧ w'.ownsRow w.heap.size 5 1 (.slice A' (pack (stbits fd fm n)).length c') (pack (stbits fd fm n)).length ((pack (stbits fd fm n)).map bV) ∧ New w w' := by
  have H := Lib.hid (allRight_yes F A n c fd fm w hA hF (by omega) hok)
  have HA := Lib.hid hA; clear hA
  have Hok := Lib.hid hok; clear hok
  have HF := Lib.hid hF; clear hF
  go_enter Try.func19, Try.ntmps19
  go_wp2_with (go_at_call 26; (with_reducible refine H.out.mono ?_); rintro e w1 ⟨rfl, hN⟩; have HN := Lib.hid hN; clear hN)
  have hW0 := Wr_zero w1
  have hb0 := HN.out.size
  have hN0 := HN.out.alloc (.cells #[.slice none 0 0, .int .i64 0] 59)
  obtain ⟨b, hb⟩ : ∃ b, b = w1.heap.size := ⟨_, rfl⟩
  rw [← hb] at hW0 hb0 ⊢
  have HW0 := Lib.hid hW0; clear hW0 hb
  have HN0 := Lib.hid hN0; clear hN0 H HN
  go_loopg [12] n (fun gk i wr => ∃ (k : Nat) (vr : Value), k ≤ n ∧ gk = n - k ∧ i = .int .i64 k ∧ Wr wr b vr (stbits fd fm k) ∧ New w wr ∧ (∀ q, vr.ownBlock = some q → w.heap.size ≤ q))
  case atStart => exact ⟨0, _, by omega, by omega, rfl, HW0.out, HN0.out, fun q hq => by simp [Value.ownBlock] at hq⟩
  case round =>
    clear HW0 HN0
    obtain ⟨k, vr, hk, rfl, rfl, hW, hC, hV⟩ := hrel
    have hsl := stbits_len fd fm k
    obtain ⟨L, hL⟩ : ∃ L, L = stbits fd fm k := ⟨_, rfl⟩
    rw [← hL] at hW hsl
    have HL := Lib.hid hL; clear hL
    have hll : L.length ≤ 32 * n := by omega
    have Hsl := Lib.hid hsl; clear hsl
    by_cases hlt : k < n
    · obtain ⟨a, rfl, hab, h1, h2⟩ := (HA.out.chg hC (fun k hk => ⟨HF.out k hk, fun f => f⟩)) k hlt
      have hok := Hok.out k hlt
      obtain ⟨x, hx⟩ : ∃ x, x = fd k := ⟨_, rfl⟩
      obtain ⟨y, hy⟩ : ∃ y, y = fm k := ⟨_, rfl⟩
      rw [← hx] at h1 hok
      rw [← hy] at h2 hok
      have Hx := Lib.hid hx; clear hx
      have Hy := Lib.hid hy; clear hy
      have hP := put3 b vr L x y (wr.alloc (.cells #[.int .i64 x, .int .i64 y] 38)) (wr.heap.size + 1) (by simp) (hW.new ((Chg.refl _ _).alloc _)) (by omega) hok
      simp only [f3] at hP
      have HP := Lib.hid hP; clear hP
      have HW := Lib.hid hW; clear hW
      have HC := Lib.hid hC; clear hC
      have HV := Lib.hid hV; clear hV
      clear hok
      go_wp2_with (go_at_call 27; (with_reducible refine HP.out.mono ?_); rintro e w2 ⟨rfl, v2, hW2, hX2⟩; have HW2 := Lib.hid hW2; have HX2 := Lib.hid hX2; clear hW2 hX2)
      go_roundg (n - (k + 1))
      case measure => omega
      case rel =>
        refine ⟨k + 1, v2, by omega, rfl, by go_num, ?_, ?_, ?_⟩
        · rw [stbits, ← HL.out, ← Hx.out, ← Hy.out]; exact HW2.out
        · refine (HC.out.alloc _).trans HX2.out.1 fun i hi hk => ?_
          rcases hk with rfl | hk
          · omega
          · have := HV.out i hk; omega
        · intro q hq
          rcases HX2.out.2 with h | h
          · exact HV.out q (by rw [← h]; exact hq)
          · have := h q hq
            have := HC.out.size
            simp at *; omega
    · obtain rfl : n = k := by omega
      have hB := Bytes_any b vr L wr hW (by omega)
      obtain ⟨bs, hbs⟩ : ∃ bs, bs = pack L := ⟨_, rfl⟩
      rw [← hbs] at hB
      rw [HL.out] at hbs
      have HB := Lib.hid hB; clear hB
      have Hbs := Lib.hid hbs; clear hbs
      have HC := Lib.hid hC; clear hC hW hV
      go_wp2_with (go_at_call 28; (with_reducible refine HB.out.mono ?_); rintro e w2 ⟨A', c', rfl, hO, hN⟩; have HO := Lib.hid hO; have HN := Lib.hid hN; clear hO hN)
      go_ret2
      rw [← Hbs.out]
      exact ⟨A', c', rfl, own_base HO.out (fun k hk => Nat.le_trans HC.out.size (HO.out.lt k hk).1), HC.out.then_new HN.out⟩
end Go.Proofs.Ytcnnakidpnhecaa
