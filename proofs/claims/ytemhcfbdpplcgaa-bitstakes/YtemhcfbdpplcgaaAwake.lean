/-
  The law's opening look at the document's examples returns true.
-/
import Derived.Test.YtemhcfbdpplcgaaWriteC
import Derived.Laws.BytesArg
namespace Go.Proofs.Ytemhcfbdpplcgaa
open Go.RowKit
/-- bytes as a string -/
def bstr (bs : List Nat) : ByteArray := ⟨(bs.map UInt8.ofNat).toArray⟩
theorem own_string {P : Program} {w : World} {src e dst base n c : Nat} {A : Option Addr} {bs : List Nat} (hs : P.underlying src = some (.slice e)) (he : P.underlying e = some (.int .u8)) (hd : P.underlying dst = some .string)
    (h : w.ownsRow base e 1 (.slice A n c) n (bs.map bV)) : (convert src dst (.slice A n c)).run P w = .ok (.string (bstr bs)) w := by
  have hl := h.1
  rw [List.length_map, Nat.mul_one] at hl
  rcases h.2 with ⟨hv, hn⟩ | ⟨g, cap, cur, hv, _⟩
  · simp only [Value.slice.injEq] at hv
    obtain ⟨rfl, rfl, rfl⟩ := hv
    have : bs = [] := List.eq_nil_of_length_eq_zero hl
    subst this
    rw [run_convert_bytes_nil w src e hs he 0 0 dst hd]; rfl
  · simp only [Value.slice.injEq] at hv
    obtain ⟨rfl, _, rfl⟩ := hv
    rw [run_convert_bytes_arg w src e hs he g 0 n c (bs.map (Int.ofNat)) (by simpa using hl) (fun i hi => by
      rw [Nat.zero_add, h.cellAt i (by omega)]
      have : i < bs.length := by omega
      simp [List.getElem?_eq_getElem this, bV]) dst hd]
    congr 2
    simp [strOfNums, bstr]
theorem bstr_list (bs : List Nat) : (bstr bs).toList = bs.map UInt8.ofNat := by
  simp [bstr, ByteArray.toList_eq]
def awL : List Bool := [true, false, true, false, false, false, false, true]
theorem awL_pack : pack awL = [161] := by decide
def awW (w : World) : World := (w.alloc (.cells #[.slice none 0 0, .int .i64 0] 26)).alloc (.cells #[.int .i64 3, .int .i64 5, .int .i64 5, .int .i64 1] 31)
theorem aw_new (w : World) : New w (awW w) := ((Chg.refl _ _).alloc _).alloc _
theorem Wr_zero (w : World) : Wr (w.alloc (.cells #[.slice none 0 0, .int .i64 0] 26)) w.heap.size (.slice none 0 0) [] :=
  ⟨Has.new _ _ _, World.ownsRow_nil _ _ _ _⟩
theorem aw_put (w : World) : Calls Try.prog 10 #[.pointer (some ⟨w.heap.size, 0, none⟩), .slice (some ⟨w.heap.size + 1, 0, none⟩) 2 2] (awW w) fun e w' => e = .returned (.int .i64 0) ∧ ∃ v', Wr w' w.heap.size v' awL ∧ New w w' := by
  have hh : Has (awW w) (w.heap.size + 1) 31 #[.int .i64 3, .int .i64 5, .int .i64 5, .int .i64 1] := by
    have := Has.new (w.alloc (.cells #[.slice none 0 0, .int .i64 0] 26)) 31 #[.int .i64 3, .int .i64 5, .int .i64 5, .int .i64 1]
    rw [World.size_alloc] at this
    exact this
  have h := Put_ok w.heap.size (· = w.heap.size + 1) (.slice none 0 0) [] (some ⟨w.heap.size + 1, 0, none⟩) 2 2 (fun i => if i = 0 then 3 else 5) (fun i => if i = 0 then 5 else 1) (awW w)
    ((Wr_zero w).chg (S := fun _ => False) ((Chg.refl _ _).alloc _) (fun f => f) (fun _ _ f => f))
    (fun i hi => by
      refine ⟨_, rfl, rfl, ?_⟩
      match i, hi with
      | 0, _ => exact ⟨hh.cell 0, hh.cell 1⟩
      | 1, _ => exact ⟨hh.cell 2, hh.cell 3⟩)
    (fun k hk => by subst hk; exact ⟨by simp [awW], by omega, by simp [Value.ownBlock]⟩) (by simp) (fun j hj => by
      match j, hj with
      | 0, _ => decide
      | 1, _ => decide)
  refine h.mono ?_
  rintro e w' ⟨rfl, v', hW, hX⟩
  refine ⟨rfl, v', hW, (aw_new w).trans hX.1 fun i hi hk => ?_⟩
  rcases hk with rfl | hk
  · omega
  · simp [Value.ownBlock] at hk
theorem aw_read (w0 : World) : Calls Try.prog 14 #[.slice (some ⟨w0.heap.size, 0, none⟩) 1 1] (w0.alloc (.cells #[.int .u8 161] 5)) fun e w' => ∃ b, e = .returned (.pointer (some ⟨b, 0, none⟩)) ∧ Rd w' b [161] 0 0 ∧ New w0 w' ∧ w0.heap.size < b := by
  have hh := Has.new w0 5 #[.int .u8 161]
  refine (read_any _ 1 1 _ _ _ (Arr.of_has hh (n := 1) (by simp)) (by intro h; cases h) (fun i hi => by
      match i, hi with
      | 0, _ => rfl) (by omega)).mono ?_
  rintro e w' ⟨A, c, b, rfl, hH, hO, hN, hb⟩
  rw [World.size_alloc] at hb hO
  exact ⟨b, rfl, ⟨A, c, hH, own_base hO (by intro k _; omega)⟩, Chg.new_then ((Chg.refl _ _).alloc _) hN, by omega⟩
theorem aw_take (w0 : World) (b : Nat) (h : Rd w0 b [161] 0 0) : Calls Try.prog 16 #[.pointer (some ⟨b, 0, none⟩), .slice (some ⟨w0.heap.size, 0, none⟩) 2 2] (w0.alloc (.cells #[.int .i64 3, .int .i64 5] 3)) fun e w' =>
    ∃ A c, e = .returned (.slice A 2 c) ∧ w'.ownsRow w0.heap.size 3 1 (.slice A 2 c) 2 [.int .i64 5, .int .i64 1] ∧ Chg (· = b) w0 w' := by
  have hh := Has.new w0 3 #[.int .i64 3, .int .i64 5]
  obtain ⟨cs, hcs⟩ := h.has
  refine (take_ok b [161] 0 _ (h.chg (S := fun _ => False) ((Chg.refl _ _).alloc _) (fun _ _ f => f)) (by simp) (by simp) (some ⟨w0.heap.size, 0, none⟩) 2 2 (· = w0.heap.size) (fun i => if i = 0 then 3 else 5) (by omega)
    (fun i hi => by
      obtain ⟨a, ha, hb, hc⟩ := Arr.of_has hh (n := 2) (by simp) i hi
      refine ⟨a, ha, hb, ?_⟩
      rw [hc]
      match i, hi with
      | 0, _ => rfl
      | 1, _ => rfl)
    (fun k hk => by subst hk; exact ⟨by simp, by have := hcs.lt; omega⟩)
    (fun i hi => by
      match i, hi with
      | 0, _ => decide
      | 1, _ => decide) (by decide)).mono ?_
  rintro e w' ⟨A, c, rfl, hO, hR, hC⟩
  rw [World.size_alloc] at hO
  refine ⟨A, c, rfl, ?_, Chg.new_then ((Chg.refl _ _).alloc _) hC⟩
  have e1 : (List.range 2).map (nums [161] 0 (fun i => if i = 0 then 3 else 5)) = [.int .i64 5, .int .i64 1] := rfl
  rw [e1] at hO
  exact own_base hO (fun k hk => by have := (hO.lt k hk).1; omega)
set_option maxHeartbeats 2000000 in
theorem awake_any (w : World) : Calls Try.prog 8 #[] w fun e w' => e = .returned (.bool true) ∧ New w w' := by
  go_enter Try.func8, Try.ntmps8
  go_wp2_with fail
  refine (aw_put w).mono ?_
  rintro e w1 ⟨rfl, v1, hW1, hN1⟩
  have HW1 := Lib.hid hW1; clear hW1
  have HN1 := Lib.hid hN1; clear hN1
  go_wp2_with fail
  refine (aw_read _).mono ?_
  rintro e w2 ⟨b, rfl, hR2, hN2, hb⟩
  have HR2 := Lib.hid hR2; clear hR2
  have HN2 := Lib.hid hN2; clear hN2
  go_wp2_with fail
  refine (aw_take _ b HR2.out).mono ?_
  rintro e w3 ⟨A, c, rfl, hO3, hC3⟩
  have HO3 := Lib.hid hO3; clear hO3
  have HC3 := Lib.hid hC3; clear hC3
  go_wp2_with fail
  have hW3 : Wr w3 w.heap.size v1 awL := by
    have hl := HW1.out.1.lt
    refine (HW1.out.chg HN2.out (fun f => f) (fun _ _ f => f)).chg HC3.out (by omega) (fun k hk => ?_)
    have := (HW1.out.2.lt k hk).2
    omega
  refine (Bytes_any _ _ _ _ hW3 (by decide)).mono ?_
  rw [awL_pack]
  clear hW3
  rintro e w4 ⟨A4, c4, rfl, hO4, hN4⟩
  have hO3' := own_new HO3.out hN4
  obtain ⟨g, rfl⟩ : ∃ g, A = some ⟨g, 0, none⟩ := by
    rcases HO3.out.2 with ⟨h, hn⟩ | ⟨g, cap, cur, hv, _⟩
    · cases hn
    · simp only [Value.slice.injEq] at hv
      exact ⟨g, hv.1⟩
  have hc0 : w4.cell? ⟨g, 0, none⟩ = some (.int .i64 5) := hO3'.cellAt 0 (by omega)
  have hc1 : w4.cell? ⟨g, 1, none⟩ = some (.int .i64 1) := hO3'.cellAt 1 (by omega)
  have hconv : (convert 24 9 (.slice A4 1 c4)).run Try.prog w4 = .ok (.string (bstr [161])) w4 := own_string Try.underlying24 Try.underlying5 Try.underlying9 hO4
  have heq : ((bstr [161]).toList == [161]) = true := by rw [bstr_list]; decide
  have HN4 := Lib.hid hN4; clear hN4 hO4 hO3'
  go_wp2
  go_ret
  refine ⟨?_, (((HN1.out.then_new HN2.out).trans HC3.out (fun i hi e => ?_)).then_new HN4.out)⟩
  · first | rfl | simp
  · have := HN1.out.size; omega
end Go.Proofs.Ytemhcfbdpplcgaa
