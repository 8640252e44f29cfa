/-
  Package ipe's Form of a product.
-/
import Derived.Test.YtkcokcanakljnaaIqB
import Derived.Test.YtkcokcanakljnaaIqD
import Derived.Test.YtkcokcanakljnaaPutC
import Derived.Test.YtkcokcanakljnaaPush
import Derived.Test.YtkcokcanakljnaaFindB
namespace Go.Proofs.Ytkcokcanakljnaa
open Go.RowKit
theorem iForm_no (p : Pd) (hp : rightN p.ns = false) (w : World) : Calls Try.prog 9 #[p.V] w fun e w' => e = .returned (.tuple #[.slice none 0 0, .int .i64 2]) ∧ New w w' := by
  have HR := Lib.hid (fun w => iright_any p w)
  rw [hp] at HR
  clear hp
  obtain ⟨x0, x1, x2, x3, x4, x5, x6, x7, x8, x9, x10, x11, x12, x13⟩ := p
  have HR : Hid (∀ w, Calls Try.prog 33 #[.agg #[.int .i64 x0, .int .i64 x1, .int .i64 x2, .int .i64 x3, .int .i64 x4, .int .i64 x5, .int .i64 x6, .int .i64 x7, .bool x8, .int .i64 x9, .int .i64 x10, .int .i64 x11, .int .i64 x12, .bool x13]] w fun e w' => e = .returned (.bool false) ∧ New w w') := HR.out
  go_enter Try.func9, Try.ntmps9
  go_wp2_with fail
  with_reducible refine (HR.out _).mono ?_
  rintro e w1 ⟨rfl, hN⟩
  have HN := Lib.hid (Chg.then_new ((Chg.refl (fun _ => False) w).alloc (.cells #[.int .i64 x0, .int .i64 x1, .int .i64 x2, .int .i64 x3, .int .i64 x4, .int .i64 x5, .int .i64 x6, .int .i64 x7, .bool x8, .int .i64 x9, .int .i64 x10, .int .i64 x11, .int .i64 x12, .bool x13] 24)) hN); clear hN
  go_wp2_with fail
  go_ret2
  exact ⟨rfl, HN.out⟩
theorem numT_at0 {L : List Int} {i : Nat} (hi : i < L.length) (h : L.getD i 0 = 0) : numT i (L.drop i) = numT (i + 1) (L.drop (i + 1)) := by
  have e : L[i] = L.getD i 0 := by simp [List.getD_eq_getElem?_getD, List.getElem?_eq_getElem hi]
  rw [List.drop_eq_getElem_cons hi, numT, if_pos (by rw [e]; exact h)]
theorem numT_at1 {L : List Int} {i : Nat} (hi : i < L.length) (h : L.getD i 0 ≠ 0) : numT i (L.drop i) = .cons (i : Int) (be (L.getD i 0).toNat) .nil (numT (i + 1) (L.drop (i + 1))) := by
  have e : L[i] = L.getD i 0 := by simp [List.getD_eq_getElem?_getD, List.getElem?_eq_getElem hi]
  rw [List.drop_eq_getElem_cons hi, numT, if_neg (by rw [e]; exact h), e]
theorem numT_len : ∀ (m : List Int) (i : Nat), (numT i m).len ≤ m.length
  | [], i => by simp [numT, Tr.len]
  | n :: r, i => by
    have := numT_len r (i + 1)
    simp only [numT]
    split
    · simp only [List.length_cons]; omega
    · simp only [Tr.len, List.length_cons]; omega
theorem right_L {m : List Int} (h : RightN m) (i : Nat) : 0 ≤ (0 :: m).getD i 0 ∧ (0 :: m).getD i 0 ≤ 2147483648 := by
  have hb := right_bounds h
  cases i with
  | zero => simp
  | succ i =>
    rw [List.getD_cons_succ]
    refine ⟨(hb.1 i).1, ?_⟩
    by_cases hj : i < 14
    · have hh := h.2 i hj
      have h2 : mosts.getD i 0 ≤ 2147483648 := by
        rcases (show i = 0 ∨ i = 1 ∨ i = 2 ∨ i = 3 ∨ i = 4 ∨ i = 5 ∨ i = 6 ∨ i = 7 ∨ i = 8 ∨ i = 9 ∨ i = 10 ∨ i = 11 ∨ i = 12 ∨ i = 13 by omega) with rfl | rfl | rfl | rfl | rfl | rfl | rfl | rfl | rfl | rfl | rfl | rfl | rfl | rfl <;> decide
      omega
    · rw [List.getD_eq_getElem?_getD, List.getElem?_eq_none (by rw [h.1]; omega)]
      simp
theorem index_W (p : Pd) (i : Nat) (hi : i < 15) (w : World) : (Instr.index 91 p.W (.int .i64 (i : Int))).run Try.prog w = .ok (.int .i64 ((0 :: p.ns).getD i 0)) w := by
  obtain ⟨x0, x1, x2, x3, x4, x5, x6, x7, x8, x9, x10, x11, x12, x13⟩ := p
  rcases (show i = 0 ∨ i = 1 ∨ i = 2 ∨ i = 3 ∨ i = 4 ∨ i = 5 ∨ i = 6 ∨ i = 7 ∨ i = 8 ∨ i = 9 ∨ i = 10 ∨ i = 11 ∨ i = 12 ∨ i = 13 ∨ i = 14 by omega) with rfl | rfl | rfl | rfl | rfl | rfl | rfl | rfl | rfl | rfl | rfl | rfl | rfl | rfl | rfl <;> kernel_rfl
theorem Pd.W_L (p : Pd) : p.W = .agg ((0 :: p.ns).map iV).toArray := rfl
set_option maxRecDepth 100000 in
set_option maxHeartbeats 4000000 in
theorem iForm_yes (p : Pd) (hp : RightN p.ns) (w : World) : Calls Try.prog 9 #[p.V] w fun e w' => ∃ A c, e = .returned (.tuple #[.slice A (formN p.ns).length c, .int .i64 0]) ∧ w'.ownsRow w.heap.size 5 1 (.slice A (formN p.ns).length c) (formN p.ns).length ((formN p.ns).map bV) ∧ New w w' := by
  have HR := Lib.hid (fun w => iright_any p w)
  rw [rightN_yes hp] at HR
  have HNm := Lib.hid (fun w => numbersOf_any p w)
  have HPut : Hid (∀ (A : Option Addr) (c : Nat) (w : World) (F : Nat → Prop), Lay w F A 0 (formT p.ns) → (∀ k, F k → k < w.heap.size) → Calls Try.prog 36 #[.slice A 1 c] w fun e w' => PutR w (.ok (formN p.ns)) e w' ∧ New w w') := fun A c w F hL hF => by
    have := Put_any (formT p.ns) 1 A c w F rfl hL hF (by omega)
    rw [form_put hp] at this
    exact this
  have HNu := Lib.hid (fun (v : Int) (h : 0 ≤ v ∧ v ≤ 2147483648) (w : World) => Num_any v (by omega) (by omega) w)
  have Hb := Lib.hid (right_L hp)
  have HIx := Lib.hid (fun i hi w => index_W p i hi w)
  rw [Pd.W_L] at HIx
  obtain ⟨m, hm⟩ : ∃ m, m = p.ns := ⟨_, rfl⟩
  rw [Pd.W_L] at HNm
  rw [← hm] at HNm HPut Hb HIx hp ⊢
  clear hm
  have hml : m.length = 14 := hp.1
  clear hp
  obtain ⟨L, hL⟩ : ∃ L, L = 0 :: m := ⟨_, rfl⟩
  have Hstart : Hid (numT 0 L = numT 1 m) := by rw [Hid, hL, numT, if_pos rfl]
  rw [← hL] at HNm Hb HIx
  have HLl : Hid (L.length = 15) := by rw [Hid, hL, List.length_cons, hml]
  clear hL hml
  obtain ⟨Z, hZ⟩ : ∃ Z, Z = (L.map iV).toArray := ⟨_, rfl⟩
  rw [← hZ] at HNm HIx
  clear hZ
  obtain ⟨x0, x1, x2, x3, x4, x5, x6, x7, x8, x9, x10, x11, x12, x13⟩ := p
  have HR : Hid (∀ w, Calls Try.prog 33 #[.agg #[.int .i64 x0, .int .i64 x1, .int .i64 x2, .int .i64 x3, .int .i64 x4, .int .i64 x5, .int .i64 x6, .int .i64 x7, .bool x8, .int .i64 x9, .int .i64 x10, .int .i64 x11, .int .i64 x12, .bool x13]] w fun e w' => e = .returned (.bool true) ∧ New w w') := HR.out
  have HNm : Hid (∀ w, Calls Try.prog 34 #[.agg #[.int .i64 x0, .int .i64 x1, .int .i64 x2, .int .i64 x3, .int .i64 x4, .int .i64 x5, .int .i64 x6, .int .i64 x7, .bool x8, .int .i64 x9, .int .i64 x10, .int .i64 x11, .int .i64 x12, .bool x13]] w fun e w' => e = .returned (.agg Z) ∧ New w w') := HNm.out
  go_enter Try.func9, Try.ntmps9
  go_wp2_with fail
  with_reducible refine (HR.out _).mono ?_
  rintro e w0 ⟨rfl, hN⟩
  have HB := Lib.hid ((Has.new w 24 #[.int .i64 x0, .int .i64 x1, .int .i64 x2, .int .i64 x3, .int .i64 x4, .int .i64 x5, .int .i64 x6, .int .i64 x7, .bool x8, .int .i64 x9, .int .i64 x10, .int .i64 x11, .int .i64 x12, .bool x13]).keep hN)
  have HN := Lib.hid (Chg.then_new ((Chg.refl (fun _ => False) w).alloc (.cells #[.int .i64 x0, .int .i64 x1, .int .i64 x2, .int .i64 x3, .int .i64 x4, .int .i64 x5, .int .i64 x6, .int .i64 x7, .bool x8, .int .i64 x9, .int .i64 x10, .int .i64 x11, .int .i64 x12, .bool x13] 24)) hN); clear hN
  have k0 : w0.cell? ⟨w.heap.size, 0, none⟩ = some (.int .i64 x0) := (HB.out.cell 0).trans rfl
  have k1 : w0.cell? ⟨w.heap.size, 1, none⟩ = some (.int .i64 x1) := (HB.out.cell 1).trans rfl
  have k2 : w0.cell? ⟨w.heap.size, 2, none⟩ = some (.int .i64 x2) := (HB.out.cell 2).trans rfl
  have k3 : w0.cell? ⟨w.heap.size, 3, none⟩ = some (.int .i64 x3) := (HB.out.cell 3).trans rfl
  have k4 : w0.cell? ⟨w.heap.size, 4, none⟩ = some (.int .i64 x4) := (HB.out.cell 4).trans rfl
  have k5 : w0.cell? ⟨w.heap.size, 5, none⟩ = some (.int .i64 x5) := (HB.out.cell 5).trans rfl
  have k6 : w0.cell? ⟨w.heap.size, 6, none⟩ = some (.int .i64 x6) := (HB.out.cell 6).trans rfl
  have k7 : w0.cell? ⟨w.heap.size, 7, none⟩ = some (.int .i64 x7) := (HB.out.cell 7).trans rfl
  have k8 : w0.cell? ⟨w.heap.size, 8, none⟩ = some (.bool x8) := (HB.out.cell 8).trans rfl
  have k9 : w0.cell? ⟨w.heap.size, 9, none⟩ = some (.int .i64 x9) := (HB.out.cell 9).trans rfl
  have k10 : w0.cell? ⟨w.heap.size, 10, none⟩ = some (.int .i64 x10) := (HB.out.cell 10).trans rfl
  have k11 : w0.cell? ⟨w.heap.size, 11, none⟩ = some (.int .i64 x11) := (HB.out.cell 11).trans rfl
  have k12 : w0.cell? ⟨w.heap.size, 12, none⟩ = some (.int .i64 x12) := (HB.out.cell 12).trans rfl
  have k13 : w0.cell? ⟨w.heap.size, 13, none⟩ = some (.bool x13) := (HB.out.cell 13).trans rfl
  go_wp2_with fail
  with_reducible refine (HNm.out _).mono ?_
  rintro e w1 ⟨rfl, hN⟩
  have HN1 := Lib.hid (HN.out.then_new hN); clear hN HB
  clear k0 k1 k2 k3 k4 k5 k6 k7 k8 k9 k10 k11 k12 k13 HR HNm HN
  go_wp2_with fail
  go_loopg [4, 12] 15 (fun gk s4 s12 wr => ∃ (i : Nat) (A : Option Addr) (k c : Nat) (D : Tr), i ≤ 15 ∧ gk = 15 - i ∧ s12 = .int .i64 i ∧ s4 = .slice A k c ∧ k ≤ i ∧ D.app (numT i (L.drop i)) = numT 1 m ∧ Done w1 wr (.slice A k c) k D ∧ New w1 wr)
  case atStart => exact ⟨0, none, 0, 0, .nil, by omega, by omega, rfl, rfl, by omega, by exact Hstart.out, Done.start _, Chg.refl _ _⟩
  case round =>
    obtain ⟨i, A, k, c, D, hi, rfl, rfl, rfl, hk, hD, hO, hNr⟩ := hrel
    have HD := Lib.hid hD
    have HO := Lib.hid hO
    have HNr := Lib.hid hNr
    have Hk := Lib.hid hk
    clear hD hO hNr hk
    by_cases hlt : i < 15
    · have hz := HIx.out i hlt
      obtain ⟨v, hv⟩ : ∃ v, L.getD i 0 = v := ⟨_, rfl⟩
      rw [hv] at hz
      have Hvb := Lib.hid (Hb.out i)
      rw [hv] at Hvb
      have Hv := Lib.hid hv
      clear hv
      have t1 : decide ((i : Int) < 15) = true := decide_eq_true (by omega)
      by_cases c0 : v = 0
      · have e0 : (v == 0) = true := beq_iff_eq.2 c0
        have e0' : (v != 0) = false := by rw [bne, e0]; rfl
        have HD2 : Hid (D.app (numT (i + 1) (L.drop (i + 1))) = numT 1 m) := by rw [Hid, ← numT_at0 (L := L) (i := i) (by rw [HLl.out]; exact hlt) (by rw [Hv.out]; exact c0)]; exact HD.out
        clear c0
        go_wp2_with fail
        go_roundg (15 - (i + 1))
        case measure => omega
        case rel => exact ⟨i + 1, A, k, c, D, by omega, rfl, by go_num, rfl, by have := Hk.out; omega, HD2.out, HO.out, HNr.out⟩
      · have e0 : (v == 0) = false := beq_eq_false_iff_ne.2 c0
        have e0' : (v != 0) = true := by rw [bne, e0]; rfl
        have HD2 : Hid ((D.app (.cons (i : Int) (be v.toNat) .nil .nil)).app (numT (i + 1) (L.drop (i + 1))) = numT 1 m) := by
          rw [Hid, ← HD.out, numT_at1 (L := L) (i := i) (by rw [HLl.out]; exact hlt) (by rw [Hv.out]; exact c0), Hv.out, Tr.app_app]
          rfl
        clear c0
        go_wp2_with fail
        with_reducible refine (HNu.out v Hvb.out wr).mono ?_
        rintro e w2 ⟨⟨Bq, q, d, rfl, hq, hq8, hOb⟩, hN2⟩
        obtain ⟨hDl, xs, hOx, hTx⟩ := HO.out
        have HOb := Lib.hid hOb
        have HN2 := Lib.hid hN2
        have HOx := Lib.hid (own_new hOx hN2)
        have Hq := Lib.hid hq
        have Hxs := Lib.hid (And.intro hDl (And.intro hOx hTx))
        clear hOb hN2 hq hDl hOx hTx
        go_wp2_with (first | (at_builtin; refine wpList_push rfl (wX := w1) (Nat.le_trans HNr.out.size (Nat.le_trans HN2.out.size (by simp))) _ _ rfl (.slice A k c) k xs rfl (own_new HOx.out ((Chg.refl _ _).alloc _)) w2.heap.size (.int .i64 i) (.slice Bq q d) (.slice none 0 0) rfl (Has.new w2 _ _) rfl rfl rfl (by have := Hk.out; omega) ?_; intro A8 c8 w8 hO8 hC8 hf8; have HO8 := Lib.hid hO8; have HC8 := Lib.hid hC8; have Hf8 := Lib.hid hf8; clear hO8 hC8 hf8) | fail)
        have HD8 : Hid (Done w1 w8 (.slice A8 (k + 1) c8) (k + 1) (D.app (.cons (i : Int) (be v.toNat) .nil .nil))) := by
          refine Done.push Hxs.out.1 Hxs.out.2.1 Hxs.out.2.2 HNr.out.size (HN2.out.alloc (.cells #[.int .i64 (i : Int), .slice Bq q d, .slice none 0 0] 95)) (vb := .slice Bq q d) (vs := .slice none 0 0) ?_ (be_lt _) (by rw [← Hq.out]; omega) (by simp [Tr.len]) (by omega) (own_none _ _) HO8.out HC8.out Hf8.out
          rw [← Hq.out]
          have h1 := own_new HOb.out ((Chg.refl (fun _ => False) w2).alloc (.cells #[.int .i64 (i : Int), .slice Bq q d, .slice none 0 0] 95))
          exact ⟨own_less0 h1, fun j hj => h1.lt j hj⟩
        have HW8 : Hid (New w1 w8) := (HNr.out.then_new (HN2.out.alloc _)).trans HC8.out (fun i hi hk => by have := (Hxs.out.2.1.lt i hk).1; omega)
        go_roundg (15 - (i + 1))
        case measure => omega
        case rel => exact ⟨i + 1, A8, k + 1, c8, _, by omega, rfl, by go_num, rfl, by have := Hk.out; omega, HD2.out, HD8.out, HW8.out⟩
    · obtain rfl : i = 15 := by omega
      have hDm : D = numT 1 m := by
        have := HD.out
        rw [show (15 : Nat) = L.length from HLl.out.symm, List.drop_length] at this
        simpa [numT, Tr.app_nil] using this
      have hEl := HO.out.out
      have hkl : k = D.len := HO.out.1.symm
      have hels := hEl.els (by have := Hk.out; omega)
      obtain ⟨A9, c9, e9, hA9, hs9, hL9⟩ := hels
      simp only [Value.slice.injEq] at e9
      obtain ⟨rfl, e10, rfl⟩ := e9
      clear e10
      rw [hDm] at hA9 hs9 hL9 hkl
      have hN4 : New wr (wr.alloc (.cells #[.int .i64 224, .slice none 0 0, .slice A k c] 95)) := (Chg.refl _ _).alloc _
      have HLay : Hid (Lay (wr.alloc (.cells #[.int .i64 224, .slice none 0 0, .slice A k c] 95)) (fun j => j < wr.heap.size + 1) (some ⟨wr.heap.size, 0, none⟩) 0 (formT m)) := by
        refine ⟨⟨.slice none 0 0, A, c, ?_, ?_, hA9, hs9, by omega, ?_⟩, trivial⟩
        · rw [← hkl]
          have hh := Has.new wr 95 #[.int .i64 224, .slice none 0 0, .slice A k c]
          exact ⟨_, rfl, by simp, (hh.cell 0).trans rfl, (hh.cell 1).trans rfl, (hh.cell 2).trans rfl⟩
        · exact ⟨none, 0, rfl, fun i hi => by simp at hi, fun _ => ⟨rfl, rfl⟩, by simp, by simp⟩
        · exact Lay.mono (fun j hj => by have := hj.2; omega) (Lay.new hL9 hN4 (fun j hj => hj.2))
      have HNw := Lib.hid (HN1.out.then_new (HNr.out.then_new hN4))
      clear hDm hEl hkl HIx hA9 hs9 hL9 hN4 HD HO HNr Hk HNu Hb
      go_wp2_with fail
      with_reducible refine (HPut.out _ 1 _ (fun j => j < wr.heap.size + 1) HLay.out (fun j hj => by simpa using hj)).mono ?_
      rintro e w5 ⟨hP, hN5⟩
      obtain ⟨A5, c5, rfl, hO5, _, _⟩ := hP
      have HO5 := Lib.hid hO5
      have HN5 := Lib.hid hN5
      clear hO5 hN5
      go_wp2_with fail
      go_ret2
      exact ⟨A5, c5, rfl, own_less HO5.out (HNw.out.size), HNw.out.then_new HN5.out⟩
end Go.Proofs.Ytkcokcanakljnaa
