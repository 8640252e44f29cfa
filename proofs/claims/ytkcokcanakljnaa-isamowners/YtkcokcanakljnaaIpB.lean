/-
  The document's Form of a product.
-/
import Derived.Test.YtkcokcanakljnaaIpA
namespace Go.Proofs.Ytkcokcanakljnaa
open Go.RowKit
theorem own_two {w : World} {base x y : Nat} (hb : base ≤ w.heap.size) : (w.alloc (.cells #[.int .u8 (x : Int), .int .u8 (y : Int)] 5)).ownsRow base 5 1 (.slice (some ⟨w.heap.size, 0, none⟩) 2 2) 2 ([x, y].map bV) :=
  ⟨rfl, .inr ⟨w.heap.size, 2, #[.int .u8 (x : Int), .int .u8 (y : Int)], rfl, hb, heap_alloc_new w _, Nat.le_refl _, by simp [maxLen], rfl, rfl⟩⟩
theorem innerB_0 {m : List Int} {i : Nat} (hi : i < m.length) (h : m.getD i 0 = 0) : innerB (i + 1) (m.drop i) = innerB (i + 2) (m.drop (i + 1)) := by
  have e : m[i] = m.getD i 0 := by simp [List.getD_eq_getElem?_getD, List.getElem?_eq_getElem hi]
  rw [List.drop_eq_getElem_cons hi, innerB, if_pos (by rw [e]; exact h)]
theorem innerB_1 {m : List Int} {i : Nat} (hi : i < m.length) (h : m.getD i 0 ≠ 0) : innerB (i + 1) (m.drop i) = (i + 1) :: (be (m.getD i 0).toNat).length :: (be (m.getD i 0).toNat ++ innerB (i + 2) (m.drop (i + 1))) := by
  have e : m[i] = m.getD i 0 := by simp [List.getD_eq_getElem?_getD, List.getElem?_eq_getElem hi]
  rw [List.drop_eq_getElem_cons hi, innerB, if_neg (by rw [e]; exact h), e]
theorem own_nilb {w : World} {base e size n c : Nat} {A : Option Addr} {xs : List Value} (h : w.ownsRow base e size (.slice A n c) n xs) : A = none → n = 0 ∧ c = 0 := fun hn => by
  obtain ⟨A', c', e', h'⟩ := own_form h
  simp only [Value.slice.injEq] at e'
  obtain ⟨rfl, _, rfl⟩ := e'
  exact h' hn
theorem small_wrap (k : Nat) (h : k < 256) : IntKind.u8.wrap (k : Int) = (k : Int) := by rw [IntKind.wrap_u8]; omega
set_option maxRecDepth 100000 in
set_option maxHeartbeats 4000000 in
theorem rForm10_any (p : Pd) (hp : RightN p.ns) (w : World) : Calls Try.prog 14 #[p.V] w fun e w' => ∃ A c, e = .returned (.slice A (formN p.ns).length c) ∧ w'.ownsRow w.heap.size 5 1 (.slice A (formN p.ns).length c) (formN p.ns).length ((formN p.ns).map bV) ∧ New w w' := by
  have HNm := Lib.hid (rNumbers_any p)
  obtain ⟨m, hm⟩ : ∃ m, m = p.ns := ⟨_, rfl⟩
  rw [← hm] at HNm hp ⊢
  clear hm
  have Hm : Hid (m.length = 14) := hp.1
  have Hp := Lib.hid hp
  have Hin := Lib.hid (right_inner hp)
  clear hp
  obtain ⟨Z, hZ⟩ : ∃ Z, Z = innerB 1 m := ⟨_, rfl⟩
  have hfo : formN m = 224 :: Z.length :: Z := by rw [hZ]; rfl
  rw [hfo]
  rw [← hZ] at Hin
  have HZ := Lib.hid hZ
  clear hZ hfo
  have HNu : Hid (∀ v : Int, v ≤ 9223372036854775807 → ∀ w, Calls Try.prog 43 #[.int .i64 v] w fun e w' => NumR w v e w' ∧ New w w') := fun v hv w => RNum_any (v.toNat + 1) v (Nat.lt_succ_self _) hv w
  obtain ⟨x0, x1, x2, x3, x4, x5, x6, x7, x8, x9, x10, x11, x12, x13⟩ := p
  have HNm : Hid (∀ w, Calls Try.prog 40 #[.agg #[.int .i64 x0, .int .i64 x1, .int .i64 x2, .int .i64 x3, .int .i64 x4, .int .i64 x5, .int .i64 x6, .int .i64 x7, .bool x8, .int .i64 x9, .int .i64 x10, .int .i64 x11, .int .i64 x12, .bool x13]] w fun e w' => ∃ g, e = .returned (.slice (some ⟨g, 0, none⟩) 14 14) ∧ w.heap.size ≤ g ∧ Has w' g 3 (m.map iV).toArray ∧ New w w') := HNm.out
  go_enter Try.func14, Try.ntmps14
  go_wp2_with fail
  with_reducible refine (HNm.out _).mono ?_
  rintro e w1 ⟨g, rfl, hg, hG, hN⟩
  have HG := Lib.hid hG
  have HN := Lib.hid (((Chg.refl (fun _ => False) w).alloc _).then_new hN)
  have Hgl : Hid (w.heap.size < g) := by simp at hg; exact hg
  clear hG hN hg HNm
  go_wp2_with fail
  go_loopg [3, 5] 14 (fun gk s3 s5 wr => ∃ (i : Nat) (X : List Nat) (A : Option Addr) (k c : Nat), i ≤ 14 ∧ gk = 14 - i ∧ s5 = .int .i64 i ∧ s3 = .slice A k c ∧ X ++ innerB (i + 1) (m.drop i) = Z ∧ wr.ownsRow w1.heap.size 5 1 (.slice A k c) k (X.map bV) ∧ New w1 wr)
  case atStart => exact ⟨0, [], none, 0, 0, by omega, by omega, rfl, rfl, HZ.out.symm, World.ownsRow_nil _ _ _ _, Chg.refl _ _⟩
  case round =>
    obtain ⟨i, X, A, k, c, hi, rfl, rfl, rfl, hX, hO, hN1⟩ := hrel
    have HX := Lib.hid hX
    have HO := Lib.hid hO
    have HNr := Lib.hid hN1
    have Hkl : Hid (X.length = k ∧ k ≤ 51) := by
      have := own_length hO
      have h2 := Hin.out
      rw [← hX, List.length_append] at h2
      exact ⟨this, by omega⟩
    clear hX hO hN1
    have HGr := Lib.hid (HG.out.keep HNr.out)
    by_cases hlt : i < 14
    · have a0 := row_at HGr.out i (by rw [Hm.out]; exact hlt)
      have hb := Hp.out.2 i hlt
      obtain ⟨v, hv⟩ : ∃ v, m.getD i 0 = v := ⟨_, rfl⟩
      rw [hv] at a0 hb
      have Hv := Lib.hid hv
      have Hvb : Hid (0 ≤ v ∧ v ≤ 2147483648) := by
        have h2 : mosts.getD i 0 ≤ 2147483648 := by
          rcases (show i = 0 ∨ i = 1 ∨ i = 2 ∨ i = 3 ∨ i = 4 ∨ i = 5 ∨ i = 6 ∨ i = 7 ∨ i = 8 ∨ i = 9 ∨ i = 10 ∨ i = 11 ∨ i = 12 ∨ i = 13 by omega) with rfl | rfl | rfl | rfl | rfl | rfl | rfl | rfl | rfl | rfl | rfl | rfl | rfl | rfl <;> decide
        exact ⟨hb.1, by omega⟩
      clear hv hb
      have g1 : (i : Int) < 14 := by omega
      have t1 : decide ((i : Int) < 14) = true := decide_eq_true g1
      by_cases c0 : v = 0
      · have e0 : (v == 0) = true := beq_iff_eq.2 c0
        have HX2 : Hid (X ++ innerB (i + 2) (m.drop (i + 1)) = Z) := by rw [Hid, ← innerB_0 (by rw [Hm.out]; exact hlt) (by rw [Hv.out]; exact c0)]; exact HX.out
        clear c0
        go_wp2_with fail
        go_roundg (14 - (i + 1))
        case measure => omega
        case rel => exact ⟨i + 1, X, A, k, c, by omega, rfl, by go_num, rfl, HX2.out, HO.out, HNr.out⟩
      · have e0 : (v == 0) = false := beq_eq_false_iff_ne.2 c0
        obtain ⟨i1, hi1⟩ : ∃ i1, i1 = i + 1 := ⟨_, rfl⟩
        have HX2 : Hid ((X ++ [i1, (be v.toNat).length] ++ be v.toNat) ++ innerB (i + 2) (m.drop (i + 1)) = Z) := by
          have := HX.out
          rw [innerB_1 (by rw [Hm.out]; exact hlt) (by rw [Hv.out]; exact c0), Hv.out] at this
          rw [Hid, ← this, hi1]
          simp
        have f1 : IntKind.i64.wrap ((i : Int) + 1) = (i1 : Int) := by rw [hi1, IntWalk.i64_in _ (by omega)]; omega
        have f2 : IntKind.u8.wrap (i1 : Int) = (i1 : Int) := small_wrap _ (by omega)
        have hi1' := Lib.hid hi1
        clear c0 hi1
        go_wp2_with fail
        with_reducible refine (HNu.out v (by have := Hvb.out; omega) wr).mono ?_
        rintro e w2 ⟨⟨B, q, d, rfl, hq, hq8, hOb⟩, hN2⟩
        have HOb := Lib.hid hOb
        have HN2 := Lib.hid hN2
        have HO2 := Lib.hid (own_new HO.out hN2)
        have Hq := Lib.hid hq
        have f3 : IntKind.u8.wrap (q : Int) = (q : Int) := small_wrap _ (by omega)
        clear hOb hN2 hq
        go_wp2_with (first
          | (at_builtin; refine wpList_app2 (wX := w1) rfl HN3.out _ _ rfl (.slice A3 (k + 2) c3) (k + 2) (X ++ [i1, q]) rfl HO3.out B q d (be v.toNat) (fun j => Value.ownBlock (.slice B q d) = some j) rfl (own_arr_bs Hq.out.symm HB3.out) Hq.out.symm (fun h => own_nilb HB3.out h) (by have := Hkl.out; omega) ?_
             intro A4 c4 w4 hO4 hN4 _
             have HO4 := Lib.hid hO4
             have HN4 := Lib.hid hN4
             clear hO4 hN4)
          | (at_builtin; refine wpList_app2 (wX := w1) rfl (HNr.out.then_new (HN2.out.alloc _)) _ _ rfl (.slice A k c) k X rfl (own_new HO2.out ((Chg.refl _ _).alloc _)) (some ⟨w2.heap.size, 0, none⟩) 2 2 [i1, q] (· = w2.heap.size) rfl (arr_two (Has.new w2 5 _)) rfl (fun h => by cases h) (by have := Hkl.out; omega) ?_
             intro A3 c3 w3 hO3 hN3 hC3
             have HO3 := Lib.hid hO3
             have HN3 := Lib.hid hN3
             have HB3 := Lib.hid (own_chg (own_new HOb.out ((Chg.refl _ _).alloc (.cells #[.int .u8 (i1 : Int), .int .u8 (q : Int)] 5))) hC3 (fun j hj e => by have h1 := (HOb.out.lt j hj).1; have h2 := (HO.out.lt j e).2; omega))
             clear hO3 hN3 hC3)
          | fail)
        go_roundg (14 - (i + 1))
        case measure => omega
        case rel =>
          refine ⟨i + 1, X ++ [i1, q] ++ be v.toNat, A4, k + 2 + q, c4, by omega, rfl, by rw [hi1'.out], rfl, ?_, HO4.out, HN4.out⟩
          have := HX2.out
          rw [← Hq.out] at this
          exact this
    · obtain rfl : i = 14 := by omega
      have hXZ : X = Z := by
        have := HX.out
        rw [show (14 : Nat) = m.length from Hm.out.symm, List.drop_length] at this
        simpa [innerB] using this
      have f3 : IntKind.u8.wrap (k : Int) = (k : Int) := small_wrap _ (by have := Hkl.out; omega)
      have HNw : Hid (New w wr) := HN.out.then_new HNr.out
      have Hk : Hid (k = Z.length) := by rw [Hid, ← hXZ]; exact Hkl.out.1.symm
      rw [hXZ] at HO
      clear hXZ HX Hin HZ HNu HGr
      go_wp2_with (first
        | (at_builtin; refine wpList_app2 (wX := w) rfl (HNw.out.alloc _) _ _ rfl (.slice (some ⟨wr.heap.size, 0, none⟩) 2 2) 2 [224, k] rfl (own_two HNw.out.size) A k c Z (fun j => Value.ownBlock (.slice A k c) = some j) rfl (own_arr_bs Hk.out.symm (own_new HO.out ((Chg.refl _ _).alloc _))) Hk.out.symm (fun h => own_nilb HO.out h) (by have := Hkl.out; omega) ?_
           intro A4 c4 w4 hO4 hN4 _
           have HO4 := Lib.hid hO4
           have HN4 := Lib.hid hN4
           clear hO4 hN4)
        | fail)
      go_ret
      have hk := Hk.out
      subst hk
      have e : 2 + Z.length = (224 :: Z.length :: Z).length := by simp; omega
      have hO4 := HO4.out
      rw [e] at hO4 ⊢
      exact ⟨A4, c4, rfl, hO4, HN4.out⟩
end Go.Proofs.Ytkcokcanakljnaa
