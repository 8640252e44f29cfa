/-
  The document's Put.
-/
import Derived.Test.YtficopkjpdfilaaLiU
namespace Go.Proofs.Ytficopkjpdfilaa
open Go.RowKit
theorem Row.own {w : World} {g base : Nat} {bs : List Nat} (h : Row w g bs) (hb : base ≤ g) (hl : bs.length ≤ 1000) : w.ownsRow base 5 1 (.slice (some ⟨g, 0, none⟩) bs.length bs.length) bs.length (bs.map bV) :=
  ⟨by simp, Or.inr ⟨g, bs.length, _, rfl, hb, h, Nat.le_refl _, by simp only [maxLen]; omega, by simp, by rw [List.take_of_length_le (by simp)]⟩⟩
theorem lay_no {x : It} {k : Nat} {z : Int} (hk : ([x.c, x.o, x.i, x.n, x.a] : List Int)[k]? = some z) (hz : z < 0 ∨ 2147483648 < z) : layB x = false := by
  unfold layB
  obtain ⟨hlt, he⟩ := List.getElem?_eq_some_iff.1 hk
  refine inB_no (i := k) hlt ?_
  rw [List.getD_eq_getElem?_getD, hk]
  exact hz
theorem lay_yes {x : It} (h : ∀ (k : Nat) (z : Int), ([x.c, x.o, x.i, x.n, x.a] : List Int)[k]? = some z → 0 ≤ z ∧ z ≤ 2147483648) : layB x = true := by
  unfold layB
  refine inB_yes fun j hj => ?_
  have := h j _ (List.getElem?_eq_getElem hj)
  rw [List.getD_eq_getElem?_getD, List.getElem?_eq_getElem hj]
  exact this
theorem prt_step {x : It} {k : Nat} {z : Int} (hk : ([x.c, x.o, x.i, x.n, x.a] : List Int)[k]? = some z) : prt x (k + 1) = prt x k ++ fourB z.toNat := by
  unfold prt
  rw [take_snoc hk, List.flatMap_append]
  simp
theorem putE_bad {tv : Int} {add off : List It} {k : Nat} {x : It} (hx : (add ++ off)[k]? = some x) (h : layB x = false) : putE tv add off = 2 := by
  have hm := List.mem_of_getElem? hx
  unfold putE
  rw [if_pos]
  rcases List.mem_append.1 hm with h1 | h1
  · have : add.all layB = false := by rw [List.all_eq_false]; exact ⟨x, h1, by rw [h]; decide⟩
    rw [this]; simp
  · have : off.all layB = false := by rw [List.all_eq_false]; exact ⟨x, h1, by rw [h]; decide⟩
    rw [this]; simp
theorem putE_to {tv : Int} {add off : List It} (h : tv < 1 ∨ 2147483647 < tv) : putE tv add off = 2 := by
  unfold putE
  rw [if_pos]
  have : inB 1 2147483647 [tv] = false := inB_no (i := 0) (by simp) (by simpa using h)
  rw [this]; simp
theorem putE_all {tv : Int} {add off : List It} (h : 1 ≤ tv ∧ tv ≤ 2147483647) (hl : (add ++ off).all layB = true) : putE tv add off = if 64 < add.length ∨ 64 < off.length then 11 else 0 := by
  rw [List.all_append, Bool.and_eq_true] at hl
  unfold putE
  have : inB 1 2147483647 [tv] = true := inB_yes fun j hj => by
    obtain rfl : j = 0 := by simpa using hj
    exact h
  rw [if_neg (by rw [this, hl.1, hl.2]; decide)]
  by_cases h64 : 64 < add.length ∨ 64 < off.length
  · rw [if_pos h64, if_pos]
    have : inB 0 64 [(add.length : Int), (off.length : Int)] = false := by
      rcases h64 with h64 | h64
      · exact inB_no (i := 0) (by simp) (Or.inr (by simp; omega))
      · exact inB_no (i := 1) (by simp) (Or.inr (by simp; omega))
    rw [this]; rfl
  · rw [if_neg h64, if_neg]
    have : inB 0 64 [(add.length : Int), (off.length : Int)] = true := by simp [inB]; omega
    rw [this]; decide
theorem wpList_appC {wX wy : World} {ops : Array Oper} {rest : List Oper} {o : Oper} {a : Act} {Q : Exit → Act → World → Prop} (hgd : o.guard = none) (hNy : New wX wy) (s x : Operand)
    (ho : o.op = .call { callee := .builtin .append, args := #[s, x], argTypes := #[56, 56] }) (v : Value) (n : Nat) (xs : List Nat) (hs : a.eval s = v) (hown : wy.ownsRow wX.heap.size 5 1 v n (xs.map bV))
    (A : Option Addr) (m c : Nat) (ys : List Nat) (F : Nat → Prop) (hx : a.eval x = .slice A m c) (hA : Arr wy F A m (fun i => bV (ys.getD i 0))) (hl : ys.length = m) (hnil : A = none → m = 0 ∧ c = 0) (hn : n + m ≤ 140737488355328)
    (h : ∀ A' c' w', w'.ownsRow wX.heap.size 5 1 (.slice A' (n + m) c') (n + m) ((xs ++ ys).map bV) → New wX w' → Chg (fun k => v.ownBlock = some k) wy w' → wpList Try.prog ops Q rest (a.put o.dst (.slice A' (n + m) c')) w') : wpList Try.prog ops Q (o :: rest) a wy :=
  wpList_plain hgd fun _ hK => wp_app hNy s x ho v n xs hs hown A m c ys F hx hA hl hnil hn fun A' c' w' h1 h2 h3 => hK _ _ (h A' c' w' h1 h2 h3)
theorem numbers_at (x : It) (w : World) : Calls Try.prog 47 #[x.V] w fun e w' => ∃ g, e = .returned (.slice (some ⟨g, 0, none⟩) 5 5) ∧ Has w' g 3 x.C ∧ New w w' :=
  (Numbers_any x w).mono fun _ _ h => ⟨_, h.1, h.2.1, h.2.2⟩
theorem all_take_step {f : It → Bool} {xs : List It} {k : Nat} {x : It} (h : xs[k]? = some x) (hp : (xs.take k).all f = true) (hx : f x = true) : (xs.take (k + 1)).all f = true := by rw [take_snoc h, List.all_append, hp]; simp [hx]
set_option maxRecDepth 100000 in
set_option maxHeartbeats 16000000 in
theorem docPut_any (add off : List It) (B D : Option Addr) (m p ca co : Nat) (tv : Int) (F : Nat → Prop) (w : World) (hB : Its w F B add) (hD : Its w F D off) (hF : ∀ k, F k → k < w.heap.size) (hm : add.length = m) (hp : off.length = p) (hmb : m ≤ 3518437208780) (hpb : p ≤ 3518437208780) :
    Calls Try.prog 22 #[.int .i64 tv, .slice B m ca, .slice D p co] w fun e w' => PutR w tv add off e w' ∧ New w w' := by
  have HB := Lib.hid hB; clear hB
  have HD := Lib.hid hD; clear hD
  have HF := Lib.hid hF; clear hF
  have Hm := Lib.hid hm; clear hm
  have Hp := Lib.hid hp; clear hp
  go_enter Try.func22, Try.ntmps22
  by_cases t1 : tv < 1
  · have e1 : decide (tv < 1) = true := decide_eq_true t1
    have HE := Lib.hid (putE_to (add := add) (off := off) (Or.inl t1))
    clear t1
    go_wp2_with fail
    go_ret2
    exact ⟨PutR.no HE.out (by decide), Chg.refl _ _⟩
  have e1 : decide (tv < 1) = false := decide_eq_false t1
  by_cases t2 : 2147483647 < tv
  · have e2 : decide (2147483647 < tv) = true := decide_eq_true t2
    have HE := Lib.hid (putE_to (add := add) (off := off) (Or.inr t2))
    clear t1 t2
    go_wp2_with fail
    go_ret2
    exact ⟨PutR.no HE.out (by decide), Chg.refl _ _⟩
  have e2 : decide (2147483647 < tv) = false := decide_eq_false t2
  have Htv : Hid (1 ≤ tv ∧ tv ≤ 2147483647) := by rw [Hid]; omega
  obtain ⟨tn, htn⟩ : ∃ t : Nat, tv = (t : Int) := ⟨tv.toNat, by omega⟩
  subst htn
  have HF0 := Lib.hid (four_any tn (by omega) w)
  have hR1 : Row (w.alloc (.cells ((fourB tn).map bV).toArray 5)) w.heap.size (fourB tn) := Has.new _ _ _
  have HO1 := Lib.hid (hR1.own (base := w.heap.size) (Nat.le_refl _) (by rw [four_len]; omega))
  have HN1 : Hid (New w (w.alloc (.cells ((fourB tn).map bV).toArray 5))) := (Chg.refl _ _).alloc _
  clear t1 t2 hR1
  go_wp2_with fail
  with_reducible refine HF0.out.mono ?_
  rintro e w1 ⟨rfl, hw1⟩
  rw [← hw1] at HO1 HN1
  have hmw : (m : Int) % 256 = ((m % 256 : Nat) : Int) := by omega
  have hpw : (p : Int) % 256 = ((p % 256 : Nat) : Int) := by omega
  have hR2 : Row (w1.alloc (.cells #[.int .u8 ((m : Int) % 256), .int .u8 ((p : Int) % 256)] 5)) w1.heap.size [m % 256, p % 256] := by rw [hmw, hpw]; exact Has.new _ _ _
  have HR2 := Lib.hid hR2
  clear hw1 hmw hpw hR2 HF0
  go_upto_block 0 with (at_builtin; refine wpList_app rfl (HN1.out.alloc _) (.tmp 21) (.tmp 28) rfl (.slice (some ⟨w.heap.size, 0, none⟩) 4 4) 4 (fourB tn) rfl (own_new HO1.out ((Chg.refl _ _).alloc _)) (some ⟨w1.heap.size, 0, none⟩) 2 2 [m % 256, p % 256] (· = w1.heap.size) rfl (HR2.out.arr rfl) rfl (by intro h; cases h) (by omega) ?_; intro A2 c2 w2 hO2 hN2; have HO2 := Lib.hid hO2; have HN2 := Lib.hid hN2; clear hO2 hN2)
  obtain ⟨H0, hH0⟩ : ∃ H, H = fourB tn ++ [m % 256, p % 256] := ⟨_, rfl⟩
  rw [← hH0] at HO2
  have HH0 := Lib.hid hH0
  have Hl0 : Hid (H0.length = 6) := by rw [Hid, hH0]; rfl
  clear hH0 HO1 HN1 HR2
  go_cut [8] (fun s8 wc => ∃ A c, s8 = .slice A (6 + 20 * (m + p)) c ∧ wc.ownsRow w.heap.size 5 1 (.slice A (6 + 20 * (m + p)) c) (6 + 20 * (m + p)) ((H0 ++ itsB (add ++ off)).map bV) ∧ (add ++ off).all layB = true ∧ New w wc)
  case first =>
    go_wp2_with fail
    go_loopg [9, 8] (m + p) (fun gk i s8 wr => ∃ (k q : Nat) (A : Option Addr) (c : Nat), k ≤ m + p ∧ gk = m + p - k ∧ i = .int .i64 k ∧ q = 6 + 20 * k ∧ s8 = .slice A q c ∧ wr.ownsRow w.heap.size 5 1 (.slice A q c) q ((H0 ++ itsB ((add ++ off).take k)).map bV) ∧ ((add ++ off).take k).all layB = true ∧ New w wr)
    case atStart => exact ⟨0, _, A2, c2, by omega, by omega, rfl, by omega, rfl, by rw [List.take_zero, show itsB [] = [] from rfl, List.append_nil]; exact HO2.out, by simp, HN2.out⟩
    case round =>
      obtain ⟨w9, hw9⟩ : ∃ w9, w9 = wr := ⟨_, rfl⟩
      rw [← hw9] at hrel ⊢
      clear hw9 HO2 HN2
      obtain ⟨k, q8, A8, c8, hk, rfl, rfl, hq8, rfl, hO, hv, hN⟩ := hrel
      have Hq8 := Lib.hid hq8; clear hq8
      have HO := Lib.hid hO; clear hO
      have HV := Lib.hid hv; clear hv
      have HN := Lib.hid hN; clear hN
      by_cases hlt : k < m + p
      case neg =>
        obtain rfl : k = m + p := by omega
        have hall : (add ++ off).take (m + p) = add ++ off := List.take_of_length_le (by rw [List.length_append, Hm.out, Hp.out]; omega)
        have HO3 := Lib.hid HO.out
        have HV3 := Lib.hid HV.out
        rw [hall] at HO3 HV3
        clear hall
        have t1 : decide (((m + p : Nat) : Int) < (m : Int) + (p : Int)) = false := decide_eq_false (by omega)
        have t2 : wrap64 ((m : Int) + (p : Int)) = (m : Int) + (p : Int) := by unfold wrap64; omega
        go_wp2_with fail
        go_meet
        obtain rfl := Hq8.out
        exact ⟨A8, c8, rfl, HO3.out, HV3.out, HN.out⟩
      have t1 : decide ((k : Int) < (m : Int) + (p : Int)) = true := decide_eq_true (by omega)
      have t2 : wrap64 ((m : Int) + (p : Int)) = (m : Int) + (p : Int) := by unfold wrap64; omega
      obtain ⟨x, hx⟩ : ∃ x, (add ++ off)[k]? = some x := ⟨_, List.getElem?_eq_getElem (by rw [List.length_append, Hm.out, Hp.out]; exact hlt)⟩
      have Hx := Lib.hid hx
      have Hst : Hid (H0 ++ itsB ((add ++ off).take (k + 1)) = (H0 ++ itsB ((add ++ off).take k)) ++ itB x) := by rw [Hid, take_snoc hx, itsB_app, itsB_one, List.append_assoc]
      have Hbl : Hid ((H0 ++ itsB ((add ++ off).take k)).length = 6 + 20 * k) := by rw [Hid, List.length_append, itsB_len, List.length_take, Hl0.out, List.length_append, Hm.out, Hp.out]; omega
      obtain ⟨B1, hB1⟩ : ∃ B1, B1 = H0 ++ itsB ((add ++ off).take k) := ⟨_, rfl⟩
      rw [← hB1] at HO Hst Hbl
      clear hB1
      have HNo := Lib.hid (fun w => numbers_at x w)
      obtain ⟨y, hy⟩ : ∃ y, y = x := ⟨_, rfl⟩
      rw [← hy] at Hx Hst
      have Hy := Lib.hid hy; clear hy
      have hw : (k < m ∧ ItAt w9 F B k x) ∨ (m ≤ k ∧ ItAt w9 F D (k - m) x) := by
        rcases Nat.lt_or_ge k m with h | h
        · refine Or.inl ⟨h, (HB.out.new HN.out HF.out) k x ?_⟩
          rwa [List.getElem?_append_left (by rw [Hm.out]; exact h)] at hx
        · refine Or.inr ⟨h, (HD.out.new HN.out HF.out) (k - m) x ?_⟩
          rwa [List.getElem?_append_right (by rw [Hm.out]; exact h), Hm.out] at hx
      clear hx
      obtain ⟨xc, xo, xi, xn, xa⟩ := x
      rcases hw with ⟨hkm, a, hA, hab, a0, a1, a2, a3, a4⟩ | ⟨hkm, a, hA, hab, a0, a1, a2, a3, a4⟩
      case' inl =>
        subst hA
        have t3 : decide ((k : Int) < (m : Int)) = true := decide_eq_true (by omega)
        have hbk : (a.add (k * 5)).block < w9.heap.size := by rw [add_block]; exact Nat.lt_of_lt_of_le (HF.out _ hab) HN.out.size
        clear hab
        go_wp2_with fail
      case' inr =>
        subst hA
        have t3 : decide ((k : Int) < (m : Int)) = false := decide_eq_false (by omega)
        obtain ⟨j, hj⟩ : ∃ j, j = k - m := ⟨_, rfl⟩
        rw [← hj] at a0 a1 a2 a3 a4
        have t4 : wrap64 ((k : Int) - (m : Int)) = (j : Int) := by unfold wrap64; omega
        have t5 : (k : Int) - (m : Int) = (j : Int) := by omega
        have t6 : (j : Int) < (p : Int) := by omega
        have t7 : j < p := by omega
        clear hj
        have hbk : (a.add (j * 5)).block < w9.heap.size := by rw [add_block]; exact Nat.lt_of_lt_of_le (HF.out _ hab) HN.out.size
        clear hab
        go_wp2_with fail
      all_goals
        with_reducible refine (HNo.out _).mono ?_
        rintro e w10 ⟨g10, rfl, hH, hN0⟩
        have HH := Lib.hid hH
        have HN10 : Hid (New w9 w10) := Chg.then_new (by ((with_reducible repeat (first | exact Chg.refl _ _ | refine Chg.alloc ?_ _ | refine Chg.drew ?_ | refine Chg.setCell ?_ (fun h => absurd h (by simp)) _)); fail_if_success (have := True.intro))) hN0
        clear hH hN0
        have HO10 := Lib.hid (own_new HO.out HN10.out)
        have HNW := Lib.hid (HN.out.then_new HN10.out)
        clear a0 a1 a2 a3 a4 hbk
        go_wp2_with fail
        go_loopg [12, 8] 5 (fun gj j s8 wr => ∃ (t q : Nat) (A : Option Addr) (c : Nat), t ≤ 5 ∧ gj = 5 - t ∧ j = .int .i64 t ∧ q = 6 + 20 * k + 4 * t ∧ s8 = .slice A q c ∧ wr.ownsRow w.heap.size 5 1 (.slice A q c) q ((B1 ++ prt y t).map bV) ∧ (∀ (d : Nat) (z : Int), d < t → ([xc, xo, xi, xn, xa] : List Int)[d]? = some z → 0 ≤ z ∧ z ≤ 2147483648) ∧ Has wr g10 3 #[.int .i64 xc, .int .i64 xo, .int .i64 xi, .int .i64 xn, .int .i64 xa] ∧ New w wr)
        case atStart => exact ⟨0, q8, A8, c8, by omega, by omega, rfl, by have := Hq8.out; omega, rfl, by rw [show prt y 0 = [] from rfl, List.append_nil]; exact HO10.out, fun d z hd => by omega, HH.out, HNW.out⟩
        case round =>
          clear HO10 HNW HH
          obtain ⟨t, q, A9, c9, ht, rfl, rfl, hq, rfl, hO9, hv9, hH9, hN9⟩ := hrel
          have hqb : q + 4 ≤ 140737488355328 := by omega
          have Hq := Lib.hid hq; clear hq
          have HO9 := Lib.hid hO9
          have HV9 := Lib.hid hv9
          have HH9 := Lib.hid hH9
          have HN9 := Lib.hid hN9
          clear hO9 hv9 hH9 hN9
          have hl10 := HH9.out.lt
          rcases (show t = 0 ∨ t = 1 ∨ t = 2 ∨ t = 3 ∨ t = 4 ∨ t = 5 by omega) with rfl | rfl | rfl | rfl | rfl | rfl
          · have c0 : wr.cell? ⟨g10, 0, none⟩ = some (.int .i64 xc) := (HH9.out.cell 0).trans rfl
            have Hzz : Hid (([y.c, y.o, y.i, y.n, y.a] : List Int)[0]? = some xc) := by rw [Hid, Hy.out]; rfl
            by_cases z1 : xc < 0
            · have b1 : decide (xc < 0) = true := decide_eq_true z1
              have HE2 : Hid (putE (tn : Int) add off = 2) := putE_bad Hx.out (lay_no Hzz.out (Or.inl z1))
              clear z1
              go_wp2_with fail
              go_ret2
              exact ⟨PutR.no HE2.out (by decide), HN9.out⟩
            have b1 : decide (xc < 0) = false := decide_eq_false z1
            by_cases z2 : 2147483648 < xc
            · have b2 : decide (2147483648 < xc) = true := decide_eq_true z2
              have HE2 : Hid (putE (tn : Int) add off = 2) := putE_bad Hx.out (lay_no Hzz.out (Or.inr z2))
              clear z1 z2
              go_wp2_with fail
              go_ret2
              exact ⟨PutR.no HE2.out (by decide), HN9.out⟩
            have b2 : decide (2147483648 < xc) = false := decide_eq_false z2
            have HVn : Hid (∀ (d : Nat) (z : Int), d < 0 + 1 → ([xc, xo, xi, xn, xa] : List Int)[d]? = some z → 0 ≤ z ∧ z ≤ 2147483648) := fun d z hd hz => by
              rcases Nat.lt_or_ge d 0 with h | h
              · exact HV9.out d z h hz
              · obtain rfl : d = 0 := by omega
                obtain rfl : xc = z := by simpa using hz
                omega
            have Hstp := Lib.hid (prt_step Hzz.out)
            obtain ⟨zn, hzn⟩ : ∃ t : Nat, xc = (t : Int) := ⟨xc.toNat, by omega⟩
            subst hzn
            have HF4 := Lib.hid (four_any zn (by omega) wr)
            have hR4 : Row (wr.alloc (.cells ((fourB zn).map bV).toArray 5)) wr.heap.size (fourB zn) := Has.new _ _ _
            have HR4 := Lib.hid hR4
            have hHa := HH9.out.alloc (.cells ((fourB zn).map bV).toArray 5)
            have hOa := own_new HO9.out ((Chg.refl _ _).alloc (.cells ((fourB zn).map bV).toArray 5))
            have hNa := HN9.out.alloc (.cells ((fourB zn).map bV).toArray 5)
            clear z1 z2 hR4
            go_wp2_with fail
            with_reducible refine HF4.out.mono ?_
            rintro e w12 ⟨rfl, hw12⟩
            rw [← hw12] at HR4 hHa hOa hNa
            have HHa := Lib.hid hHa; have HOa := Lib.hid hOa; have HNa := Lib.hid hNa
            clear hHa hOa hNa hw12 HF4
            go_wp2_with (at_builtin; refine wpList_appC rfl HNa.out (.tmp 73) (.tmp 78) rfl (.slice A9 q c9) q (B1 ++ prt y 0) rfl HOa.out (some ⟨wr.heap.size, 0, none⟩) 4 4 (fourB zn) (· = wr.heap.size) rfl (HR4.out.arr rfl) rfl (by intro h; cases h) hqb ?_; intro A12 c12 w13 hO13 hN13 hC13; have HO13 := Lib.hid hO13; have HN13 := Lib.hid hN13; have HH13 := Lib.hid (HHa.out.chg hC13 (own_apart HOa.out HHa.out (by decide))); clear hO13 hN13 hC13)
            go_roundg 4
            case measure => omega
            case rel =>
              refine ⟨1, q + 4, A12, c12, by omega, by omega, rfl, by have := Hq.out; omega, rfl, ?_, HVn.out, HH13.out, HN13.out⟩
              rw [Hstp.out, ← List.append_assoc]; exact HO13.out
          · have c0 : wr.cell? ⟨g10, 1, none⟩ = some (.int .i64 xo) := (HH9.out.cell 1).trans rfl
            have Hzz : Hid (([y.c, y.o, y.i, y.n, y.a] : List Int)[1]? = some xo) := by rw [Hid, Hy.out]; rfl
            by_cases z1 : xo < 0
            · have b1 : decide (xo < 0) = true := decide_eq_true z1
              have HE2 : Hid (putE (tn : Int) add off = 2) := putE_bad Hx.out (lay_no Hzz.out (Or.inl z1))
              clear z1
              go_wp2_with fail
              go_ret2
              exact ⟨PutR.no HE2.out (by decide), HN9.out⟩
            have b1 : decide (xo < 0) = false := decide_eq_false z1
            by_cases z2 : 2147483648 < xo
            · have b2 : decide (2147483648 < xo) = true := decide_eq_true z2
              have HE2 : Hid (putE (tn : Int) add off = 2) := putE_bad Hx.out (lay_no Hzz.out (Or.inr z2))
              clear z1 z2
              go_wp2_with fail
              go_ret2
              exact ⟨PutR.no HE2.out (by decide), HN9.out⟩
            have b2 : decide (2147483648 < xo) = false := decide_eq_false z2
            have HVn : Hid (∀ (d : Nat) (z : Int), d < 1 + 1 → ([xc, xo, xi, xn, xa] : List Int)[d]? = some z → 0 ≤ z ∧ z ≤ 2147483648) := fun d z hd hz => by
              rcases Nat.lt_or_ge d 1 with h | h
              · exact HV9.out d z h hz
              · obtain rfl : d = 1 := by omega
                obtain rfl : xo = z := by simpa using hz
                omega
            have Hstp := Lib.hid (prt_step Hzz.out)
            obtain ⟨zn, hzn⟩ : ∃ t : Nat, xo = (t : Int) := ⟨xo.toNat, by omega⟩
            subst hzn
            have HF4 := Lib.hid (four_any zn (by omega) wr)
            have hR4 : Row (wr.alloc (.cells ((fourB zn).map bV).toArray 5)) wr.heap.size (fourB zn) := Has.new _ _ _
            have HR4 := Lib.hid hR4
            have hHa := HH9.out.alloc (.cells ((fourB zn).map bV).toArray 5)
            have hOa := own_new HO9.out ((Chg.refl _ _).alloc (.cells ((fourB zn).map bV).toArray 5))
            have hNa := HN9.out.alloc (.cells ((fourB zn).map bV).toArray 5)
            clear z1 z2 hR4
            go_wp2_with fail
            with_reducible refine HF4.out.mono ?_
            rintro e w12 ⟨rfl, hw12⟩
            rw [← hw12] at HR4 hHa hOa hNa
            have HHa := Lib.hid hHa; have HOa := Lib.hid hOa; have HNa := Lib.hid hNa
            clear hHa hOa hNa hw12 HF4
            go_wp2_with (at_builtin; refine wpList_appC rfl HNa.out (.tmp 73) (.tmp 78) rfl (.slice A9 q c9) q (B1 ++ prt y 1) rfl HOa.out (some ⟨wr.heap.size, 0, none⟩) 4 4 (fourB zn) (· = wr.heap.size) rfl (HR4.out.arr rfl) rfl (by intro h; cases h) hqb ?_; intro A12 c12 w13 hO13 hN13 hC13; have HO13 := Lib.hid hO13; have HN13 := Lib.hid hN13; have HH13 := Lib.hid (HHa.out.chg hC13 (own_apart HOa.out HHa.out (by decide))); clear hO13 hN13 hC13)
            go_roundg 3
            case measure => omega
            case rel =>
              refine ⟨2, q + 4, A12, c12, by omega, by omega, rfl, by have := Hq.out; omega, rfl, ?_, HVn.out, HH13.out, HN13.out⟩
              rw [Hstp.out, ← List.append_assoc]; exact HO13.out
          · have c0 : wr.cell? ⟨g10, 2, none⟩ = some (.int .i64 xi) := (HH9.out.cell 2).trans rfl
            have Hzz : Hid (([y.c, y.o, y.i, y.n, y.a] : List Int)[2]? = some xi) := by rw [Hid, Hy.out]; rfl
            by_cases z1 : xi < 0
            · have b1 : decide (xi < 0) = true := decide_eq_true z1
              have HE2 : Hid (putE (tn : Int) add off = 2) := putE_bad Hx.out (lay_no Hzz.out (Or.inl z1))
              clear z1
              go_wp2_with fail
              go_ret2
              exact ⟨PutR.no HE2.out (by decide), HN9.out⟩
            have b1 : decide (xi < 0) = false := decide_eq_false z1
            by_cases z2 : 2147483648 < xi
            · have b2 : decide (2147483648 < xi) = true := decide_eq_true z2
              have HE2 : Hid (putE (tn : Int) add off = 2) := putE_bad Hx.out (lay_no Hzz.out (Or.inr z2))
              clear z1 z2
              go_wp2_with fail
              go_ret2
              exact ⟨PutR.no HE2.out (by decide), HN9.out⟩
            have b2 : decide (2147483648 < xi) = false := decide_eq_false z2
            have HVn : Hid (∀ (d : Nat) (z : Int), d < 2 + 1 → ([xc, xo, xi, xn, xa] : List Int)[d]? = some z → 0 ≤ z ∧ z ≤ 2147483648) := fun d z hd hz => by
              rcases Nat.lt_or_ge d 2 with h | h
              · exact HV9.out d z h hz
              · obtain rfl : d = 2 := by omega
                obtain rfl : xi = z := by simpa using hz
                omega
            have Hstp := Lib.hid (prt_step Hzz.out)
            obtain ⟨zn, hzn⟩ : ∃ t : Nat, xi = (t : Int) := ⟨xi.toNat, by omega⟩
            subst hzn
            have HF4 := Lib.hid (four_any zn (by omega) wr)
            have hR4 : Row (wr.alloc (.cells ((fourB zn).map bV).toArray 5)) wr.heap.size (fourB zn) := Has.new _ _ _
            have HR4 := Lib.hid hR4
            have hHa := HH9.out.alloc (.cells ((fourB zn).map bV).toArray 5)
            have hOa := own_new HO9.out ((Chg.refl _ _).alloc (.cells ((fourB zn).map bV).toArray 5))
            have hNa := HN9.out.alloc (.cells ((fourB zn).map bV).toArray 5)
            clear z1 z2 hR4
            go_wp2_with fail
            with_reducible refine HF4.out.mono ?_
            rintro e w12 ⟨rfl, hw12⟩
            rw [← hw12] at HR4 hHa hOa hNa
            have HHa := Lib.hid hHa; have HOa := Lib.hid hOa; have HNa := Lib.hid hNa
            clear hHa hOa hNa hw12 HF4
            go_wp2_with (at_builtin; refine wpList_appC rfl HNa.out (.tmp 73) (.tmp 78) rfl (.slice A9 q c9) q (B1 ++ prt y 2) rfl HOa.out (some ⟨wr.heap.size, 0, none⟩) 4 4 (fourB zn) (· = wr.heap.size) rfl (HR4.out.arr rfl) rfl (by intro h; cases h) hqb ?_; intro A12 c12 w13 hO13 hN13 hC13; have HO13 := Lib.hid hO13; have HN13 := Lib.hid hN13; have HH13 := Lib.hid (HHa.out.chg hC13 (own_apart HOa.out HHa.out (by decide))); clear hO13 hN13 hC13)
            go_roundg 2
            case measure => omega
            case rel =>
              refine ⟨3, q + 4, A12, c12, by omega, by omega, rfl, by have := Hq.out; omega, rfl, ?_, HVn.out, HH13.out, HN13.out⟩
              rw [Hstp.out, ← List.append_assoc]; exact HO13.out
          · have c0 : wr.cell? ⟨g10, 3, none⟩ = some (.int .i64 xn) := (HH9.out.cell 3).trans rfl
            have Hzz : Hid (([y.c, y.o, y.i, y.n, y.a] : List Int)[3]? = some xn) := by rw [Hid, Hy.out]; rfl
            by_cases z1 : xn < 0
            · have b1 : decide (xn < 0) = true := decide_eq_true z1
              have HE2 : Hid (putE (tn : Int) add off = 2) := putE_bad Hx.out (lay_no Hzz.out (Or.inl z1))
              clear z1
              go_wp2_with fail
              go_ret2
              exact ⟨PutR.no HE2.out (by decide), HN9.out⟩
            have b1 : decide (xn < 0) = false := decide_eq_false z1
            by_cases z2 : 2147483648 < xn
            · have b2 : decide (2147483648 < xn) = true := decide_eq_true z2
              have HE2 : Hid (putE (tn : Int) add off = 2) := putE_bad Hx.out (lay_no Hzz.out (Or.inr z2))
              clear z1 z2
              go_wp2_with fail
              go_ret2
              exact ⟨PutR.no HE2.out (by decide), HN9.out⟩
            have b2 : decide (2147483648 < xn) = false := decide_eq_false z2
            have HVn : Hid (∀ (d : Nat) (z : Int), d < 3 + 1 → ([xc, xo, xi, xn, xa] : List Int)[d]? = some z → 0 ≤ z ∧ z ≤ 2147483648) := fun d z hd hz => by
              rcases Nat.lt_or_ge d 3 with h | h
              · exact HV9.out d z h hz
              · obtain rfl : d = 3 := by omega
                obtain rfl : xn = z := by simpa using hz
                omega
            have Hstp := Lib.hid (prt_step Hzz.out)
            obtain ⟨zn, hzn⟩ : ∃ t : Nat, xn = (t : Int) := ⟨xn.toNat, by omega⟩
            subst hzn
            have HF4 := Lib.hid (four_any zn (by omega) wr)
            have hR4 : Row (wr.alloc (.cells ((fourB zn).map bV).toArray 5)) wr.heap.size (fourB zn) := Has.new _ _ _
            have HR4 := Lib.hid hR4
            have hHa := HH9.out.alloc (.cells ((fourB zn).map bV).toArray 5)
            have hOa := own_new HO9.out ((Chg.refl _ _).alloc (.cells ((fourB zn).map bV).toArray 5))
            have hNa := HN9.out.alloc (.cells ((fourB zn).map bV).toArray 5)
            clear z1 z2 hR4
            go_wp2_with fail
            with_reducible refine HF4.out.mono ?_
            rintro e w12 ⟨rfl, hw12⟩
            rw [← hw12] at HR4 hHa hOa hNa
            have HHa := Lib.hid hHa; have HOa := Lib.hid hOa; have HNa := Lib.hid hNa
            clear hHa hOa hNa hw12 HF4
            go_wp2_with (at_builtin; refine wpList_appC rfl HNa.out (.tmp 73) (.tmp 78) rfl (.slice A9 q c9) q (B1 ++ prt y 3) rfl HOa.out (some ⟨wr.heap.size, 0, none⟩) 4 4 (fourB zn) (· = wr.heap.size) rfl (HR4.out.arr rfl) rfl (by intro h; cases h) hqb ?_; intro A12 c12 w13 hO13 hN13 hC13; have HO13 := Lib.hid hO13; have HN13 := Lib.hid hN13; have HH13 := Lib.hid (HHa.out.chg hC13 (own_apart HOa.out HHa.out (by decide))); clear hO13 hN13 hC13)
            go_roundg 1
            case measure => omega
            case rel =>
              refine ⟨4, q + 4, A12, c12, by omega, by omega, rfl, by have := Hq.out; omega, rfl, ?_, HVn.out, HH13.out, HN13.out⟩
              rw [Hstp.out, ← List.append_assoc]; exact HO13.out
          · have c0 : wr.cell? ⟨g10, 4, none⟩ = some (.int .i64 xa) := (HH9.out.cell 4).trans rfl
            have Hzz : Hid (([y.c, y.o, y.i, y.n, y.a] : List Int)[4]? = some xa) := by rw [Hid, Hy.out]; rfl
            by_cases z1 : xa < 0
            · have b1 : decide (xa < 0) = true := decide_eq_true z1
              have HE2 : Hid (putE (tn : Int) add off = 2) := putE_bad Hx.out (lay_no Hzz.out (Or.inl z1))
              clear z1
              go_wp2_with fail
              go_ret2
              exact ⟨PutR.no HE2.out (by decide), HN9.out⟩
            have b1 : decide (xa < 0) = false := decide_eq_false z1
            by_cases z2 : 2147483648 < xa
            · have b2 : decide (2147483648 < xa) = true := decide_eq_true z2
              have HE2 : Hid (putE (tn : Int) add off = 2) := putE_bad Hx.out (lay_no Hzz.out (Or.inr z2))
              clear z1 z2
              go_wp2_with fail
              go_ret2
              exact ⟨PutR.no HE2.out (by decide), HN9.out⟩
            have b2 : decide (2147483648 < xa) = false := decide_eq_false z2
            have HVn : Hid (∀ (d : Nat) (z : Int), d < 4 + 1 → ([xc, xo, xi, xn, xa] : List Int)[d]? = some z → 0 ≤ z ∧ z ≤ 2147483648) := fun d z hd hz => by
              rcases Nat.lt_or_ge d 4 with h | h
              · exact HV9.out d z h hz
              · obtain rfl : d = 4 := by omega
                obtain rfl : xa = z := by simpa using hz
                omega
            have Hstp := Lib.hid (prt_step Hzz.out)
            obtain ⟨zn, hzn⟩ : ∃ t : Nat, xa = (t : Int) := ⟨xa.toNat, by omega⟩
            subst hzn
            have HF4 := Lib.hid (four_any zn (by omega) wr)
            have hR4 : Row (wr.alloc (.cells ((fourB zn).map bV).toArray 5)) wr.heap.size (fourB zn) := Has.new _ _ _
            have HR4 := Lib.hid hR4
            have hHa := HH9.out.alloc (.cells ((fourB zn).map bV).toArray 5)
            have hOa := own_new HO9.out ((Chg.refl _ _).alloc (.cells ((fourB zn).map bV).toArray 5))
            have hNa := HN9.out.alloc (.cells ((fourB zn).map bV).toArray 5)
            clear z1 z2 hR4
            go_wp2_with fail
            with_reducible refine HF4.out.mono ?_
            rintro e w12 ⟨rfl, hw12⟩
            rw [← hw12] at HR4 hHa hOa hNa
            have HHa := Lib.hid hHa; have HOa := Lib.hid hOa; have HNa := Lib.hid hNa
            clear hHa hOa hNa hw12 HF4
            go_wp2_with (at_builtin; refine wpList_appC rfl HNa.out (.tmp 73) (.tmp 78) rfl (.slice A9 q c9) q (B1 ++ prt y 4) rfl HOa.out (some ⟨wr.heap.size, 0, none⟩) 4 4 (fourB zn) (· = wr.heap.size) rfl (HR4.out.arr rfl) rfl (by intro h; cases h) hqb ?_; intro A12 c12 w13 hO13 hN13 hC13; have HO13 := Lib.hid hO13; have HN13 := Lib.hid hN13; have HH13 := Lib.hid (HHa.out.chg hC13 (own_apart HOa.out HHa.out (by decide))); clear hO13 hN13 hC13)
            go_roundg 0
            case measure => omega
            case rel =>
              refine ⟨5, q + 4, A12, c12, by omega, by omega, rfl, by have := Hq.out; omega, rfl, ?_, HVn.out, HH13.out, HN13.out⟩
              rw [Hstp.out, ← List.append_assoc]; exact HO13.out
          · have HW : Hid (layB y = true) := by rw [Hid, Hy.out]; exact lay_yes fun d z hz => HV9.out d z (by rcases Nat.lt_or_ge d 5 with h | h; exact h; rw [List.getElem?_eq_none (by simpa using h)] at hz; cases hz) hz
            have HO6 := Lib.hid HO9.out
            rw [prt_5, ← Hst.out] at HO6
            go_wp2_with fail
            go_roundg (m + p - (k + 1))
            case measure => omega
            case rel => exact ⟨k + 1, q, A9, c9, by omega, rfl, by go_num, by have := Hq.out; omega, rfl, HO6.out, all_take_step Hx.out HV.out HW.out, HN9.out⟩
  case rest =>
    obtain ⟨A, c, hs, hO, hv, hN⟩ := hcut
    subst hs
    have HO := Lib.hid hO
    have HN := Lib.hid hN
    have hE := putE_all (tv := (tn : Int)) Htv.out hv
    rw [Hm.out, Hp.out] at hE
    have hB : H0 ++ itsB (add ++ off) = delB (tn : Int) add off := by unfold delB; rw [HH0.out, itsB_app, Hm.out, Hp.out]; simp [List.append_assoc]
    have hlen : (delB (tn : Int) add off).length = 6 + 20 * (m + p) := by rw [delB_len, Hm.out, Hp.out]
    rw [hB] at HO
    have Hlen := Lib.hid hlen
    have HE := Lib.hid hE
    clear hO hv hN hB hE hlen
    by_cases h1 : 64 < m
    · have HE2 : Hid (putE (tn : Int) add off = 11) := HE.out.trans (if_pos (Or.inl h1))
      have b1 : decide ((64 : Int) < (m : Int)) = true := decide_eq_true (by omega)
      go_wp2_with fail
      go_ret2
      exact ⟨PutR.no HE2.out (by decide), HN.out⟩
    · have b1 : decide ((64 : Int) < (m : Int)) = false := decide_eq_false (by omega)
      by_cases h2 : 64 < p
      · have HE2 : Hid (putE (tn : Int) add off = 11) := HE.out.trans (if_pos (Or.inr h2))
        have b2 : decide ((64 : Int) < (p : Int)) = true := decide_eq_true (by omega)
        go_wp2_with fail
        go_ret2
        exact ⟨PutR.no HE2.out (by decide), HN.out⟩
      · have HE2 : Hid (putE (tn : Int) add off = 0) := HE.out.trans (if_neg (by omega))
        have b2 : decide ((64 : Int) < (p : Int)) = false := decide_eq_false (by omega)
        go_wp2_with fail
        go_ret2
        exact ⟨Or.inl ⟨HE2.out, A, c, by rw [Hlen.out]; rfl, by rw [Hlen.out]; exact HO.out⟩, HN.out⟩
end Go.Proofs.Ytficopkjpdfilaa
