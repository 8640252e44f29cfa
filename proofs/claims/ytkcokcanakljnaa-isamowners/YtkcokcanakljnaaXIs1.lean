/-
  Package isam: within, New, Accepts, Next, Last; a module as a block of eight cells.
-/
import Derived.Test.YtkcokcanakljnaaIqA
import Derived.Test.YtkcokcanakljnaaKyP
import Derived.Test.YtkcokcanakljnaaIqE
import Derived.Test.YtkcokcanakljnaaXOr
import Derived.Test.YtkcokcanakljnaaIqC
import Derived.Test.YtkcokcanakljnaaXO2
namespace Go.Proofs.Ytkcokcanakljnaa
open Go.RowKit
set_option maxRecDepth 100000 in
set_option maxHeartbeats 4000000 in
theorem iswithin_any (lo hi : Int) (xs : List Int) (A : Option Addr) (n c : Nat) (w : World) (F : Nat → Prop) (hl : xs.length = n) (hb : n ≤ 1000000000000000000) (hA : Arr w F A n (fun i => iV (xs.getD i 0))) :
    Calls Try.prog 65 #[.int .i64 lo, .int .i64 hi, .slice A n c] w fun e w' => e = .returned (.bool (withB lo hi xs)) ∧ New w w' := by
  obtain ⟨B, hB⟩ : ∃ B, B = withB lo hi xs := ⟨_, rfl⟩
  rw [← hB]
  have HB := Lib.hid hB
  have HA := Lib.hid hA
  have Hl := Lib.hid hl
  clear hB hA hl
  go_enter Try.func65, Try.ntmps65
  go_wp2_with fail
  go_loopg [11] n (fun gk s5 wr => ∃ i : Nat, i ≤ n ∧ gk = n - i ∧ s5 = .int .i64 i ∧ (∀ j, j < i → lo ≤ xs.getD j 0 ∧ xs.getD j 0 ≤ hi) ∧ wr = w)
  case atStart => exact ⟨0, by omega, by omega, rfl, fun j hj => by omega, rfl⟩
  case round =>
    obtain ⟨i, hi', rfl, rfl, hall, hq⟩ := hrel
    rw [hq]
    clear hq
    have Hall := Lib.hid hall; clear hall
    by_cases hlt : i < n
    · obtain ⟨a, rfl, _, a0⟩ := HA.out i hlt
      simp only [iV] at a0
      obtain ⟨v, hv⟩ : ∃ v, xs.getD i 0 = v := ⟨_, rfl⟩
      rw [hv] at a0
      have Hv := Lib.hid hv
      clear hv
      have t1 : decide ((i : Int) < (n : Int)) = true := decide_eq_true (by omega)
      have t1' : decide (i < n) = true := decide_eq_true hlt
      by_cases c1 : v < lo
      · have e1 : decide (v < lo) = true := decide_eq_true c1
        have hBf : B = false := by rw [HB.out]; exact withB_no (by rw [Hl.out]; exact hlt) (Or.inl (by rw [Hv.out]; exact c1))
        clear c1
        go_wp2_with fail
        go_ret
        exact ⟨by rw [hBf]; rfl, Chg.refl _ _⟩
      · have e1 : decide (v < lo) = false := decide_eq_false c1
        by_cases c2 : hi < v
        · have e2 : decide (hi < v) = true := decide_eq_true c2
          have hBf : B = false := by rw [HB.out]; exact withB_no (by rw [Hl.out]; exact hlt) (Or.inr (by rw [Hv.out]; exact c2))
          clear c1 c2
          go_wp2_with fail
          go_ret
          exact ⟨by rw [hBf]; rfl, Chg.refl _ _⟩
        · have e2 : decide (hi < v) = false := decide_eq_false c2
          have hok : Hid (lo ≤ xs.getD i 0 ∧ xs.getD i 0 ≤ hi) := by rw [Hid, Hv.out]; omega
          clear c1 c2
          go_wp2_with fail
          go_roundg (n - (i + 1))
          case measure => omega
          case rel =>
            refine ⟨i + 1, by omega, rfl, by go_num, fun j hj => ?_, rfl⟩
            · rcases Nat.lt_or_ge j i with h | h
              · exact Hall.out j h
              · rw [show j = i by omega]; exact hok.out
    · obtain rfl : i = n := by omega
      have hB2 : B = true := by rw [HB.out]; exact withB_yes (fun j hj => Hall.out j (by rw [Hl.out] at hj; exact hj))
      have t1 : decide ((i : Int) < (i : Int)) = false := decide_eq_false (by omega)
      go_wp2_with fail
      go_ret
      exact ⟨by rw [hB2]; rfl, Chg.refl _ _⟩
/-- the cells of a module -/
abbrev mdC (b : Nat) (o : Int) (f : Nat → Bool) (l : Int) : Array Value := #[.pointer (some ⟨b, 0, none⟩), .int .i64 o, .bool (f 0), .bool (f 1), .bool (f 2), .bool (f 3), .bool (f 4), .int .i64 l]
theorem mdC_set (b : Nat) (o : Int) (f g : Nat → Bool) (l : Int) (v : Nat) (hv : v ≤ 4) (hg : ∀ i, g i = if i = v then true else f i) : (mdC b o f l).setIfInBounds (2 + v) (.bool true) = mdC b o g l := by
  unfold mdC
  rw [hg 0, hg 1, hg 2, hg 3, hg 4]
  rcases (show v = 0 ∨ v = 1 ∨ v = 2 ∨ v = 3 ∨ v = 4 by omega) with rfl | rfl | rfl | rfl | rfl <;> simp
theorem row_arr1 {w : World} {g : Nat} {xs : List Int} (h : Has w g 3 (xs.map iV).toArray) : Arr w (· = g) (some ⟨g, 0, none⟩) xs.length (fun i => iV (xs.getD i 0)) := fun i hi => by
  obtain ⟨a, ha, hb, hc⟩ := Arr.of_has h (n := xs.length) (by simp) i hi
  refine ⟨a, ha, hb, hc.trans ?_⟩
  simp [Array.getD, hi, List.getD_eq_getElem?_getD]
/-- whom an operator accepts -/
def accF (op : Int) (xs : List Int) (i : Nat) : Bool := decide ((i : Int) = op ∨ (i : Int) ∈ xs)
def accL (xs : List Int) (k : Nat) (i : Nat) : Bool := decide ((i : Int) ∈ xs.take k)
theorem accL_0 (xs : List Int) (i : Nat) : accL xs 0 i = false := by simp [accL]
theorem accL_step {xs : List Int} {k v : Nat} (hk : k < xs.length) (hv : xs.getD k 0 = (v : Int)) (i : Nat) : accL xs (k + 1) i = if i = v then true else accL xs k i := by
  have e : xs[k] = (v : Int) := by rw [← hv]; simp [List.getD_eq_getElem?_getD, List.getElem?_eq_getElem hk]
  unfold accL
  rw [List.take_add_one, List.getElem?_eq_getElem hk, e]
  by_cases h : i = v
  · subst h; simp
  · rw [if_neg h]
    have : ¬ (i : Int) = (v : Int) := by omega
    simp [this]
theorem accF_last {xs : List Int} {op : Int} {v : Nat} (hv : op = (v : Int)) (i : Nat) : accF op xs i = if i = v then true else accL xs xs.length i := by
  subst hv
  unfold accF accL
  rw [List.take_length]
  by_cases h : i = v
  · subst h; simp
  · rw [if_neg h]
    have : ¬ (i : Int) = (v : Int) := by omega
    simp [this]
def newOk (op : Int) (xs : List Int) : Bool := withB 0 4 [op] && withB 1 4 xs
def NewR (w : World) (op : Int) (b : Nat) (xs : List Int) (e : Ending) (w' : World) : Prop :=
  (newOk op xs = false ∧ e = .returned (.tuple #[.pointer none, .int .i64 2])) ∨
  (newOk op xs = true ∧ ∃ g, e = .returned (.tuple #[.pointer (some ⟨g, 0, none⟩), .int .i64 0]) ∧ w.heap.size ≤ g ∧ Has w' g 129 (mdC b op (accF op xs) 0))
theorem withB_at {lo hi : Int} {xs : List Int} {i : Nat} (h : withB lo hi xs = true) (hi' : i < xs.length) : lo ≤ xs.getD i 0 ∧ xs.getD i 0 ≤ hi := by
  unfold withB at h
  rw [List.all_eq_true] at h
  have := h xs[i] (List.getElem_mem hi')
  simp only [Bool.and_eq_true, decide_eq_true_eq] at this
  rw [List.getD_eq_getElem?_getD, List.getElem?_eq_getElem hi']
  exact this
theorem step_set {w : World} {g b : Nat} {o : Int} {f f' : Nat → Bool} {l : Int} {v : Nat} (h : Has w g 129 (mdC b o f l)) (hv : v ≤ 4) (hg : ∀ i, f' i = if i = v then true else f i) : Has (w.setCell ⟨g, 2 + v, none⟩ (.bool true)) g 129 (mdC b o f' l) := by
  rw [← mdC_set b o f f' l v hv hg]; exact h.set _ _
set_option maxRecDepth 100000 in
set_option maxHeartbeats 4000000 in
theorem New_any (op : Int) (b : Nat) (xs : List Int) (A : Option Addr) (n c : Nat) (w : World) (F : Nat → Prop) (hl : xs.length = n) (hb : n ≤ 1000000000000000000) (hA : Arr w F A n (fun i => iV (xs.getD i 0))) (hF : ∀ k, F k → k < w.heap.size) :
    Calls Try.prog 27 #[.int .i64 op, .pointer (some ⟨b, 0, none⟩), .slice A n c] w fun e w' => NewR w op b xs e w' ∧ New w w' := by
  have HW : Hid (∀ wx, New w wx → Calls Try.prog 65 #[.int .i64 1, .int .i64 4, .slice A n c] wx fun e w' => e = .returned (.bool (withB 1 4 xs)) ∧ New wx w') := fun wx hx => iswithin_any 1 4 xs A n c wx F hl hb (hA.new hx hF)
  have HV : Hid (∀ wx g, Has wx g 3 #[.int .i64 op] → Calls Try.prog 65 #[.int .i64 0, .int .i64 4, .slice (some ⟨g, 0, none⟩) 1 1] wx fun e w' => e = .returned (.bool (withB 0 4 [op])) ∧ New wx w') := fun wx g hx => iswithin_any 0 4 [op] _ 1 1 wx _ rfl (by omega) (row_arr1 (xs := [op]) hx)
  have HA := Lib.hid hA
  have HF := Lib.hid hF
  have Hl := Lib.hid hl
  have Hb := Lib.hid hb
  clear hA hF hl hb
  go_enter Try.func27, Try.ntmps27
  cases h1 : withB 0 4 [op] with
  | false =>
    rw [h1] at HV
    have H1 := Lib.hid h1
    clear h1
    go_wp2_with fail
    have hH := Has.new w 3 #[.int .i64 op]
    have hN : New w (w.alloc (.cells #[.int .i64 op] 3)) := (Chg.refl _ _).alloc _
    generalize w.alloc (.cells #[.int .i64 op] 3) = w1 at hH hN ⊢
    with_reducible refine (HV.out _ _ hH).mono ?_
    rintro e w2 ⟨rfl, hN2⟩
    have HN := Lib.hid (hN.then_new hN2)
    clear hN hN2 hH
    go_wp2_with fail
    go_ret2
    exact ⟨Or.inl ⟨by unfold newOk; rw [H1.out]; rfl, rfl⟩, HN.out⟩
  | true =>
    have Hop : Hid (0 ≤ op ∧ op ≤ 4) := withB_at (xs := [op]) h1 (i := 0) (by simp)
    rw [h1] at HV
    have H1 := Lib.hid h1
    clear h1
    go_wp2_with fail
    have hH := Has.new w 3 #[.int .i64 op]
    have hN : New w (w.alloc (.cells #[.int .i64 op] 3)) := (Chg.refl _ _).alloc _
    generalize w.alloc (.cells #[.int .i64 op] 3) = w1 at hH hN ⊢
    with_reducible refine (HV.out _ _ hH).mono ?_
    rintro e w2 ⟨rfl, hN2⟩
    have HN := Lib.hid (hN.then_new hN2)
    clear hN hN2 hH
    cases h2 : withB 1 4 xs with
    | false =>
      rw [h2] at HW
      have H2 := Lib.hid h2
      clear h2
      go_wp2_with fail
      with_reducible refine (HW.out _ HN.out).mono ?_
      rintro e w3 ⟨rfl, hN3⟩
      have HN3 := Lib.hid (HN.out.then_new hN3)
      clear hN3
      go_wp2_with fail
      go_ret2
      exact ⟨Or.inl ⟨by unfold newOk; rw [H1.out, H2.out]; rfl, rfl⟩, HN3.out⟩
    | true =>
      rw [h2] at HW
      have H2 := Lib.hid h2
      clear h2
      go_wp2_with fail
      with_reducible refine (HW.out _ HN.out).mono ?_
      rintro e w3 ⟨rfl, hN3⟩
      have HN3 := Lib.hid (HN.out.then_new hN3)
      clear hN3 HN HW HV
      go_upto_region 4 with (fail)
      have hH := Has.new w3 129 (mdC b op (accL xs 0) 0)
      have hN4 : New w (w3.alloc (.cells (mdC b op (accL xs 0) 0) 129)) := HN3.out.alloc _
      have hs : w.heap.size ≤ w3.heap.size := HN3.out.size
      have e0 : mdC b op (accL xs 0) 0 = #[.pointer (some ⟨b, 0, none⟩), .int .i64 op, .bool false, .bool false, .bool false, .bool false, .bool false, .int .i64 0] := by unfold mdC; simp only [accL_0]
      obtain ⟨w4, hw4⟩ : ∃ w4, w4 = w3.alloc (.cells (mdC b op (accL xs 0) 0) 129) := ⟨_, rfl⟩
      obtain ⟨g, hg⟩ : ∃ g, g = w3.heap.size := ⟨_, rfl⟩
      rw [← hw4, ← hg] at hH
      rw [← hw4] at hN4
      rw [← hg] at hs
      rw [e0] at hw4
      rw [← hw4, ← hg]
      have Hs := Lib.hid hs
      have HH := Lib.hid hH
      have HN4 := Lib.hid hN4
      clear hw4 hg hH hN4 hs e0 HN3
      go_wp2_with fail
      go_loopg [30] n (fun gk s wr => ∃ i : Nat, i ≤ n ∧ gk = n - i ∧ s = .int .i64 i ∧ Has wr g 129 (mdC b op (accL xs i) 0) ∧ New w wr)
      case atStart => exact ⟨0, by omega, by omega, rfl, HH.out, HN4.out⟩
      case round =>
        obtain ⟨i, hi', rfl, rfl, hr, hnr⟩ := hrel
        have HR := Lib.hid hr
        have HNr := Lib.hid hnr
        clear hr hnr
        by_cases hlt : i < n
        · obtain ⟨a, rfl, _, a0⟩ := (HA.out.new HNr.out HF.out) i hlt
          simp only [iV] at a0
          have hv := withB_at H2.out (i := i) (by rw [Hl.out]; exact hlt)
          obtain ⟨v, hvv⟩ : ∃ v : Nat, xs.getD i 0 = (v : Int) := ⟨(xs.getD i 0).toNat, by omega⟩
          rw [hvv] at a0 hv
          have hv4 : v ≤ 4 := by omega
          have t1 : decide ((i : Int) < (n : Int)) = true := decide_eq_true (by omega)
          have t1' : decide (i < n) = true := decide_eq_true hlt
          have Hst := Lib.hid (fun q => accL_step (xs := xs) (k := i) (v := v) (by rw [Hl.out]; exact hlt) hvv q)
          have HX := Lib.hid (step_set HR.out hv4 Hst.out)
          have HNX : Hid (New w (wr.setCell ⟨g, 2 + v, none⟩ (.bool true))) := HNr.out.setCell (fun h => absurd h (by have := Hs.out; exact Nat.not_lt.2 this)) _
          have hfr := HR.out.free (2 + v)
          have u5 : ((v : Int)).toNat = v := by omega
          have u1 : (0 : Int) ≤ (v : Int) := by omega
          have u2 : (v : Int) < 5 := by omega
          have u3 : v < 5 := by omega
          obtain ⟨cv, hcv⟩ : ∃ cv, wr.cell? ⟨g, 2 + v, none⟩ = some cv := by
            rw [HR.out.cell (2 + v)]
            exact ⟨_, Array.getElem?_eq_getElem (by simp; omega)⟩
          clear hvv hv
          have hb' := Hb.out
          go_wp2_with fail
          go_roundg (n - (i + 1))
          case measure => omega
          case rel => exact ⟨i + 1, by omega, rfl, by go_num, HX.out, HNX.out⟩
        · obtain rfl : i = n := by omega
          have t1 : decide ((i : Int) < (i : Int)) = false := decide_eq_false (by omega)
          obtain ⟨v, hvv⟩ : ∃ v : Nat, op = (v : Int) := ⟨op.toNat, by have := Hop.out; omega⟩
          have hv4 : v ≤ 4 := by have := Hop.out; omega
          have Hst : Hid (∀ q, accF op xs q = if q = v then true else accL xs i q) := by
            rw [Hid, ← Hl.out]; exact fun q => accF_last hvv q
          have HX := Lib.hid (step_set HR.out hv4 Hst.out)
          have HNX : Hid (New w (wr.setCell ⟨g, 2 + v, none⟩ (.bool true))) := HNr.out.setCell (fun h => absurd h (by have := Hs.out; exact Nat.not_lt.2 this)) _
          have hfr := HR.out.free (2 + v)
          have Hvv := Lib.hid hvv
          have u5 : ((v : Int)).toNat = v := by omega
          have u1 : (0 : Int) ≤ (v : Int) := by omega
          have u2 : (v : Int) < 5 := by omega
          have u3 : v < 5 := by omega
          obtain ⟨cv, hcv⟩ : ∃ cv, wr.cell? ⟨g, 2 + v, none⟩ = some cv := by
            rw [HR.out.cell (2 + v)]
            exact ⟨_, Array.getElem?_eq_getElem (by simp; omega)⟩
          clear Hop Hst
          subst hvv
          go_wp2_with fail
          go_ret2
          exact ⟨Or.inr ⟨by unfold newOk; rw [H1.out, H2.out]; rfl, g, rfl, Hs.out, HX.out⟩, HNX.out⟩
/-- is the owner accepted? -/
def accB (f : Nat → Bool) (x : Int) : Bool := withB 1 4 [x] && f x.toNat
set_option maxRecDepth 100000 in
set_option maxHeartbeats 4000000 in
theorem Accepts_any (x : Int) (g b : Nat) (o l : Int) (f : Nat → Bool) (w : World) (hG : Has w g 129 (mdC b o f l)) :
    Calls Try.prog 56 #[.pointer (some ⟨g, 0, none⟩), .int .i64 x] w fun e w' => e = .returned (.bool (accB f x)) ∧ New w w' := by
  have HV : Hid (∀ wx g, Has wx g 3 #[.int .i64 x] → Calls Try.prog 65 #[.int .i64 1, .int .i64 4, .slice (some ⟨g, 0, none⟩) 1 1] wx fun e w' => e = .returned (.bool (withB 1 4 [x])) ∧ New wx w') := fun wx g hx => iswithin_any 1 4 [x] _ 1 1 wx _ rfl (by omega) (row_arr1 (xs := [x]) hx)
  have HG := Lib.hid hG
  clear hG
  go_enter Try.func56, Try.ntmps56
  unfold accB
  cases h1 : withB 1 4 [x] with
  | false =>
    rw [h1] at HV
    clear h1
    go_wp2_with fail
    have hH := Has.new w 3 #[.int .i64 x]
    have hN : New w (w.alloc (.cells #[.int .i64 x] 3)) := (Chg.refl _ _).alloc _
    generalize w.alloc (.cells #[.int .i64 x] 3) = w1 at hH hN ⊢
    with_reducible refine (HV.out _ _ hH).mono ?_
    rintro e w2 ⟨rfl, hN2⟩
    have HN := Lib.hid (hN.then_new hN2)
    clear hN hN2 hH
    go_wp2_with fail
    go_ret
    exact ⟨rfl, HN.out⟩
  | true =>
    have hx := withB_at (xs := [x]) h1 (i := 0) (by simp)
    have hx' : 1 ≤ x ∧ x ≤ 4 := hx
    rw [h1] at HV
    clear h1 hx
    obtain ⟨v, rfl⟩ : ∃ v : Nat, x = (v : Int) := ⟨x.toNat, by omega⟩
    have hv : v = 1 ∨ v = 2 ∨ v = 3 ∨ v = 4 := by omega
    have hc : ∀ wx, New w wx → wx.cell? ⟨g, 2 + v, none⟩ = some (.bool (f v)) := fun wx hw => by
      rw [(HG.out.keep hw).cell (2 + v)]
      rcases hv with rfl | rfl | rfl | rfl <;> rfl
    have HC := Lib.hid hc
    clear hc
    have e1 : ((v : Int)).toNat = v := by omega
    rw [e1]
    obtain ⟨q, hq⟩ : ∃ q, q = f v := ⟨_, rfl⟩
    rw [← hq] at HC ⊢
    clear hq
    have u1 : (0 : Int) ≤ (v : Int) := by omega
    have u2 : (v : Int) < 5 := by omega
    have u3 : v < 5 := by omega
    clear hx' hv
    go_wp2_with fail
    have hH := Has.new w 3 #[.int .i64 (v : Int)]
    have hN : New w (w.alloc (.cells #[.int .i64 (v : Int)] 3)) := (Chg.refl _ _).alloc _
    generalize w.alloc (.cells #[.int .i64 (v : Int)] 3) = w1 at hH hN ⊢
    with_reducible refine (HV.out _ _ hH).mono ?_
    rintro e w2 ⟨rfl, hN2⟩
    have hn3 := hN.then_new hN2
    have a0 := HC.out _ hn3
    have HN := Lib.hid hn3
    clear hN hN2 hH hn3
    go_wp2_with fail
    go_ret
    exact ⟨rfl, HN.out⟩
set_option maxRecDepth 100000 in
theorem Next_any (g b : Nat) (o l : Int) (f : Nat → Bool) (w : World) (hG : Has w g 129 (mdC b o f l)) (hl : 0 ≤ l ∧ l < 2147483647) :
    Calls Try.prog 28 #[.pointer (some ⟨g, 0, none⟩)] w fun e w' => e = .returned (.tuple #[.int .i64 (l + 1), .int .i64 0]) ∧ Has w' g 129 (mdC b o f (l + 1)) ∧ Chg (· = g) w w' := by
  have a0 : w.cell? ⟨g, 7, none⟩ = some (.int .i64 l) := (hG.cell 7).trans rfl
  have fr := hG.free 7
  have t1 : decide (2147483647 ≤ l) = false := decide_eq_false (by omega)
  have u1 : IntKind.i64.wrap (l + 1) = l + 1 := IntWalk.i64_in _ (by omega)
  have u2 : wrap64 (l + 1) = l + 1 := w64 _ (by omega) (by omega)
  have hX : Has (w.setCell ⟨g, 7, none⟩ (.int .i64 (l + 1))) g 129 (mdC b o f (l + 1)) := by
    have := hG.set 7 (.int .i64 (l + 1))
    simpa [mdC] using this
  have HX := Lib.hid hX
  have hC : Chg (· = g) w (w.setCell ⟨g, 7, none⟩ (.int .i64 (l + 1))) := Chg.setCell (S := (· = g)) (Chg.refl _ _) (fun _ => rfl) _
  have HC := Lib.hid hC
  clear hX hC
  have a1 : (w.setCell ⟨g, 7, none⟩ (.int .i64 (l + 1))).cell? ⟨g, 7, none⟩ = some (.int .i64 (l + 1)) := (HX.out.cell 7).trans rfl
  clear hG hl
  go_enter Try.func28, Try.ntmps28
  go_wp2_with fail
  go_ret2
  exact ⟨rfl, HX.out, HC.out⟩
set_option maxRecDepth 100000 in
theorem Last_any (g b : Nat) (o l : Int) (f : Nat → Bool) (w : World) (hG : Has w g 129 (mdC b o f l)) :
    Calls Try.prog 29 #[.pointer (some ⟨g, 0, none⟩)] w fun e w' => e = .returned (.int .i64 l) ∧ w' = w := by
  have a0 : w.cell? ⟨g, 7, none⟩ = some (.int .i64 l) := (hG.cell 7).trans rfl
  clear hG
  go_enter Try.func29, Try.ntmps29
  go_wp2_with fail
  go_ret
  exact ⟨rfl, rfl⟩
end Go.Proofs.Ytkcokcanakljnaa
/-
  Package isam: what a product is sealed by, and its sealed data.
-/
namespace Go.Proofs.Ytkcokcanakljnaa
open Go.RowKit
theorem right_pd (p : Pd) : RightN p.ns ↔ ((1 ≤ p.x0 ∧ p.x0 ≤ 4) ∧ (1 ≤ p.x1 ∧ p.x1 ≤ 4) ∧ (1 ≤ p.x2 ∧ p.x2 ≤ 65535) ∧ (1 ≤ p.x3 ∧ p.x3 ≤ 65535) ∧ (1 ≤ p.x4 ∧ p.x4 ≤ 255) ∧ (0 ≤ p.x5 ∧ p.x5 ≤ 2147483648) ∧ (0 ≤ p.x6 ∧ p.x6 ≤ 65535) ∧ (0 ≤ p.x7 ∧ p.x7 ≤ 255) ∧ (0 ≤ p.x9 ∧ p.x9 ≤ 255) ∧ (0 ≤ p.x10 ∧ p.x10 ≤ 65535) ∧ (0 ≤ p.x11 ∧ p.x11 ≤ 65535) ∧ (0 ≤ p.x12 ∧ p.x12 ≤ 65535)) := by
  obtain ⟨x0, x1, x2, x3, x4, x5, x6, x7, x8, x9, x10, x11, x12, x13⟩ := p
  have h8 : 0 ≤ bi x8 ∧ bi x8 ≤ 1 := by cases x8 <;> exact ⟨by decide, by decide⟩
  have h13 : 0 ≤ bi x13 ∧ bi x13 ≤ 1 := by cases x13 <;> exact ⟨by decide, by decide⟩
  constructor
  · intro h
    have k0 := h.2 0 (by omega)
    have k1 := h.2 1 (by omega)
    have k2 := h.2 2 (by omega)
    have k3 := h.2 3 (by omega)
    have k4 := h.2 4 (by omega)
    have k5 := h.2 5 (by omega)
    have k6 := h.2 6 (by omega)
    have k7 := h.2 7 (by omega)
    have k9 := h.2 9 (by omega)
    have k10 := h.2 10 (by omega)
    have k11 := h.2 11 (by omega)
    have k12 := h.2 12 (by omega)
    simp [Pd.ns, mosts] at k0 k1 k2 k3 k4 k5 k6 k7 k9 k10 k11 k12
    clear h h8 h13
    dsimp only
    omega
  · intro h
    dsimp only at h
    refine ⟨rfl, fun j hj => ?_⟩
    rcases (show j = 0 ∨ j = 1 ∨ j = 2 ∨ j = 3 ∨ j = 4 ∨ j = 5 ∨ j = 6 ∨ j = 7 ∨ j = 8 ∨ j = 9 ∨ j = 10 ∨ j = 11 ∨ j = 12 ∨ j = 13 by omega) with rfl | rfl | rfl | rfl | rfl | rfl | rfl | rfl | rfl | rfl | rfl | rfl | rfl | rfl <;> (simp [Pd.ns, mosts]; omega)
theorem lev_right {p : Pd} (h : RightN p.ns) : levI ⟨p.x1, p.x0, p.x3, p.x4⟩ = 3 := by
  obtain ⟨⟨a1, a2⟩, ⟨b1, b2⟩, _, ⟨d1, d2⟩, ⟨e1, e2⟩, _⟩ := (right_pd p).1 h
  have k : KRight ⟨p.x1, p.x0, p.x3, p.x4⟩ := by
    unfold KRight
    refine ⟨⟨?_, ?_⟩, ⟨?_, ?_⟩, ⟨?_, ?_⟩, ⟨?_, ?_⟩, fun h => ?_, fun h => ?_⟩ <;> simp only at * <;> omega
  unfold levI
  have hb : rightB ⟨p.x1, p.x0, p.x3, p.x4⟩ = true := decide_eq_true k
  rw [if_pos hb, lev_3 (by simp only; omega) (by simp only; omega) (by simp only; omega)]
  rfl
theorem setK4 {w : World} {g : Nat} {t : TypeId} {y0 y1 y2 y3 : Value} (h : Has w g t #[y0, y1, y2, y3]) (x0 x1 x2 x3 : Value) :
    Has ((((w.setCell ⟨g, 0, none⟩ x0).setCell ⟨g, 1, none⟩ x1).setCell ⟨g, 2, none⟩ x2).setCell ⟨g, 3, none⟩ x3) g t #[x0, x1, x2, x3] ∧
      Chg (· = g) w ((((w.setCell ⟨g, 0, none⟩ x0).setCell ⟨g, 1, none⟩ x1).setCell ⟨g, 2, none⟩ x2).setCell ⟨g, 3, none⟩ x3) := by
  refine ⟨?_, ?_⟩
  · have := (((h.set 0 x0).set 1 x1).set 2 x2).set 3 x3
    simpa using this
  · exact Chg.setCell (S := (· = g)) (Chg.setCell (S := (· = g)) (Chg.setCell (S := (· = g)) (Chg.setCell (S := (· = g)) (Chg.refl _ _) (fun _ => rfl) _) (fun _ => rfl) _) (fun _ => rfl) _) (fun _ => rfl) _
theorem own_setg {w w' : World} {base e size n g : Nat} {v : Value} {xs : List Value} (h : w.ownsRow base e size v n xs) (c : Chg (· = g) w w') (hg : v.ownBlock ≠ some g) : w'.ownsRow base e size v n xs := own_chg h c fun k hk he => hg (by rw [hk, he])
set_option maxRecDepth 100000 in
set_option maxHeartbeats 4000000 in
theorem productSeal_any (p : Pd) (hp : RightN p.ns) (w : World) : Calls Try.prog 57 #[p.V] w fun e w' => ∃ A c, e = .returned (.tuple #[.agg #[.int .i64 p.x1, .int .i64 p.x0, .int .i64 p.x3, .int .i64 p.x4], .slice A (formN p.ns).length c]) ∧ w'.ownsRow w.heap.size 5 1 (.slice A (formN p.ns).length c) (formN p.ns).length ((formN p.ns).map bV) ∧ New w w' := by
  have HP : Hid (∀ w, Calls Try.prog 85 #[p.V] w fun e w' => e = .returned (.tuple #[.agg #[.int .i64 p.x1, .int .i64 p.x0, .int .i64 p.x3, .int .i64 p.x4], .int .i64 0]) ∧ New w w') := fun w => by
    have := Product_any p.x0 p.x1 p.x2 p.x3 p.x4 p.x5 p.x6 p.x7 p.x9 p.x10 p.x11 p.x12 p.x8 p.x13 w
    unfold proE proK at this
    rw [lev_right hp, if_pos rfl, if_pos rfl] at this
    exact this
  have HFo := Lib.hid (fun w => iForm_yes p hp w)
  obtain ⟨f, hf⟩ : ∃ f, f = formN p.ns := ⟨_, rfl⟩
  obtain ⟨l, hl⟩ : ∃ l, l = f.length := ⟨_, rfl⟩
  rw [← hf, ← hl] at HFo ⊢
  clear hf hl hp
  obtain ⟨x0, x1, x2, x3, x4, x5, x6, x7, x8, x9, x10, x11, x12, x13⟩ := p
  have HP : Hid (∀ w, Calls Try.prog 85 #[.agg #[.int .i64 x0, .int .i64 x1, .int .i64 x2, .int .i64 x3, .int .i64 x4, .int .i64 x5, .int .i64 x6, .int .i64 x7, .bool x8, .int .i64 x9, .int .i64 x10, .int .i64 x11, .int .i64 x12, .bool x13]] w fun e w' => e = .returned (.tuple #[.agg #[.int .i64 x1, .int .i64 x0, .int .i64 x3, .int .i64 x4], .int .i64 0]) ∧ New w w') := HP.out
  have HFo : Hid (∀ w, Calls Try.prog 9 #[.agg #[.int .i64 x0, .int .i64 x1, .int .i64 x2, .int .i64 x3, .int .i64 x4, .int .i64 x5, .int .i64 x6, .int .i64 x7, .bool x8, .int .i64 x9, .int .i64 x10, .int .i64 x11, .int .i64 x12, .bool x13]] w fun e w' => ∃ A c, e = .returned (.tuple #[.slice A l c, .int .i64 0]) ∧ w'.ownsRow w.heap.size 5 1 (.slice A l c) l (f.map bV) ∧ New w w') := HFo.out
  show Calls _ _ #[.agg #[.int .i64 x0, .int .i64 x1, .int .i64 x2, .int .i64 x3, .int .i64 x4, .int .i64 x5, .int .i64 x6, .int .i64 x7, .bool x8, .int .i64 x9, .int .i64 x10, .int .i64 x11, .int .i64 x12, .bool x13]] _ fun e w' => ∃ A c, e = .returned (.tuple #[.agg #[.int .i64 x1, .int .i64 x0, .int .i64 x3, .int .i64 x4], .slice A l c]) ∧ w'.ownsRow w.heap.size 5 1 (.slice A l c) l (f.map bV) ∧ New w w'
  go_enter Try.func57, Try.ntmps57
  go_upto_region 1 with (fail)
  obtain ⟨w0, hw0⟩ : ∃ w0, w0 = w.alloc (.cells #[.int .i64 x0, .int .i64 x1, .int .i64 x2, .int .i64 x3, .int .i64 x4, .int .i64 x5, .int .i64 x6, .int .i64 x7, .bool x8, .int .i64 x9, .int .i64 x10, .int .i64 x11, .int .i64 x12, .bool x13] 24) := ⟨_, rfl⟩
  obtain ⟨w1, hw1⟩ : ∃ w1, w1 = w0.alloc (.cells #[.int .i64 0, .int .i64 0, .int .i64 0, .int .i64 0] 123) := ⟨_, rfl⟩
  obtain ⟨ba, hba⟩ : ∃ ba, ba = w.heap.size := ⟨_, rfl⟩
  obtain ⟨kb, hkb⟩ : ∃ kb, kb = ba + 1 := ⟨_, rfl⟩
  have hs0 : w0.heap.size = ba + 1 := by rw [hw0, hba]; simp
  have HA : Hid (Has w1 ba 24 #[.int .i64 x0, .int .i64 x1, .int .i64 x2, .int .i64 x3, .int .i64 x4, .int .i64 x5, .int .i64 x6, .int .i64 x7, .bool x8, .int .i64 x9, .int .i64 x10, .int .i64 x11, .int .i64 x12, .bool x13]) := by rw [hw1, hw0, hba]; exact (Has.new _ _ _).alloc _
  have HK : Hid (Has w1 kb 123 #[.int .i64 0, .int .i64 0, .int .i64 0, .int .i64 0]) := by rw [hkb, ← hs0, hw1]; exact Has.new _ _ _
  have HN1 : Hid (New w w1) := by rw [hw1, hw0]; exact ((Chg.refl _ _).alloc _).alloc _
  have Hkb : Hid (w.heap.size < kb ∧ kb < w1.heap.size) := by rw [Hid]; exact ⟨by omega, HK.out.lt⟩
  rw [← hw0, ← hw1, ← hba, ← hkb]
  clear hw0 hw1 hba hkb hs0
  have c0 : w1.cell? ⟨ba, 0, none⟩ = some (.int .i64 x0) := (HA.out.cell 0).trans rfl
  have c1 : w1.cell? ⟨ba, 1, none⟩ = some (.int .i64 x1) := (HA.out.cell 1).trans rfl
  have c2 : w1.cell? ⟨ba, 2, none⟩ = some (.int .i64 x2) := (HA.out.cell 2).trans rfl
  have c3 : w1.cell? ⟨ba, 3, none⟩ = some (.int .i64 x3) := (HA.out.cell 3).trans rfl
  have c4 : w1.cell? ⟨ba, 4, none⟩ = some (.int .i64 x4) := (HA.out.cell 4).trans rfl
  have c5 : w1.cell? ⟨ba, 5, none⟩ = some (.int .i64 x5) := (HA.out.cell 5).trans rfl
  have c6 : w1.cell? ⟨ba, 6, none⟩ = some (.int .i64 x6) := (HA.out.cell 6).trans rfl
  have c7 : w1.cell? ⟨ba, 7, none⟩ = some (.int .i64 x7) := (HA.out.cell 7).trans rfl
  have c8 : w1.cell? ⟨ba, 8, none⟩ = some (.bool x8) := (HA.out.cell 8).trans rfl
  have c9 : w1.cell? ⟨ba, 9, none⟩ = some (.int .i64 x9) := (HA.out.cell 9).trans rfl
  have c10 : w1.cell? ⟨ba, 10, none⟩ = some (.int .i64 x10) := (HA.out.cell 10).trans rfl
  have c11 : w1.cell? ⟨ba, 11, none⟩ = some (.int .i64 x11) := (HA.out.cell 11).trans rfl
  have c12 : w1.cell? ⟨ba, 12, none⟩ = some (.int .i64 x12) := (HA.out.cell 12).trans rfl
  have c13 : w1.cell? ⟨ba, 13, none⟩ = some (.bool x13) := (HA.out.cell 13).trans rfl
  go_wp2_with fail
  with_reducible refine (HP.out _).mono ?_
  rintro e w2 ⟨rfl, hN⟩
  have HA2 := Lib.hid (HA.out.keep hN)
  have HK2 := Lib.hid (HK.out.keep hN)
  have HN2 := Lib.hid (HN1.out.then_new hN)
  have Hs2 : Hid (kb < w2.heap.size) := HK2.out.lt
  clear hN HA HK HP HN1
  clear c0 c1 c2 c3 c4 c5 c6 c7 c8 c9 c10 c11 c12 c13
  go_upto_region 2 with (fail)
  obtain ⟨w3, hw3⟩ : ∃ w3, w3 = w2.alloc (.cells #[.int .i64 x1, .int .i64 x0, .int .i64 x3, .int .i64 x4] 123) := ⟨_, rfl⟩
  obtain ⟨qb, hqb⟩ : ∃ qb, qb = w2.heap.size := ⟨_, rfl⟩
  have HA3 : Hid (Has w3 ba 24 #[.int .i64 x0, .int .i64 x1, .int .i64 x2, .int .i64 x3, .int .i64 x4, .int .i64 x5, .int .i64 x6, .int .i64 x7, .bool x8, .int .i64 x9, .int .i64 x10, .int .i64 x11, .int .i64 x12, .bool x13]) := by rw [hw3]; exact HA2.out.alloc _
  have HK3 : Hid (Has w3 kb 123 #[.int .i64 0, .int .i64 0, .int .i64 0, .int .i64 0]) := by rw [hw3]; exact HK2.out.alloc _
  have HQ3 : Hid (Has w3 qb 123 #[.int .i64 x1, .int .i64 x0, .int .i64 x3, .int .i64 x4]) := by rw [hw3, hqb]; exact Has.new _ _ _
  have HN3 : Hid (New w w3) := by rw [hw3]; exact HN2.out.alloc _
  rw [← hw3, ← hqb]
  clear hw3 hqb HA2 HK2 HN2
  have c0 : w3.cell? ⟨ba, 0, none⟩ = some (.int .i64 x0) := (HA3.out.cell 0).trans rfl
  have c1 : w3.cell? ⟨ba, 1, none⟩ = some (.int .i64 x1) := (HA3.out.cell 1).trans rfl
  have c2 : w3.cell? ⟨ba, 2, none⟩ = some (.int .i64 x2) := (HA3.out.cell 2).trans rfl
  have c3 : w3.cell? ⟨ba, 3, none⟩ = some (.int .i64 x3) := (HA3.out.cell 3).trans rfl
  have c4 : w3.cell? ⟨ba, 4, none⟩ = some (.int .i64 x4) := (HA3.out.cell 4).trans rfl
  have c5 : w3.cell? ⟨ba, 5, none⟩ = some (.int .i64 x5) := (HA3.out.cell 5).trans rfl
  have c6 : w3.cell? ⟨ba, 6, none⟩ = some (.int .i64 x6) := (HA3.out.cell 6).trans rfl
  have c7 : w3.cell? ⟨ba, 7, none⟩ = some (.int .i64 x7) := (HA3.out.cell 7).trans rfl
  have c8 : w3.cell? ⟨ba, 8, none⟩ = some (.bool x8) := (HA3.out.cell 8).trans rfl
  have c9 : w3.cell? ⟨ba, 9, none⟩ = some (.int .i64 x9) := (HA3.out.cell 9).trans rfl
  have c10 : w3.cell? ⟨ba, 10, none⟩ = some (.int .i64 x10) := (HA3.out.cell 10).trans rfl
  have c11 : w3.cell? ⟨ba, 11, none⟩ = some (.int .i64 x11) := (HA3.out.cell 11).trans rfl
  have c12 : w3.cell? ⟨ba, 12, none⟩ = some (.int .i64 x12) := (HA3.out.cell 12).trans rfl
  have c13 : w3.cell? ⟨ba, 13, none⟩ = some (.bool x13) := (HA3.out.cell 13).trans rfl
  go_wp2_with fail
  with_reducible refine (HFo.out _).mono ?_
  rintro e w4 ⟨A, c, rfl, hO, hN⟩
  have HK4 := Lib.hid (HK3.out.keep hN)
  have HQ4 := Lib.hid (HQ3.out.keep hN)
  have HN4 := Lib.hid (HN3.out.then_new hN)
  have hne := own_apart hO HK4.out (by decide)
  have hb : w.heap.size ≤ w3.heap.size := HN3.out.size
  have HO := Lib.hid (own_base (base' := w.heap.size) hO (fun k hk => Nat.le_trans hb (hO.lt k hk).1))
  have Hne := Lib.hid hne
  clear hN HA3 HK3 HQ3 HN3 hO hne HFo hb
  clear c0 c1 c2 c3 c4 c5 c6 c7 c8 c9 c10 c11 c12 c13
  have c0 : w4.cell? ⟨qb, 0, none⟩ = some (.int .i64 x1) := (HQ4.out.cell 0).trans rfl
  have c1 : w4.cell? ⟨qb, 1, none⟩ = some (.int .i64 x0) := (HQ4.out.cell 1).trans rfl
  have c2 : w4.cell? ⟨qb, 2, none⟩ = some (.int .i64 x3) := (HQ4.out.cell 2).trans rfl
  have c3 : w4.cell? ⟨qb, 3, none⟩ = some (.int .i64 x4) := (HQ4.out.cell 3).trans rfl
  have r0 : w4.cell? ⟨kb, 0, none⟩ = some (.int .i64 0) := (HK4.out.cell 0).trans rfl
  have r1 : w4.cell? ⟨kb, 1, none⟩ = some (.int .i64 0) := (HK4.out.cell 1).trans rfl
  have r2 : w4.cell? ⟨kb, 2, none⟩ = some (.int .i64 0) := (HK4.out.cell 2).trans rfl
  have r3 : w4.cell? ⟨kb, 3, none⟩ = some (.int .i64 0) := (HK4.out.cell 3).trans rfl
  have z0 := HK4.out.free 0
  have z1 := HK4.out.free 1
  have z2 := HK4.out.free 2
  have z3 := HK4.out.free 3
  go_wp2_with fail
  obtain ⟨hX, hGX⟩ := setK4 HK4.out (.int .i64 x1) (.int .i64 x0) (.int .i64 x3) (.int .i64 x4)
  generalize ((((w4.setCell ⟨kb, 0, none⟩ (.int .i64 x1)).setCell ⟨kb, 1, none⟩ (.int .i64 x0)).setCell ⟨kb, 2, none⟩ (.int .i64 x3)).setCell ⟨kb, 3, none⟩ (.int .i64 x4)) = wX at hX hGX ⊢
  have g0 := (hX.cell 0).trans rfl
  have g1 := (hX.cell 1).trans rfl
  have g2 := (hX.cell 2).trans rfl
  have g3 := (hX.cell 3).trans rfl
  refine bodyPost_ret (v := .tuple #[.agg #[.int .i64 x1, .int .i64 x0, .int .i64 x3, .int .i64 x4], .slice A l c]) (by simp [results, Try.results57, go_sem, g0, g1, g2, g3]) rfl ?_
  exact ⟨A, c, rfl, own_setg HO.out hGX Hne.out, HN4.out.trans hGX (fun i hi h => by have := Hkb.out.1; omega)⟩
end Go.Proofs.Ytkcokcanakljnaa
/-
  What an oracle's Mint leaves alone; small lemmas for package isam.
-/
namespace Go.Proofs.Ytkcokcanakljnaa
open Go.ChangeShapes Go.WideShapes Go.ChangeAt Go.RowKit
theorem not_OS {w : World} {base k : Nat} {t : TypeId} {cs : Array Value} (h : Has w k t cs) (h1 : t ≠ 77) (h2 : t ≠ 158) : ¬ OS base w k := by
  unfold Has at h
  rintro ⟨_, ⟨es, c, e⟩ | ⟨cs', m, e, _⟩ | ⟨cs', m, e⟩⟩
  · rw [h] at e; cases e
  · rw [h] at e; cases e; exact h1 rfl
  · rw [h] at e; cases e; exact h2 rfl
theorem not_OSz {w : World} {base k : Nat} (h : Has w k 77 #[.map none, .slice none 0 0]) (h1 : k ≠ base) : ¬ OS base w k := by
  unfold Has at h
  rintro ⟨_, ⟨es, c, e⟩ | ⟨cs', m, e, e1⟩ | ⟨cs', m, e⟩⟩
  · rw [h] at e; cases e
  · rw [h] at e
    simp only [Option.some.injEq, Obj.cells.injEq] at e
    rcases e1 with e1 | e1
    · exact h1 e1
    · exact e1 e.1.symm
  · rw [h] at e; simp only [Option.some.injEq, Obj.cells.injEq] at e; exact absurd e.2.1 (by decide)
theorem OS.of_new {base : Nat} {w w1 w2 : World} (h : New w w1) (k : Chg (OS base w1) w1 w2) : Chg (OS base w) w w2 := OS.trans (Chg.of_new h) k
theorem own_OS5 {w w' : World} {base base' n : Nat} {v : Value} {xs : List Value} (h : w.ownsRow base 5 1 v n xs) (c : Chg (OS base' w) w w') : w'.ownsRow base 5 1 v n xs := own_chg h c fun k hk => by
  obtain ⟨A, cc, rfl, _⟩ := own_form h
  rcases h with ⟨_, ⟨h1, _⟩ | ⟨g, cap, cur, h1, _, h3, _⟩⟩
  · simp only [Value.slice.injEq] at h1
    obtain ⟨rfl, _, _⟩ := h1
    cases hk
  · simp only [Value.slice.injEq] at h1
    obtain ⟨rfl, _, _⟩ := h1
    simp only [Value.ownBlock, Option.some.injEq] at hk
    subst hk
    rintro ⟨_, ⟨es, c, e⟩ | ⟨cs', m, e, _⟩ | ⟨cs', m, e⟩⟩ <;> (rw [h3] at e; cases e)
theorem mintN_le (M : List Sl) (x : Sl) : 1 ≤ mintN M x ∧ mintN M x ≤ M.length + 1 := by
  unfold mintN
  split
  · rename_i h
    unfold atN
    rw [if_pos h]
    have := List.idxOf_lt_length_of_mem h
    omega
  · omega
theorem wf_small {n : Int} (h0 : -2147483648 ≤ n) (h1 : n ≤ 2147483648) : (Lit.int .i64 n).wf = true := by
  simp [Lit.wf, IntKind.min, IntKind.max, IntKind.signed, IntKind.bits]; omega
end Go.Proofs.Ytkcokcanakljnaa
/-
  Package isam: Seal.
-/
namespace Go.Proofs.Ytkcokcanakljnaa
open Go.ChangeShapes Go.WideShapes Go.ChangeAt Go.RowKit
set_option maxRecDepth 100000 in
set_option maxHeartbeats 4000000 in
theorem bodyOf_any (p : Pd) (hp : RightN p.ns) (t : Nat) (ht1 : 1 ≤ t) (ht2 : t ≤ 2147483647) (w : World) : Calls Try.prog 58 #[p.V, .int .i64 (t : Int)] w fun e w' => ∃ A c, e = .returned (.tuple #[.slice A 64 c, .int .i64 0]) ∧ w'.ownsRow w.heap.size 5 1 (.slice A 64 c) 64 ((bodyN p.ns t).map bV) ∧ New w w' := by
  have HBo := Lib.hid (fun w => iBody_yes p hp t ht1 ht2 w)
  obtain ⟨f, hf⟩ : ∃ f, f = bodyN p.ns t := ⟨_, rfl⟩
  rw [← hf] at HBo ⊢
  have e1 : decide (2147483647 < (t : Int)) = false := decide_eq_false (by omega)
  have e2 : decide (2147483647 < t) = false := decide_eq_false (by omega)
  clear hf hp ht1 ht2
  obtain ⟨x0, x1, x2, x3, x4, x5, x6, x7, x8, x9, x10, x11, x12, x13⟩ := p
  have HBo : Hid (∀ w, Calls Try.prog 10 #[.agg #[.int .i64 x0, .int .i64 x1, .int .i64 x2, .int .i64 x3, .int .i64 x4, .int .i64 x5, .int .i64 x6, .int .i64 x7, .bool x8, .int .i64 x9, .int .i64 x10, .int .i64 x11, .int .i64 x12, .bool x13], .int .i64 (t : Int)] w fun e w' => ∃ A c, e = .returned (.tuple #[.slice A 64 c, .int .i64 0]) ∧ w'.ownsRow w.heap.size 5 1 (.slice A 64 c) 64 (f.map bV) ∧ New w w') := HBo.out
  show Calls _ _ #[.agg #[.int .i64 x0, .int .i64 x1, .int .i64 x2, .int .i64 x3, .int .i64 x4, .int .i64 x5, .int .i64 x6, .int .i64 x7, .bool x8, .int .i64 x9, .int .i64 x10, .int .i64 x11, .int .i64 x12, .bool x13], _] _ _
  go_enter Try.func58, Try.ntmps58
  go_upto_region 1 with (fail)
  obtain ⟨w1, hw1⟩ : ∃ w1, w1 = w.alloc (.cells #[.int .i64 x0, .int .i64 x1, .int .i64 x2, .int .i64 x3, .int .i64 x4, .int .i64 x5, .int .i64 x6, .int .i64 x7, .bool x8, .int .i64 x9, .int .i64 x10, .int .i64 x11, .int .i64 x12, .bool x13] 24) := ⟨_, rfl⟩
  obtain ⟨ba, hba⟩ : ∃ ba, ba = w.heap.size := ⟨_, rfl⟩
  have HA : Hid (Has w1 ba 24 #[.int .i64 x0, .int .i64 x1, .int .i64 x2, .int .i64 x3, .int .i64 x4, .int .i64 x5, .int .i64 x6, .int .i64 x7, .bool x8, .int .i64 x9, .int .i64 x10, .int .i64 x11, .int .i64 x12, .bool x13]) := by rw [hw1, hba]; exact Has.new _ _ _
  have HN1 : Hid (New w w1) := by rw [hw1]; exact (Chg.refl _ _).alloc _
  rw [← hw1, ← hba]
  clear hw1 hba
  have c0 : w1.cell? ⟨ba, 0, none⟩ = some (.int .i64 x0) := (HA.out.cell 0).trans rfl
  have c1 : w1.cell? ⟨ba, 1, none⟩ = some (.int .i64 x1) := (HA.out.cell 1).trans rfl
  have c2 : w1.cell? ⟨ba, 2, none⟩ = some (.int .i64 x2) := (HA.out.cell 2).trans rfl
  have c3 : w1.cell? ⟨ba, 3, none⟩ = some (.int .i64 x3) := (HA.out.cell 3).trans rfl
  have c4 : w1.cell? ⟨ba, 4, none⟩ = some (.int .i64 x4) := (HA.out.cell 4).trans rfl
  have c5 : w1.cell? ⟨ba, 5, none⟩ = some (.int .i64 x5) := (HA.out.cell 5).trans rfl
  have c6 : w1.cell? ⟨ba, 6, none⟩ = some (.int .i64 x6) := (HA.out.cell 6).trans rfl
  have c7 : w1.cell? ⟨ba, 7, none⟩ = some (.int .i64 x7) := (HA.out.cell 7).trans rfl
  have c8 : w1.cell? ⟨ba, 8, none⟩ = some (.bool x8) := (HA.out.cell 8).trans rfl
  have c9 : w1.cell? ⟨ba, 9, none⟩ = some (.int .i64 x9) := (HA.out.cell 9).trans rfl
  have c10 : w1.cell? ⟨ba, 10, none⟩ = some (.int .i64 x10) := (HA.out.cell 10).trans rfl
  have c11 : w1.cell? ⟨ba, 11, none⟩ = some (.int .i64 x11) := (HA.out.cell 11).trans rfl
  have c12 : w1.cell? ⟨ba, 12, none⟩ = some (.int .i64 x12) := (HA.out.cell 12).trans rfl
  have c13 : w1.cell? ⟨ba, 13, none⟩ = some (.bool x13) := (HA.out.cell 13).trans rfl
  go_wp2_with fail
  with_reducible refine (HBo.out _).mono ?_
  rintro e w2 ⟨A, c, rfl, hO, hN⟩
  have hb : w.heap.size ≤ w1.heap.size := HN1.out.size
  have HO := Lib.hid (own_base (base' := w.heap.size) hO (fun k hk => Nat.le_trans hb (hO.lt k hk).1))
  have HN2 := Lib.hid (HN1.out.then_new hN)
  clear hN hO hb HBo
  go_wp2_with fail
  go_ret2
  exact ⟨A, c, rfl, HO.out, HN2.out⟩
/-- what a product is sealed by, and its sealed data -/
def prS (p : Pd) : Sl := ⟨p.x1, p.x0, p.x3, p.x4, bstr (formN p.ns)⟩
def SealP (base b : Nat) (r ac : Bool) (M' : List Sl) (fb : List Nat) (w : World) (e : Ending) (w' : World) : Prop :=
  (r = false ∧ e = .returned (.tuple #[.slice none 0 0, .int .i64 2]) ∧ New w w') ∨
  (r = true ∧ ac = false ∧ e = .returned (.tuple #[.slice none 0 0, .int .i64 24]) ∧ New w w') ∨
  (r = true ∧ ac = true ∧ (∃ A c, e = .returned (.tuple #[.slice A 64 c, .int .i64 0]) ∧ w'.ownsRow w.heap.size 5 1 (.slice A 64 c) 64 (fb.map bV)) ∧ Orc w' base b M' ∧ Chg (OS base w) w w')
abbrev SealR (base b : Nat) (acc : Nat → Bool) (M : List Sl) (p : Pd) (w : World) (e : Ending) (w' : World) : Prop :=
  SealP base b (rightN p.ns) (accB acc p.x1) (mintL M (prS p)) (bodyN p.ns (mintN M (prS p))) w e w'
set_option maxRecDepth 100000 in
set_option maxHeartbeats 4000000 in
theorem Seal_any (p : Pd) (base b g : Nat) (o n : Int) (acc : Nat → Bool) (M : List Sl) (w : World) (hG : Has w g 129 (mdC b o acc n)) (hM : Orc w base b M) (hm : M.length ≤ 1000) :
    Calls Try.prog 22 #[.pointer (some ⟨g, 0, none⟩), p.V] w fun e w' => SealR base b acc M p w e w' := by
  have HRi : Hid (∀ (w : World) (s : Nat), Has w s 24 #[.int .i64 p.x0, .int .i64 p.x1, .int .i64 p.x2, .int .i64 p.x3, .int .i64 p.x4, .int .i64 p.x5, .int .i64 p.x6, .int .i64 p.x7, .bool p.x8, .int .i64 p.x9, .int .i64 p.x10, .int .i64 p.x11, .int .i64 p.x12, .bool p.x13] → Calls Try.prog 12 #[.slice (some ⟨s, 0, none⟩) 1 1] w fun e w' => e = .returned (.bool (rightN p.ns)) ∧ New w w') := fun w s hs => by
    have := Right10_any (some ⟨s, 0, none⟩) 1 1 (fun _ => p) (· = s) w (Pds.one hs) (fun k hk => by rw [hk]; exact hs.lt) (by omega)
    rw [allR_one] at this
    exact this
  have HAc := Lib.hid (fun w hw => Accepts_any p.x1 g b o n acc w hw)
  have HPs := Lib.hid (fun hp w => productSeal_any p hp w)
  have HBo := Lib.hid (fun hp t h1 h2 w => bodyOf_any p hp t h1 h2 w)
  have HMt : Hid (∀ (hp : RightN p.ns) (wx : World) (s c : Nat) (A : Option Addr) (F : Nat → Prop), Orc wx base b M → Byts wx F (.slice A (formN p.ns).length c) (formN p.ns) → (∀ k, F k → k < wx.heap.size) → Has wx s 27 #[.slice A (formN p.ns).length c] → Calls Try.prog 59 #[.pointer (some ⟨b, 0, none⟩), .agg #[.int .i64 p.x1, .int .i64 p.x0, .int .i64 p.x3, .int .i64 p.x4], .slice (some ⟨s, 0, none⟩) 1 1] wx fun e w' => e = .returned (.int .i64 (mintN M (prS p) : Nat)) ∧ Orc w' base b (mintL M (prS p)) ∧ Chg (OS base wx) wx w') := fun hp wx s c A F hO hB hF hs => by
    obtain ⟨⟨a1, a2⟩, ⟨b1, b2⟩, _, ⟨d1, d2⟩, ⟨e1, e2⟩, _⟩ := (right_pd p).1 hp
    have hL : Lists wx (fun k => F k ∨ k = s) (some ⟨s, 0, none⟩) [formN p.ns] := ⟨fun _ => .slice A (formN p.ns).length c, fun i hi => by
      obtain rfl : i = 0 := by simpa using hi
      exact ⟨_, rfl, Or.inr rfl, (hs.cell 0).trans rfl⟩, fun i hi => by
      obtain rfl : i = 0 := by simpa using hi
      exact hB.mono fun k hk => Or.inl hk⟩
    have hl53 := form_len hp
    have := Mint_orc base b M p.x1 p.x0 p.x3 p.x4 (wf_small (by omega) (by omega)) (wf_small (by omega) (by omega)) (wf_small (by omega) (by omega)) (wf_small (by omega) (by omega)) _ 1 1 _ _ wx hO hm hL (fun k hk => by rcases hk with h | h; exact hF k h; rw [h]; exact hs.lt) rfl (by omega) (by omega) (by simp; omega)
    rw [show bstr [formN p.ns].flatten = bstr (formN p.ns) by simp] at this
    exact this
  have Hf256 := Lib.hid (fun hp => form_small (m := p.ns) hp)
  have Hf53 := Lib.hid (fun hp => form_len (m := p.ns) hp)
  have HG := Lib.hid hG
  have HM := Lib.hid hM
  have Hmt : Hid (1 ≤ mintN M (prS p) ∧ mintN M (prS p) ≤ 2147483647) := by have := mintN_le M (prS p); rw [Hid]; omega
  show Calls _ _ _ _ fun e w' => SealP base b (rightN p.ns) (accB acc p.x1) (mintL M (prS p)) (bodyN p.ns (mintN M (prS p))) w e w'
  obtain ⟨T, hT⟩ : ∃ T, T = mintN M (prS p) := ⟨_, rfl⟩
  obtain ⟨M', hM'⟩ : ∃ M', M' = mintL M (prS p) := ⟨_, rfl⟩
  obtain ⟨f, hf⟩ : ∃ f, f = formN p.ns := ⟨_, rfl⟩
  rw [← hf, ← hT, ← hM'] at HMt
  rw [← hf] at HPs Hf256 Hf53
  rw [← hT] at Hmt
  rw [← hT, ← hM']
  obtain ⟨l, hl⟩ : ∃ l, l = f.length := ⟨_, rfl⟩
  rw [← hl] at HPs HMt Hf53
  have HB2 : Hid (∀ hp : RightN p.ns, ∀ w, Calls Try.prog 58 #[p.V, .int .i64 (T : Int)] w fun e w' => ∃ A c, e = .returned (.tuple #[.slice A 64 c, .int .i64 0]) ∧ w'.ownsRow w.heap.size 5 1 (.slice A 64 c) 64 ((bodyN p.ns T).map bV) ∧ New w w') := fun hp w => HBo.out hp T Hmt.out.1 Hmt.out.2 w
  obtain ⟨fb, hfb⟩ : ∃ fb, fb = bodyN p.ns T := ⟨_, rfl⟩
  rw [← hfb] at HB2 ⊢
  have Hl := Lib.hid hl
  clear hT hM' hf hl hG hM HBo hfb
  obtain ⟨r, hr⟩ : ∃ r, r = rightN p.ns := ⟨_, rfl⟩
  have Hr : Hid (r = true → RightN p.ns) := fun h => rightN_of (hr.symm.trans h)
  obtain ⟨ns, hns⟩ : ∃ ns, ns = p.ns := ⟨_, rfl⟩
  rw [← hr] at HRi ⊢
  rw [← hns] at HPs HMt HB2 Hf256 Hf53 Hr
  clear hr hns
  obtain ⟨x0, x1, x2, x3, x4, x5, x6, x7, x8, x9, x10, x11, x12, x13⟩ := p
  have HRi : Hid (∀ (w : World) (s : Nat), Has w s 24 #[.int .i64 x0, .int .i64 x1, .int .i64 x2, .int .i64 x3, .int .i64 x4, .int .i64 x5, .int .i64 x6, .int .i64 x7, .bool x8, .int .i64 x9, .int .i64 x10, .int .i64 x11, .int .i64 x12, .bool x13] → Calls Try.prog 12 #[.slice (some ⟨s, 0, none⟩) 1 1] w fun e w' => e = .returned (.bool r) ∧ New w w') := HRi.out
  have HAc : Hid (∀ w, Has w g 129 (mdC b o acc n) → Calls Try.prog 56 #[.pointer (some ⟨g, 0, none⟩), .int .i64 x1] w fun e w' => e = .returned (.bool (accB acc x1)) ∧ New w w') := HAc.out
  have HPs : Hid (∀ (hp : RightN ns) (w : World), Calls Try.prog 57 #[.agg #[.int .i64 x0, .int .i64 x1, .int .i64 x2, .int .i64 x3, .int .i64 x4, .int .i64 x5, .int .i64 x6, .int .i64 x7, .bool x8, .int .i64 x9, .int .i64 x10, .int .i64 x11, .int .i64 x12, .bool x13]] w fun e w' => ∃ A c, e = .returned (.tuple #[.agg #[.int .i64 x1, .int .i64 x0, .int .i64 x3, .int .i64 x4], .slice A l c]) ∧ w'.ownsRow w.heap.size 5 1 (.slice A l c) l (f.map bV) ∧ New w w') := HPs.out
  have HMt : Hid (∀ (hp : RightN ns) (wx : World) (s c : Nat) (A : Option Addr) (F : Nat → Prop), Orc wx base b M → Byts wx F (.slice A l c) f → (∀ k, F k → k < wx.heap.size) → Has wx s 27 #[.slice A l c] → Calls Try.prog 59 #[.pointer (some ⟨b, 0, none⟩), .agg #[.int .i64 x1, .int .i64 x0, .int .i64 x3, .int .i64 x4], .slice (some ⟨s, 0, none⟩) 1 1] wx fun e w' => e = .returned (.int .i64 (T : Int)) ∧ Orc w' base b M' ∧ Chg (OS base wx) wx w') := HMt.out
  have HB2 : Hid (∀ (hp : RightN ns) (w : World), Calls Try.prog 58 #[.agg #[.int .i64 x0, .int .i64 x1, .int .i64 x2, .int .i64 x3, .int .i64 x4, .int .i64 x5, .int .i64 x6, .int .i64 x7, .bool x8, .int .i64 x9, .int .i64 x10, .int .i64 x11, .int .i64 x12, .bool x13], .int .i64 (T : Int)] w fun e w' => ∃ A c, e = .returned (.tuple #[.slice A 64 c, .int .i64 0]) ∧ w'.ownsRow w.heap.size 5 1 (.slice A 64 c) 64 (fb.map bV) ∧ New w w') := HB2.out
  show Calls _ _ #[_, .agg #[.int .i64 x0, .int .i64 x1, .int .i64 x2, .int .i64 x3, .int .i64 x4, .int .i64 x5, .int .i64 x6, .int .i64 x7, .bool x8, .int .i64 x9, .int .i64 x10, .int .i64 x11, .int .i64 x12, .bool x13]] _ fun e w' => SealP base b r (accB acc x1) M' fb w e w'
  generalize accB acc x1 = ac at HAc ⊢
  go_enter Try.func22, Try.ntmps22
  go_upto_region 1 with (fail)
  obtain ⟨w1, hw1⟩ : ∃ w1, w1 = w.alloc (.cells #[.int .i64 x0, .int .i64 x1, .int .i64 x2, .int .i64 x3, .int .i64 x4, .int .i64 x5, .int .i64 x6, .int .i64 x7, .bool x8, .int .i64 x9, .int .i64 x10, .int .i64 x11, .int .i64 x12, .bool x13] 24) := ⟨_, rfl⟩
  obtain ⟨sb, hsb⟩ : ∃ sb, sb = w.heap.size := ⟨_, rfl⟩
  have HS : Hid (Has w1 sb 24 #[.int .i64 x0, .int .i64 x1, .int .i64 x2, .int .i64 x3, .int .i64 x4, .int .i64 x5, .int .i64 x6, .int .i64 x7, .bool x8, .int .i64 x9, .int .i64 x10, .int .i64 x11, .int .i64 x12, .bool x13]) := by rw [hw1, hsb]; exact Has.new _ _ _
  have HN1 : Hid (New w w1) := by rw [hw1]; exact (Chg.refl _ _).alloc _
  have Hsb := Lib.hid hsb
  rw [← hw1, ← hsb]
  clear hw1 hsb
  have c0 : w1.cell? ⟨sb, 0, none⟩ = some (.int .i64 x0) := (HS.out.cell 0).trans rfl
  have c1 : w1.cell? ⟨sb, 1, none⟩ = some (.int .i64 x1) := (HS.out.cell 1).trans rfl
  have c2 : w1.cell? ⟨sb, 2, none⟩ = some (.int .i64 x2) := (HS.out.cell 2).trans rfl
  have c3 : w1.cell? ⟨sb, 3, none⟩ = some (.int .i64 x3) := (HS.out.cell 3).trans rfl
  have c4 : w1.cell? ⟨sb, 4, none⟩ = some (.int .i64 x4) := (HS.out.cell 4).trans rfl
  have c5 : w1.cell? ⟨sb, 5, none⟩ = some (.int .i64 x5) := (HS.out.cell 5).trans rfl
  have c6 : w1.cell? ⟨sb, 6, none⟩ = some (.int .i64 x6) := (HS.out.cell 6).trans rfl
  have c7 : w1.cell? ⟨sb, 7, none⟩ = some (.int .i64 x7) := (HS.out.cell 7).trans rfl
  have c8 : w1.cell? ⟨sb, 8, none⟩ = some (.bool x8) := (HS.out.cell 8).trans rfl
  have c9 : w1.cell? ⟨sb, 9, none⟩ = some (.int .i64 x9) := (HS.out.cell 9).trans rfl
  have c10 : w1.cell? ⟨sb, 10, none⟩ = some (.int .i64 x10) := (HS.out.cell 10).trans rfl
  have c11 : w1.cell? ⟨sb, 11, none⟩ = some (.int .i64 x11) := (HS.out.cell 11).trans rfl
  have c12 : w1.cell? ⟨sb, 12, none⟩ = some (.int .i64 x12) := (HS.out.cell 12).trans rfl
  have c13 : w1.cell? ⟨sb, 13, none⟩ = some (.bool x13) := (HS.out.cell 13).trans rfl
  have hH := Has.new w1 24 #[.int .i64 x0, .int .i64 x1, .int .i64 x2, .int .i64 x3, .int .i64 x4, .int .i64 x5, .int .i64 x6, .int .i64 x7, .bool x8, .int .i64 x9, .int .i64 x10, .int .i64 x11, .int .i64 x12, .bool x13]
  have hN : New w1 (w1.alloc (.cells #[.int .i64 x0, .int .i64 x1, .int .i64 x2, .int .i64 x3, .int .i64 x4, .int .i64 x5, .int .i64 x6, .int .i64 x7, .bool x8, .int .i64 x9, .int .i64 x10, .int .i64 x11, .int .i64 x12, .bool x13] 24)) := (Chg.refl _ _).alloc _
  obtain ⟨w1b, hw1b⟩ : ∃ w1b, w1b = w1.alloc (.cells #[.int .i64 x0, .int .i64 x1, .int .i64 x2, .int .i64 x3, .int .i64 x4, .int .i64 x5, .int .i64 x6, .int .i64 x7, .bool x8, .int .i64 x9, .int .i64 x10, .int .i64 x11, .int .i64 x12, .bool x13] 24) := ⟨_, rfl⟩
  have HC1 := Lib.hid (HRi.out w1b w1.heap.size (by rw [hw1b]; exact hH))
  rw [← hw1b] at hN
  rw [hw1b] at HC1
  have HN1b : Hid (New w w1b) := HN1.out.then_new hN
  have HS1b : Hid (Has w1b sb 24 #[.int .i64 x0, .int .i64 x1, .int .i64 x2, .int .i64 x3, .int .i64 x4, .int .i64 x5, .int .i64 x6, .int .i64 x7, .bool x8, .int .i64 x9, .int .i64 x10, .int .i64 x11, .int .i64 x12, .bool x13]) := HS.out.keep hN
  rw [hw1b] at HN1b HS1b
  clear hN hH hw1b
  go_wp2_with fail
  with_reducible refine HC1.out.mono ?_
  rintro e w2 ⟨rfl, hN⟩
  have HN2 := Lib.hid (HN1b.out.then_new hN)
  have HS2 := Lib.hid (HS1b.out.keep hN)
  clear hN HC1 HN1b HS1b HS HN1 HRi
  clear c0 c1 c2 c3 c4 c5 c6 c7 c8 c9 c10 c11 c12 c13
  cases r with
  | false =>
    go_wp2_with fail
    go_ret2
    unfold SealP
    exact Or.inl ⟨rfl, rfl, HN2.out⟩
  | true =>
    have hp : RightN ns := Hr.out rfl
    have HPs := Lib.hid (HPs.out hp)
    have HMt := Lib.hid (HMt.out hp)
    have HB2 := Lib.hid (HB2.out hp)
    have Hf256 := Lib.hid (Hf256.out hp)
    have Hf53 := Lib.hid (Hf53.out hp)
    clear hp Hr
    have c0 : w2.cell? ⟨sb, 0, none⟩ = some (.int .i64 x0) := (HS2.out.cell 0).trans rfl
    have c1 : w2.cell? ⟨sb, 1, none⟩ = some (.int .i64 x1) := (HS2.out.cell 1).trans rfl
    have c2 : w2.cell? ⟨sb, 2, none⟩ = some (.int .i64 x2) := (HS2.out.cell 2).trans rfl
    have c3 : w2.cell? ⟨sb, 3, none⟩ = some (.int .i64 x3) := (HS2.out.cell 3).trans rfl
    have c4 : w2.cell? ⟨sb, 4, none⟩ = some (.int .i64 x4) := (HS2.out.cell 4).trans rfl
    have c5 : w2.cell? ⟨sb, 5, none⟩ = some (.int .i64 x5) := (HS2.out.cell 5).trans rfl
    have c6 : w2.cell? ⟨sb, 6, none⟩ = some (.int .i64 x6) := (HS2.out.cell 6).trans rfl
    have c7 : w2.cell? ⟨sb, 7, none⟩ = some (.int .i64 x7) := (HS2.out.cell 7).trans rfl
    have c8 : w2.cell? ⟨sb, 8, none⟩ = some (.bool x8) := (HS2.out.cell 8).trans rfl
    have c9 : w2.cell? ⟨sb, 9, none⟩ = some (.int .i64 x9) := (HS2.out.cell 9).trans rfl
    have c10 : w2.cell? ⟨sb, 10, none⟩ = some (.int .i64 x10) := (HS2.out.cell 10).trans rfl
    have c11 : w2.cell? ⟨sb, 11, none⟩ = some (.int .i64 x11) := (HS2.out.cell 11).trans rfl
    have c12 : w2.cell? ⟨sb, 12, none⟩ = some (.int .i64 x12) := (HS2.out.cell 12).trans rfl
    have c13 : w2.cell? ⟨sb, 13, none⟩ = some (.bool x13) := (HS2.out.cell 13).trans rfl
    go_wp2_with fail
    with_reducible refine (HAc.out _ (HG.out.keep HN2.out)).mono ?_
    rintro e w3 ⟨rfl, hN⟩
    have HN3 := Lib.hid (HN2.out.then_new hN)
    have HS3 := Lib.hid (HS2.out.keep hN)
    clear hN HN2 HS2 HAc
    clear c0 c1 c2 c3 c4 c5 c6 c7 c8 c9 c10 c11 c12 c13
    cases ac with
    | false =>
      go_wp2_with fail
      go_ret2
      unfold SealP
      exact Or.inr (Or.inl ⟨rfl, rfl, rfl, HN3.out⟩)
    | true =>
      have c0 : w3.cell? ⟨sb, 0, none⟩ = some (.int .i64 x0) := (HS3.out.cell 0).trans rfl
      have c1 : w3.cell? ⟨sb, 1, none⟩ = some (.int .i64 x1) := (HS3.out.cell 1).trans rfl
      have c2 : w3.cell? ⟨sb, 2, none⟩ = some (.int .i64 x2) := (HS3.out.cell 2).trans rfl
      have c3 : w3.cell? ⟨sb, 3, none⟩ = some (.int .i64 x3) := (HS3.out.cell 3).trans rfl
      have c4 : w3.cell? ⟨sb, 4, none⟩ = some (.int .i64 x4) := (HS3.out.cell 4).trans rfl
      have c5 : w3.cell? ⟨sb, 5, none⟩ = some (.int .i64 x5) := (HS3.out.cell 5).trans rfl
      have c6 : w3.cell? ⟨sb, 6, none⟩ = some (.int .i64 x6) := (HS3.out.cell 6).trans rfl
      have c7 : w3.cell? ⟨sb, 7, none⟩ = some (.int .i64 x7) := (HS3.out.cell 7).trans rfl
      have c8 : w3.cell? ⟨sb, 8, none⟩ = some (.bool x8) := (HS3.out.cell 8).trans rfl
      have c9 : w3.cell? ⟨sb, 9, none⟩ = some (.int .i64 x9) := (HS3.out.cell 9).trans rfl
      have c10 : w3.cell? ⟨sb, 10, none⟩ = some (.int .i64 x10) := (HS3.out.cell 10).trans rfl
      have c11 : w3.cell? ⟨sb, 11, none⟩ = some (.int .i64 x11) := (HS3.out.cell 11).trans rfl
      have c12 : w3.cell? ⟨sb, 12, none⟩ = some (.int .i64 x12) := (HS3.out.cell 12).trans rfl
      have c13 : w3.cell? ⟨sb, 13, none⟩ = some (.bool x13) := (HS3.out.cell 13).trans rfl
      go_wp2_with fail
      with_reducible refine (HPs.out _).mono ?_
      rintro e w4 ⟨A, c, rfl, hO, hN⟩
      have HN4 := Lib.hid (HN3.out.then_new hN)
      have HS4 := Lib.hid (HS3.out.keep hN)
      have HBy4 := Lib.hid (Byts.own_any hO (Chg.refl _ _) Hf256.out (by have := Hf53.out; omega))
      clear hN HN3 HS3 HPs hO
      clear c0 c1 c2 c3 c4 c5 c6 c7 c8 c9 c10 c11 c12 c13
      go_upto_region 6 with (fail)
      obtain ⟨w5, hw5⟩ : ∃ w5, w5 = w4.alloc (.cells #[.int .i64 x1, .int .i64 x0, .int .i64 x3, .int .i64 x4] 123) := ⟨_, rfl⟩
      obtain ⟨kb, hkb⟩ : ∃ kb, kb = w4.heap.size := ⟨_, rfl⟩
      have HS5 : Hid (Has w5 sb 24 #[.int .i64 x0, .int .i64 x1, .int .i64 x2, .int .i64 x3, .int .i64 x4, .int .i64 x5, .int .i64 x6, .int .i64 x7, .bool x8, .int .i64 x9, .int .i64 x10, .int .i64 x11, .int .i64 x12, .bool x13]) := by rw [hw5]; exact HS4.out.alloc _
      have HK5 : Hid (Has w5 kb 123 #[.int .i64 x1, .int .i64 x0, .int .i64 x3, .int .i64 x4]) := by rw [hw5, hkb]; exact Has.new _ _ _
      have HN5 : Hid (New w w5) := by rw [hw5]; exact HN4.out.alloc _
      have hM45 : New w4 w5 := by rw [hw5]; exact (Chg.refl _ _).alloc _
      have HBy5 := Lib.hid (HBy4.out.new hM45 (fun _ h => h))
      have HF5 : Hid (∀ k, k < w4.heap.size → k < w5.heap.size) := fun k hk => Nat.lt_of_lt_of_le hk hM45.size
      rw [← hw5, ← hkb]
      clear hw5 hkb hM45 HS4 HN4 HBy4
      have m0 : w5.cell? ⟨g, 0, none⟩ = some (.pointer (some ⟨b, 0, none⟩)) := ((HG.out.keep HN5.out).cell 0).trans rfl
      have c0 : w5.cell? ⟨sb, 0, none⟩ = some (.int .i64 x0) := (HS5.out.cell 0).trans rfl
      have c1 : w5.cell? ⟨sb, 1, none⟩ = some (.int .i64 x1) := (HS5.out.cell 1).trans rfl
      have c2 : w5.cell? ⟨sb, 2, none⟩ = some (.int .i64 x2) := (HS5.out.cell 2).trans rfl
      have c3 : w5.cell? ⟨sb, 3, none⟩ = some (.int .i64 x3) := (HS5.out.cell 3).trans rfl
      have c4 : w5.cell? ⟨sb, 4, none⟩ = some (.int .i64 x4) := (HS5.out.cell 4).trans rfl
      have c5 : w5.cell? ⟨sb, 5, none⟩ = some (.int .i64 x5) := (HS5.out.cell 5).trans rfl
      have c6 : w5.cell? ⟨sb, 6, none⟩ = some (.int .i64 x6) := (HS5.out.cell 6).trans rfl
      have c7 : w5.cell? ⟨sb, 7, none⟩ = some (.int .i64 x7) := (HS5.out.cell 7).trans rfl
      have c8 : w5.cell? ⟨sb, 8, none⟩ = some (.bool x8) := (HS5.out.cell 8).trans rfl
      have c9 : w5.cell? ⟨sb, 9, none⟩ = some (.int .i64 x9) := (HS5.out.cell 9).trans rfl
      have c10 : w5.cell? ⟨sb, 10, none⟩ = some (.int .i64 x10) := (HS5.out.cell 10).trans rfl
      have c11 : w5.cell? ⟨sb, 11, none⟩ = some (.int .i64 x11) := (HS5.out.cell 11).trans rfl
      have c12 : w5.cell? ⟨sb, 12, none⟩ = some (.int .i64 x12) := (HS5.out.cell 12).trans rfl
      have c13 : w5.cell? ⟨sb, 13, none⟩ = some (.bool x13) := (HS5.out.cell 13).trans rfl
      have k0 : w5.cell? ⟨kb, 0, none⟩ = some (.int .i64 x1) := (HK5.out.cell 0).trans rfl
      have k1 : w5.cell? ⟨kb, 1, none⟩ = some (.int .i64 x0) := (HK5.out.cell 1).trans rfl
      have k2 : w5.cell? ⟨kb, 2, none⟩ = some (.int .i64 x3) := (HK5.out.cell 2).trans rfl
      have k3 : w5.cell? ⟨kb, 3, none⟩ = some (.int .i64 x4) := (HK5.out.cell 3).trans rfl
      have hNa : New w5 (w5.alloc (.cells #[.slice A l c] 27)) := (Chg.refl _ _).alloc _
      have n0 : (w5.alloc (.cells #[.slice A l c] 27)).cell? ⟨g, 0, none⟩ = some (.pointer (some ⟨b, 0, none⟩)) := ((HG.out.keep (HN5.out.then_new hNa)).cell 0).trans rfl
      have HSa := Lib.hid (HS5.out.keep hNa)
      have HKa := Lib.hid (HK5.out.keep hNa)
      clear hNa
      have e0 : (w5.alloc (.cells #[.slice A l c] 27)).cell? ⟨sb, 0, none⟩ = some (.int .i64 x0) := (HSa.out.cell 0).trans rfl
      have e1 : (w5.alloc (.cells #[.slice A l c] 27)).cell? ⟨sb, 1, none⟩ = some (.int .i64 x1) := (HSa.out.cell 1).trans rfl
      have e2 : (w5.alloc (.cells #[.slice A l c] 27)).cell? ⟨sb, 2, none⟩ = some (.int .i64 x2) := (HSa.out.cell 2).trans rfl
      have e3 : (w5.alloc (.cells #[.slice A l c] 27)).cell? ⟨sb, 3, none⟩ = some (.int .i64 x3) := (HSa.out.cell 3).trans rfl
      have e4 : (w5.alloc (.cells #[.slice A l c] 27)).cell? ⟨sb, 4, none⟩ = some (.int .i64 x4) := (HSa.out.cell 4).trans rfl
      have e5 : (w5.alloc (.cells #[.slice A l c] 27)).cell? ⟨sb, 5, none⟩ = some (.int .i64 x5) := (HSa.out.cell 5).trans rfl
      have e6 : (w5.alloc (.cells #[.slice A l c] 27)).cell? ⟨sb, 6, none⟩ = some (.int .i64 x6) := (HSa.out.cell 6).trans rfl
      have e7 : (w5.alloc (.cells #[.slice A l c] 27)).cell? ⟨sb, 7, none⟩ = some (.int .i64 x7) := (HSa.out.cell 7).trans rfl
      have e8 : (w5.alloc (.cells #[.slice A l c] 27)).cell? ⟨sb, 8, none⟩ = some (.bool x8) := (HSa.out.cell 8).trans rfl
      have e9 : (w5.alloc (.cells #[.slice A l c] 27)).cell? ⟨sb, 9, none⟩ = some (.int .i64 x9) := (HSa.out.cell 9).trans rfl
      have e10 : (w5.alloc (.cells #[.slice A l c] 27)).cell? ⟨sb, 10, none⟩ = some (.int .i64 x10) := (HSa.out.cell 10).trans rfl
      have e11 : (w5.alloc (.cells #[.slice A l c] 27)).cell? ⟨sb, 11, none⟩ = some (.int .i64 x11) := (HSa.out.cell 11).trans rfl
      have e12 : (w5.alloc (.cells #[.slice A l c] 27)).cell? ⟨sb, 12, none⟩ = some (.int .i64 x12) := (HSa.out.cell 12).trans rfl
      have e13 : (w5.alloc (.cells #[.slice A l c] 27)).cell? ⟨sb, 13, none⟩ = some (.bool x13) := (HSa.out.cell 13).trans rfl
      have f0 : (w5.alloc (.cells #[.slice A l c] 27)).cell? ⟨kb, 0, none⟩ = some (.int .i64 x1) := (HKa.out.cell 0).trans rfl
      have f1 : (w5.alloc (.cells #[.slice A l c] 27)).cell? ⟨kb, 1, none⟩ = some (.int .i64 x0) := (HKa.out.cell 1).trans rfl
      have f2 : (w5.alloc (.cells #[.slice A l c] 27)).cell? ⟨kb, 2, none⟩ = some (.int .i64 x3) := (HKa.out.cell 2).trans rfl
      have f3 : (w5.alloc (.cells #[.slice A l c] 27)).cell? ⟨kb, 3, none⟩ = some (.int .i64 x4) := (HKa.out.cell 3).trans rfl
      go_cut [4, 5] (fun s4 s5 wx => ∃ A c, s4 = .slice A 64 c ∧ s5 = .int .i64 0 ∧ wx.ownsRow w5.heap.size 5 1 (.slice A 64 c) 64 (fb.map bV) ∧ Orc wx base b M' ∧ Chg (OS base w) w wx)
      case first =>
        go_region_law
          (first
          | (go_simp; go_at_call 59;
             (with_reducible refine (HMt.out _ _ _ _ _ (HM.out.new (HN5.out.then_new (by with_reducible repeat (first | exact Chg.refl _ _ | refine Chg.drew ?_ | refine Chg.drewN ?_ _ | refine Chg.alloc ?_ _)))) (HBy5.out.new (by with_reducible repeat (first | exact Chg.refl _ _ | refine Chg.drew ?_ | refine Chg.drewN ?_ _ | refine Chg.alloc ?_ _)) HF5.out) (fun k hk => Nat.lt_of_lt_of_le (HF5.out k hk) (Chg.size (S := fun _ => False) (by with_reducible repeat (first | exact Chg.refl _ _ | refine Chg.drew ?_ | refine Chg.drewN ?_ _ | refine Chg.alloc ?_ _)))) (by first | exact Has.new _ _ _ | exact (Has.new _ _ _).drew | exact Has.drewN (Has.new _ _ _) _)).mono ?_)
             rintro e w6 ⟨rfl, hO6, hC6⟩
             have HO6 := Lib.hid hO6
             have HS6 := Lib.hid ((HS5.out.keep (by with_reducible repeat (first | exact Chg.refl _ _ | refine Chg.drew ?_ | refine Chg.drewN ?_ _ | refine Chg.alloc ?_ _))).chg hC6 (not_OS (HS5.out.keep (by with_reducible repeat (first | exact Chg.refl _ _ | refine Chg.drew ?_ | refine Chg.drewN ?_ _ | refine Chg.alloc ?_ _))) (by decide) (by decide)))
             have Hs6 := Lib.hid (Nat.le_trans (Chg.size (w := w5) (S := fun _ => False) (by with_reducible repeat (first | exact Chg.refl _ _ | refine Chg.drew ?_ | refine Chg.drewN ?_ _ | refine Chg.alloc ?_ _))) hC6.size)
             have HC6 := Lib.hid (OS.of_new (HN5.out.then_new (by with_reducible repeat (first | exact Chg.refl _ _ | refine Chg.drew ?_ | refine Chg.drewN ?_ _ | refine Chg.alloc ?_ _))) hC6)
             clear hO6 hC6
             have d0 : w6.cell? ⟨sb, 0, none⟩ = some (.int .i64 x0) := (HS6.out.cell 0).trans rfl
             have d1 : w6.cell? ⟨sb, 1, none⟩ = some (.int .i64 x1) := (HS6.out.cell 1).trans rfl
             have d2 : w6.cell? ⟨sb, 2, none⟩ = some (.int .i64 x2) := (HS6.out.cell 2).trans rfl
             have d3 : w6.cell? ⟨sb, 3, none⟩ = some (.int .i64 x3) := (HS6.out.cell 3).trans rfl
             have d4 : w6.cell? ⟨sb, 4, none⟩ = some (.int .i64 x4) := (HS6.out.cell 4).trans rfl
             have d5 : w6.cell? ⟨sb, 5, none⟩ = some (.int .i64 x5) := (HS6.out.cell 5).trans rfl
             have d6 : w6.cell? ⟨sb, 6, none⟩ = some (.int .i64 x6) := (HS6.out.cell 6).trans rfl
             have d7 : w6.cell? ⟨sb, 7, none⟩ = some (.int .i64 x7) := (HS6.out.cell 7).trans rfl
             have d8 : w6.cell? ⟨sb, 8, none⟩ = some (.bool x8) := (HS6.out.cell 8).trans rfl
             have d9 : w6.cell? ⟨sb, 9, none⟩ = some (.int .i64 x9) := (HS6.out.cell 9).trans rfl
             have d10 : w6.cell? ⟨sb, 10, none⟩ = some (.int .i64 x10) := (HS6.out.cell 10).trans rfl
             have d11 : w6.cell? ⟨sb, 11, none⟩ = some (.int .i64 x11) := (HS6.out.cell 11).trans rfl
             have d12 : w6.cell? ⟨sb, 12, none⟩ = some (.int .i64 x12) := (HS6.out.cell 12).trans rfl
             have d13 : w6.cell? ⟨sb, 13, none⟩ = some (.bool x13) := (HS6.out.cell 13).trans rfl
)
          | (go_simp; go_at_call 58;
             (with_reducible refine (HB2.out _).mono ?_)
             rintro e w7 ⟨A7, c7, rfl, hO7, hN7⟩
             have HO7 := Lib.hid (own_base (base' := w5.heap.size) hO7 (fun k hk => Nat.le_trans Hs6.out (hO7.lt k hk).1))
             have HN7 := Lib.hid hN7
             clear hO7 hN7))
        all_goals
          go_wp2_with fail
          go_meet
          case rel => exact ⟨A7, c7, rfl, rfl, HO7.out, HO6.out.new HN7.out, HC6.out.then_new HN7.out⟩
      case rest =>
        obtain ⟨A7, c7, rfl, rfl, h1, h2, h3⟩ := hcut
        have H1 := Lib.hid h1
        have H2 := Lib.hid h2
        have H3 := Lib.hid h3
        have Hsz : Hid (w.heap.size ≤ w5.heap.size) := HN5.out.size
        clear h1 h2 h3
        go_wp2_with fail
        go_ret2
        unfold SealP
        exact Or.inr (Or.inr ⟨rfl, rfl, ⟨A7, c7, rfl, own_base H1.out (fun k hk => Nat.le_trans Hsz.out (H1.out.lt k hk).1)⟩, H2.out, H3.out⟩)
end Go.Proofs.Ytkcokcanakljnaa
