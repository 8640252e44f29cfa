/-
  The law KeysAsks, walked.
-/
import Derived.Test.YtkegafkmcdkphaaKyX
import Derived.Test.YtkegafkmcdkphaaKyT
import Derived.Deep.RegionHeldLaw
namespace Go.Proofs.Ytkegafkmcdkphaa
open Go.RowKit
set_option maxRecDepth 100000 in
set_option maxHeartbeats 4000000 in
theorem asks_walk (k : Ky) (_hk : I64 k.o ∧ I64 k.t ∧ I64 k.c ∧ I64 k.v) (A : Option Addr) (n cc : Nat) {w : World} (z : (∃ xs : List Int, xs.length = n ∧ Arr w (· < w.heap.size) A n (fun i => iV (xs.getD i 0)) ∧ (∀ x ∈ xs, I64 x) ∧ n ≤ cc ∧ cc ≤ maxLen ∧ (A = none → n = 0 ∧ cc = 0)) ∧ n ≤ 17592186043904)
    (A2 : Option Addr) (m cm : Nat) (z2 : (∃ f : Nat → Ky, Kys w (· < w.heap.size) A2 m f ∧ (A2 = none → m = 0 ∧ cm = 0)) ∧ m ≤ 4398046510976) : Calls Try.prog 3 #[k.V, .slice A n cc, .slice A2 m cm] w fun e w' => e = .returned (.bool true) ∧ New w w' := by
  clear _hk
  obtain ⟨⟨xs, hl, hA, _, _, _, hnil⟩, hn⟩ := z
  obtain ⟨⟨f, hK2, hnil2⟩, hn2⟩ := z2
  have Hl := Lib.hid hl
  have HA := Lib.hid hA
  have Hnil := Lib.hid hnil
  have Hn := Lib.hid hn
  have HK2 := Lib.hid hK2
  have Hnil2 := Lib.hid hnil2
  have Hn2 := Lib.hid hn2
  have HDer0 : Hid (∀ base A m w, w.ownsRow base 3 1 (.slice A n m) n (xs.map iV) → Calls Try.prog 9 #[k.V, .slice A n m] w fun e w' => e = .returned (.tuple #[(derK k n (fun i => xs.getD i 0)).V, .int .i64 (derE k n (fun i => xs.getD i 0))]) ∧ New w w') := fun base A m w h => Derive_own k base A n m xs w h (by omega)
  have HDr0 : Hid (∀ wx, New w wx → Calls Try.prog 10 #[k.V, .slice A n cc] wx fun e w' => e = .returned (.tuple #[(derK k n (fun i => xs.getD i 0)).V, .int .i64 (derE k n (fun i => xs.getD i 0))]) ∧ New wx w') := fun wx h => rDerive_any k A n cc (fun i => xs.getD i 0) (· < w.heap.size) wx (hA.new h (fun _ h => h)) (fun j hj => Nat.lt_of_lt_of_le hj h.size) (by omega)
  have HPa0 := Lib.hid (Parent_any k)
  have HPr0 := Lib.hid (rParent_any k)
  have HRi := Lib.hid (Right_any k)
  have HRr := Lib.hid (rRight_any k)
  have HLe := Lib.hid (Level_any k)
  have HLr := Lib.hid (rLevel_any k)
  have HFr0 : Hid (∀ i wx, Calls Try.prog 14 #[k.V, (f i).V] wx fun e w' => e = .returned (.bool (fromB k (f i))) ∧ New wx w') := fun i wx => rFrom_any k (f i) wx
  have HFo0 : Hid (∀ base A c wx, wx.ownsRow base 23 4 (.slice A m c) m (kcells f m) → Calls Try.prog 18 #[k.V, .slice A m c] wx fun e w' => e = .returned (.bool (frB k m f)) ∧ New wx w') := fun base A c wx h => From_any k A m c f _ wx (Kys.of_own h) (own_below h) (by omega)
  have H00 := Lib.hid (frB_0 k f)
  have HS0 := Lib.hid (fun i => frB_succ k i f)
  clear hl hA hnil hn hK2 hnil2 hn2
  generalize derE k n (fun i => xs.getD i 0) = e at HDer0 HDr0
  obtain ⟨⟨d0, d1, d2, d3⟩, hd⟩ : ∃ d, d = derK k n (fun i => xs.getD i 0) := ⟨_, rfl⟩
  rw [← hd] at HDer0 HDr0
  generalize parE k = pe at HPa0 HPr0
  obtain ⟨⟨q0, q1, q2, q3⟩, hq⟩ : ∃ q, q = parK k := ⟨_, rfl⟩
  rw [← hq] at HPa0 HPr0
  generalize rightB k = rb at HRi HRr H00
  generalize levI k = lv at HLe HLr
  obtain ⟨fB, hfB⟩ : ∃ fB : Nat → Bool, fB = fun i => fromB k (f i) := ⟨_, rfl⟩
  obtain ⟨gB, hgB⟩ : ∃ gB : Nat → Bool, gB = fun i => frB k i f := ⟨_, rfl⟩
  have HFr : Hid (∀ i wx, Calls Try.prog 14 #[k.V, (f i).V] wx fun e w' => e = .returned (.bool (fB i)) ∧ New wx w') := by rw [hfB]; exact HFr0
  have HFo : Hid (∀ base A c wx, wx.ownsRow base 23 4 (.slice A m c) m (kcells f m) → Calls Try.prog 18 #[k.V, .slice A m c] wx fun e w' => e = .returned (.bool (gB m)) ∧ New wx w') := by rw [hgB]; exact HFo0
  have H0 : Hid (gB 0 = rb) := by rw [hgB]; exact H00
  have HS : Hid (∀ i, gB (i + 1) = (gB i && fB i)) := by rw [hgB, hfB]; exact HS0
  clear hd hq hfB hgB HFr0 HFo0 H00 HS0
  obtain ⟨o, t, c, v⟩ := k
  have HDer : Hid (∀ base A m w, w.ownsRow base 3 1 (.slice A n m) n (xs.map iV) → Calls Try.prog 9 #[.agg #[.int .i64 o, .int .i64 t, .int .i64 c, .int .i64 v], .slice A n m] w fun e' w' => e' = .returned (.tuple #[.agg #[.int .i64 d0, .int .i64 d1, .int .i64 d2, .int .i64 d3], .int .i64 e]) ∧ New w w') := HDer0.out
  have HDr : Hid (∀ wx, New w wx → Calls Try.prog 10 #[.agg #[.int .i64 o, .int .i64 t, .int .i64 c, .int .i64 v], .slice A n cc] wx fun e' w' => e' = .returned (.tuple #[.agg #[.int .i64 d0, .int .i64 d1, .int .i64 d2, .int .i64 d3], .int .i64 e]) ∧ New wx w') := HDr0.out
  have HPa : Hid (∀ wx, Calls Try.prog 11 #[.agg #[.int .i64 o, .int .i64 t, .int .i64 c, .int .i64 v]] wx fun e' w' => e' = .returned (.tuple #[.agg #[.int .i64 q0, .int .i64 q1, .int .i64 q2, .int .i64 q3], .int .i64 pe]) ∧ New wx w') := HPa0.out
  have HPr : Hid (∀ wx, Calls Try.prog 12 #[.agg #[.int .i64 o, .int .i64 t, .int .i64 c, .int .i64 v]] wx fun e' w' => e' = .returned (.tuple #[.agg #[.int .i64 q0, .int .i64 q1, .int .i64 q2, .int .i64 q3], .int .i64 pe]) ∧ New wx w') := HPr0.out
  clear HDer0 HDr0 HPa0 HPr0
  go_enter Try.func3, Try.ntmps3
  go_wp2_with fail
  with_reducible refine (awake_any _).mono ?_
  rintro e w1 ⟨rfl, hN⟩
  have HK_1 := Lib.hid ((Has.new_at w 23 #[.int .i64 o, .int .i64 t, .int .i64 c, .int .i64 v] (w.heap.size) (by simp)).keep hN)
  have HN_1 := Lib.hid (((Chg.refl (fun _ => False) w).alloc (.cells #[.int .i64 o, .int .i64 t, .int .i64 c, .int .i64 v] 23)).then_new hN)
  clear hN
  have cK0 : w1.cell? ⟨w.heap.size, 0, none⟩ = some (.int .i64 o) := (HK_1.out.cell 0).trans rfl
  have cK1 : w1.cell? ⟨w.heap.size, 1, none⟩ = some (.int .i64 t) := (HK_1.out.cell 1).trans rfl
  have cK2 : w1.cell? ⟨w.heap.size, 2, none⟩ = some (.int .i64 c) := (HK_1.out.cell 2).trans rfl
  have cK3 : w1.cell? ⟨w.heap.size, 3, none⟩ = some (.int .i64 v) := (HK_1.out.cell 3).trans rfl
  have lK := HK_1.out.lt
  go_upto_region 3 with (fail)
  go_cut [7, 8] (fun s7 s8 wx => ∃ g, s7 = .pointer (some ⟨g, 0, none⟩) ∧ s8 = .int .i64 e ∧ Has wx g 23 #[.int .i64 d0, .int .i64 d1, .int .i64 d2, .int .i64 d3] ∧ New w1 wx)
  case first =>
    have HK : Hid (∀ wx, New w1 wx → (wx.cell? ⟨w.heap.size, 0, none⟩ = some (.int .i64 o) ∧ wx.cell? ⟨w.heap.size, 1, none⟩ = some (.int .i64 t) ∧ wx.cell? ⟨w.heap.size, 2, none⟩ = some (.int .i64 c) ∧ wx.cell? ⟨w.heap.size, 3, none⟩ = some (.int .i64 v))) := fun wx h => ⟨((HK_1.out.keep h).cell 0).trans rfl, ((HK_1.out.keep h).cell 1).trans rfl, ((HK_1.out.keep h).cell 2).trans rfl, ((HK_1.out.keep h).cell 3).trans rfl⟩
    go_region_held_law (fun wx => wx.cell? ⟨w.heap.size, 0, none⟩ = some (.int .i64 o) ∧ wx.cell? ⟨w.heap.size, 1, none⟩ = some (.int .i64 t) ∧ wx.cell? ⟨w.heap.size, 2, none⟩ = some (.int .i64 c) ∧ wx.cell? ⟨w.heap.size, 3, none⟩ = some (.int .i64 v))
      (with_reducible refine HK.out _ ?_; (with_reducible repeat (first | refine Chg.setCell ?_ (fun hh => by dsimp only at hh; first | omega | (have := S6.out; omega) | (have := S6.out; have := SD.out; omega)) _ | exact Chg.refl _ _ | refine Chg.drew ?_ | refine Chg.alloc ?_ _ | refine Chg.then_new ?_ HN_D.out | refine Chg.then_new ?_ HC_6.out)))
      (first
        | (go_at_call 9
           with_reducible refine (HDer.out w1.heap.size _ _ _ ?hO).mono ?_
           case hO => (with_reducible refine own_new HO6.out ?_; (with_reducible repeat (first | exact Chg.refl _ _ | refine Chg.drew ?_ | refine Chg.alloc ?_ _)))
           rintro e5 wD ⟨rfl, hND⟩
           try
             have hHXD : Has wD (w1.heap.size) 23 #[.int .i64 0, .int .i64 0, .int .i64 0, .int .i64 0] := by (refine Has.keep ?_ hND; with_reducible repeat (first | exact HX6.out | refine Has.drew ?_ | refine Has.alloc ?_ _))
             have xdz0 := hHXD.free 0
             have xdc0 := (hHXD.cell 0).trans rfl
             have xdz1 := hHXD.free 1
             have xdc1 := (hHXD.cell 1).trans rfl
             have xdz2 := hHXD.free 2
             have xdc2 := (hHXD.cell 2).trans rfl
             have xdz3 := hHXD.free 3
             have xdc3 := (hHXD.cell 3).trans rfl
             have xdl := hHXD.lt
             have HXD := Lib.hid hHXD
             clear hHXD
           try
             have hHXD : Has wD (w1.heap.size + 1) 23 #[.int .i64 0, .int .i64 0, .int .i64 0, .int .i64 0] := by (refine Has.keep ?_ hND; with_reducible repeat (first | exact HX6.out | refine Has.drew ?_ | refine Has.alloc ?_ _))
             have xdz0 := hHXD.free 0
             have xdc0 := (hHXD.cell 0).trans rfl
             have xdz1 := hHXD.free 1
             have xdc1 := (hHXD.cell 1).trans rfl
             have xdz2 := hHXD.free 2
             have xdc2 := (hHXD.cell 2).trans rfl
             have xdz3 := hHXD.free 3
             have xdc3 := (hHXD.cell 3).trans rfl
             have xdl := hHXD.lt
             have HXD := Lib.hid hHXD
             clear hHXD
           try
             have hHXD : Has wD (w6.heap.size) 23 #[.int .i64 0, .int .i64 0, .int .i64 0, .int .i64 0] := by (refine Has.keep ?_ hND; (with_reducible repeat (first | exact Has.new_at _ _ _ _ rfl | exact Has.new_at _ _ _ _ (World.size_alloc _ _) | refine Has.drew ?_ | refine Has.alloc ?_ _)))
             have xdz0 := hHXD.free 0
             have xdc0 := (hHXD.cell 0).trans rfl
             have xdz1 := hHXD.free 1
             have xdc1 := (hHXD.cell 1).trans rfl
             have xdz2 := hHXD.free 2
             have xdc2 := (hHXD.cell 2).trans rfl
             have xdz3 := hHXD.free 3
             have xdc3 := (hHXD.cell 3).trans rfl
             have xdl := hHXD.lt
             have HXD := Lib.hid hHXD
             clear hHXD
           have SD := Lib.hid (show w6.heap.size ≤ wD.heap.size by have := hND.size; (try simp at this); omega)
           have HN_D := Lib.hid hND
           clear hND)
        | (refine step_copy_ints (by kernel_rfl) (.tmp 21) (.tmp 22) rfl w1.heap.size (w1.heap.size) (by simp [Act.eval]) ?hh (by simp) A n cc xs (fun b => b < w.heap.size) (by simp [Act.eval]) ?hA Hl.out Hnil.out (by have := Hn.out; omega) ?_
           case hh => (with_reducible repeat (first | exact Has.new_at _ _ _ _ rfl | exact Has.new_at _ _ _ _ (World.size_alloc _ _) | refine Has.drew ?_ | refine Has.alloc ?_ _))
           case hA => (refine HA.out.new ?_ (fun _ h => h); with_reducible refine Chg.then_new HN_1.out ?_; (with_reducible repeat (first | exact Chg.refl _ _ | refine Chg.drew ?_ | refine Chg.alloc ?_ _)))
           intro A6 c6 w6 hO6 hC6
           try
             have hHX6 : Has w6 (w1.heap.size + 1) 23 #[.int .i64 0, .int .i64 0, .int .i64 0, .int .i64 0] := by (refine Has.chg ?_ hC6 (by first | omega | (intro hh; simp at hh; omega) | (intro hh; simp at hh)); (with_reducible repeat (first | exact Has.new_at _ _ _ _ rfl | exact Has.new_at _ _ _ _ (World.size_alloc _ _) | refine Has.drew ?_ | refine Has.alloc ?_ _)))
             have x6z0 := hHX6.free 0
             have x6c0 := (hHX6.cell 0).trans rfl
             have x6z1 := hHX6.free 1
             have x6c1 := (hHX6.cell 1).trans rfl
             have x6z2 := hHX6.free 2
             have x6c2 := (hHX6.cell 2).trans rfl
             have x6z3 := hHX6.free 3
             have x6c3 := (hHX6.cell 3).trans rfl
             have x6l := hHX6.lt
             have HX6 := Lib.hid hHX6
             clear hHX6
           have HO6 := Lib.hid hO6
           have HC_6 := Lib.hid (show New w1 w6 by refine Chg.trans (T := fun k => k = w1.heap.size) ?_ hC6 (fun i hi hk => by first | omega | (simp at hk; omega)); (with_reducible repeat (first | exact Chg.refl _ _ | refine Chg.drew ?_ | refine Chg.alloc ?_ _)))
           have S6 := Lib.hid HC_6.out.size
           clear hO6 hC6)
        | (refine step_copy_ints (by kernel_rfl) (.tmp 21) (.tmp 22) rfl w1.heap.size (w1.heap.size + 1) (by simp [Act.eval]) ?hh (by simp) A n cc xs (fun b => b < w.heap.size) (by simp [Act.eval]) ?hA Hl.out Hnil.out (by have := Hn.out; omega) ?_
           case hh => (with_reducible repeat (first | exact Has.new_at _ _ _ _ rfl | exact Has.new_at _ _ _ _ (World.size_alloc _ _) | refine Has.drew ?_ | refine Has.alloc ?_ _))
           case hA => (refine HA.out.new ?_ (fun _ h => h); with_reducible refine Chg.then_new HN_1.out ?_; (with_reducible repeat (first | exact Chg.refl _ _ | refine Chg.drew ?_ | refine Chg.alloc ?_ _)))
           intro A6 c6 w6 hO6 hC6
           try
             have hHX6 : Has w6 (w1.heap.size) 23 #[.int .i64 0, .int .i64 0, .int .i64 0, .int .i64 0] := by (refine Has.chg ?_ hC6 (by first | omega | (intro hh; simp at hh; omega) | (intro hh; simp at hh)); (with_reducible repeat (first | exact Has.new_at _ _ _ _ rfl | exact Has.new_at _ _ _ _ (World.size_alloc _ _) | refine Has.drew ?_ | refine Has.alloc ?_ _)))
             have x6z0 := hHX6.free 0
             have x6c0 := (hHX6.cell 0).trans rfl
             have x6z1 := hHX6.free 1
             have x6c1 := (hHX6.cell 1).trans rfl
             have x6z2 := hHX6.free 2
             have x6c2 := (hHX6.cell 2).trans rfl
             have x6z3 := hHX6.free 3
             have x6c3 := (hHX6.cell 3).trans rfl
             have x6l := hHX6.lt
             have HX6 := Lib.hid hHX6
             clear hHX6
           have HO6 := Lib.hid hO6
           have HC_6 := Lib.hid (show New w1 w6 by refine Chg.trans (T := fun k => k = w1.heap.size + 1) ?_ hC6 (fun i hi hk => by first | omega | (simp at hk; omega)); (with_reducible repeat (first | exact Chg.refl _ _ | refine Chg.drew ?_ | refine Chg.alloc ?_ _)))
           have S6 := Lib.hid HC_6.out.size
           clear hO6 hC6))
    all_goals
      go_wp2_with fail
      go_meet
      case rel =>
        with_reducible refine ⟨_, rfl, rfl, ?_⟩
        first
        | (with_reducible refine ⟨Has.new_at _ _ _ _ rfl, ?_⟩
           (with_reducible repeat (first | exact Chg.refl _ _ | refine Chg.drew ?_ | refine Chg.alloc ?_ _ | refine Chg.then_new ?_ HN_D.out | refine Chg.then_new ?_ HC_6.out)))
        | (with_reducible refine box_set ?_ ?_ ?_
           · (with_reducible repeat (first | exact Has.new_at _ _ _ _ rfl | exact HXD.out | refine Has.drew ?_ | refine Has.alloc ?_ _))
           · (with_reducible repeat (first | exact Chg.refl _ _ | refine Chg.drew ?_ | refine Chg.alloc ?_ _ | refine Chg.then_new ?_ HN_D.out | refine Chg.then_new ?_ HC_6.out))
           · first | omega | (have := S6.out; omega) | (have := S6.out; have := SD.out; omega))
  case rest =>
  obtain ⟨g7, rfl, rfl, hX, hN⟩ := hcut
  obtain ⟨w2, rfl⟩ : ∃ w2, w2 = wc := ⟨_, rfl⟩
  have HK_2 := Lib.hid (HK_1.out.keep hN)
  have HN_2 := Lib.hid (HN_1.out.then_new hN)
  clear HK_1 HN_1 cK0 cK1 cK2 cK3 lK hN
  have HX := Lib.hid hX
  clear hX
  have cK0 : w2.cell? ⟨w.heap.size, 0, none⟩ = some (.int .i64 o) := (HK_2.out.cell 0).trans rfl
  have cK1 : w2.cell? ⟨w.heap.size, 1, none⟩ = some (.int .i64 t) := (HK_2.out.cell 1).trans rfl
  have cK2 : w2.cell? ⟨w.heap.size, 2, none⟩ = some (.int .i64 c) := (HK_2.out.cell 2).trans rfl
  have cK3 : w2.cell? ⟨w.heap.size, 3, none⟩ = some (.int .i64 v) := (HK_2.out.cell 3).trans rfl
  have lK := HK_2.out.lt
  have cX0 : w2.cell? ⟨g7, 0, none⟩ = some (.int .i64 d0) := (HX.out.cell 0).trans rfl
  have cX1 : w2.cell? ⟨g7, 1, none⟩ = some (.int .i64 d1) := (HX.out.cell 1).trans rfl
  have cX2 : w2.cell? ⟨g7, 2, none⟩ = some (.int .i64 d2) := (HX.out.cell 2).trans rfl
  have cX3 : w2.cell? ⟨g7, 3, none⟩ = some (.int .i64 d3) := (HX.out.cell 3).trans rfl
  have lX := HX.out.lt
  go_wp2_with fail
  with_reducible refine (HDr.out _ HN_2.out).mono ?_
  rintro e w3 ⟨rfl, hN⟩
  have HK_3 := Lib.hid (HK_2.out.keep hN)
  have HX_3 := Lib.hid (HX.out.keep hN)
  have HN_3 := Lib.hid (HN_2.out.then_new hN)
  clear HK_2 HX HN_2 cK0 cK1 cK2 cK3 lK cX0 cX1 cX2 cX3 lX hN
  have cK0 : w3.cell? ⟨w.heap.size, 0, none⟩ = some (.int .i64 o) := (HK_3.out.cell 0).trans rfl
  have cK1 : w3.cell? ⟨w.heap.size, 1, none⟩ = some (.int .i64 t) := (HK_3.out.cell 1).trans rfl
  have cK2 : w3.cell? ⟨w.heap.size, 2, none⟩ = some (.int .i64 c) := (HK_3.out.cell 2).trans rfl
  have cK3 : w3.cell? ⟨w.heap.size, 3, none⟩ = some (.int .i64 v) := (HK_3.out.cell 3).trans rfl
  have lK := HK_3.out.lt
  have cX0 : w3.cell? ⟨g7, 0, none⟩ = some (.int .i64 d0) := (HX_3.out.cell 0).trans rfl
  have cX1 : w3.cell? ⟨g7, 1, none⟩ = some (.int .i64 d1) := (HX_3.out.cell 1).trans rfl
  have cX2 : w3.cell? ⟨g7, 2, none⟩ = some (.int .i64 d2) := (HX_3.out.cell 2).trans rfl
  have cX3 : w3.cell? ⟨g7, 3, none⟩ = some (.int .i64 d3) := (HX_3.out.cell 3).trans rfl
  have lX := HX_3.out.lt
  go_wp2_with fail
  with_reducible refine (HPa.out _).mono ?_
  rintro e w4 ⟨rfl, hN⟩
  have HK_4 := Lib.hid ((HK_3.out.alloc (.cells #[.int .i64 d0, .int .i64 d1, .int .i64 d2, .int .i64 d3] 23)).keep hN)
  have HX_4 := Lib.hid ((HX_3.out.alloc (.cells #[.int .i64 d0, .int .i64 d1, .int .i64 d2, .int .i64 d3] 23)).keep hN)
  have HY_4 := Lib.hid ((Has.new_at w3 23 #[.int .i64 d0, .int .i64 d1, .int .i64 d2, .int .i64 d3] (w3.heap.size) (by simp)).keep hN)
  have HN_4 := Lib.hid ((HN_3.out.alloc (.cells #[.int .i64 d0, .int .i64 d1, .int .i64 d2, .int .i64 d3] 23)).then_new hN)
  clear HK_3 HX_3 HN_3 cK0 cK1 cK2 cK3 lK cX0 cX1 cX2 cX3 lX hN
  have cK0 : w4.cell? ⟨w.heap.size, 0, none⟩ = some (.int .i64 o) := (HK_4.out.cell 0).trans rfl
  have cK1 : w4.cell? ⟨w.heap.size, 1, none⟩ = some (.int .i64 t) := (HK_4.out.cell 1).trans rfl
  have cK2 : w4.cell? ⟨w.heap.size, 2, none⟩ = some (.int .i64 c) := (HK_4.out.cell 2).trans rfl
  have cK3 : w4.cell? ⟨w.heap.size, 3, none⟩ = some (.int .i64 v) := (HK_4.out.cell 3).trans rfl
  have lK := HK_4.out.lt
  have cX0 : w4.cell? ⟨g7, 0, none⟩ = some (.int .i64 d0) := (HX_4.out.cell 0).trans rfl
  have cX1 : w4.cell? ⟨g7, 1, none⟩ = some (.int .i64 d1) := (HX_4.out.cell 1).trans rfl
  have cX2 : w4.cell? ⟨g7, 2, none⟩ = some (.int .i64 d2) := (HX_4.out.cell 2).trans rfl
  have cX3 : w4.cell? ⟨g7, 3, none⟩ = some (.int .i64 d3) := (HX_4.out.cell 3).trans rfl
  have lX := HX_4.out.lt
  have cY0 : w4.cell? ⟨w3.heap.size, 0, none⟩ = some (.int .i64 d0) := (HY_4.out.cell 0).trans rfl
  have cY1 : w4.cell? ⟨w3.heap.size, 1, none⟩ = some (.int .i64 d1) := (HY_4.out.cell 1).trans rfl
  have cY2 : w4.cell? ⟨w3.heap.size, 2, none⟩ = some (.int .i64 d2) := (HY_4.out.cell 2).trans rfl
  have cY3 : w4.cell? ⟨w3.heap.size, 3, none⟩ = some (.int .i64 d3) := (HY_4.out.cell 3).trans rfl
  have lY := HY_4.out.lt
  go_wp2_with fail
  with_reducible refine (HPr.out _).mono ?_
  rintro e w5 ⟨rfl, hN⟩
  have HK_5 := Lib.hid ((HK_4.out.alloc (.cells #[.int .i64 q0, .int .i64 q1, .int .i64 q2, .int .i64 q3] 23)).keep hN)
  have HX_5 := Lib.hid ((HX_4.out.alloc (.cells #[.int .i64 q0, .int .i64 q1, .int .i64 q2, .int .i64 q3] 23)).keep hN)
  have HY_5 := Lib.hid ((HY_4.out.alloc (.cells #[.int .i64 q0, .int .i64 q1, .int .i64 q2, .int .i64 q3] 23)).keep hN)
  have HP_5 := Lib.hid ((Has.new_at w4 23 #[.int .i64 q0, .int .i64 q1, .int .i64 q2, .int .i64 q3] (w4.heap.size) (by simp)).keep hN)
  have HN_5 := Lib.hid ((HN_4.out.alloc (.cells #[.int .i64 q0, .int .i64 q1, .int .i64 q2, .int .i64 q3] 23)).then_new hN)
  clear HK_4 HX_4 HY_4 HN_4 cK0 cK1 cK2 cK3 lK cX0 cX1 cX2 cX3 lX cY0 cY1 cY2 cY3 lY hN
  have cK0 : w5.cell? ⟨w.heap.size, 0, none⟩ = some (.int .i64 o) := (HK_5.out.cell 0).trans rfl
  have cK1 : w5.cell? ⟨w.heap.size, 1, none⟩ = some (.int .i64 t) := (HK_5.out.cell 1).trans rfl
  have cK2 : w5.cell? ⟨w.heap.size, 2, none⟩ = some (.int .i64 c) := (HK_5.out.cell 2).trans rfl
  have cK3 : w5.cell? ⟨w.heap.size, 3, none⟩ = some (.int .i64 v) := (HK_5.out.cell 3).trans rfl
  have lK := HK_5.out.lt
  have cX0 : w5.cell? ⟨g7, 0, none⟩ = some (.int .i64 d0) := (HX_5.out.cell 0).trans rfl
  have cX1 : w5.cell? ⟨g7, 1, none⟩ = some (.int .i64 d1) := (HX_5.out.cell 1).trans rfl
  have cX2 : w5.cell? ⟨g7, 2, none⟩ = some (.int .i64 d2) := (HX_5.out.cell 2).trans rfl
  have cX3 : w5.cell? ⟨g7, 3, none⟩ = some (.int .i64 d3) := (HX_5.out.cell 3).trans rfl
  have lX := HX_5.out.lt
  have cY0 : w5.cell? ⟨w3.heap.size, 0, none⟩ = some (.int .i64 d0) := (HY_5.out.cell 0).trans rfl
  have cY1 : w5.cell? ⟨w3.heap.size, 1, none⟩ = some (.int .i64 d1) := (HY_5.out.cell 1).trans rfl
  have cY2 : w5.cell? ⟨w3.heap.size, 2, none⟩ = some (.int .i64 d2) := (HY_5.out.cell 2).trans rfl
  have cY3 : w5.cell? ⟨w3.heap.size, 3, none⟩ = some (.int .i64 d3) := (HY_5.out.cell 3).trans rfl
  have lY := HY_5.out.lt
  have cP0 : w5.cell? ⟨w4.heap.size, 0, none⟩ = some (.int .i64 q0) := (HP_5.out.cell 0).trans rfl
  have cP1 : w5.cell? ⟨w4.heap.size, 1, none⟩ = some (.int .i64 q1) := (HP_5.out.cell 1).trans rfl
  have cP2 : w5.cell? ⟨w4.heap.size, 2, none⟩ = some (.int .i64 q2) := (HP_5.out.cell 2).trans rfl
  have cP3 : w5.cell? ⟨w4.heap.size, 3, none⟩ = some (.int .i64 q3) := (HP_5.out.cell 3).trans rfl
  have lP := HP_5.out.lt
  go_wp2_with fail
  with_reducible refine (HRr.out _).mono ?_
  rintro e w6 ⟨rfl, hN⟩
  have HK_6 := Lib.hid ((HK_5.out.alloc (.cells #[.int .i64 q0, .int .i64 q1, .int .i64 q2, .int .i64 q3] 23)).keep hN)
  have HX_6 := Lib.hid ((HX_5.out.alloc (.cells #[.int .i64 q0, .int .i64 q1, .int .i64 q2, .int .i64 q3] 23)).keep hN)
  have HY_6 := Lib.hid ((HY_5.out.alloc (.cells #[.int .i64 q0, .int .i64 q1, .int .i64 q2, .int .i64 q3] 23)).keep hN)
  have HP_6 := Lib.hid ((HP_5.out.alloc (.cells #[.int .i64 q0, .int .i64 q1, .int .i64 q2, .int .i64 q3] 23)).keep hN)
  have HR_6 := Lib.hid ((Has.new_at w5 23 #[.int .i64 q0, .int .i64 q1, .int .i64 q2, .int .i64 q3] (w5.heap.size) (by simp)).keep hN)
  have HN_6 := Lib.hid ((HN_5.out.alloc (.cells #[.int .i64 q0, .int .i64 q1, .int .i64 q2, .int .i64 q3] 23)).then_new hN)
  clear HK_5 HX_5 HY_5 HP_5 HN_5 cK0 cK1 cK2 cK3 lK cX0 cX1 cX2 cX3 lX cY0 cY1 cY2 cY3 lY cP0 cP1 cP2 cP3 lP hN
  clear HDr HPa HPr
  have cK0 : w6.cell? ⟨w.heap.size, 0, none⟩ = some (.int .i64 o) := (HK_6.out.cell 0).trans rfl
  have cK1 : w6.cell? ⟨w.heap.size, 1, none⟩ = some (.int .i64 t) := (HK_6.out.cell 1).trans rfl
  have cK2 : w6.cell? ⟨w.heap.size, 2, none⟩ = some (.int .i64 c) := (HK_6.out.cell 2).trans rfl
  have cK3 : w6.cell? ⟨w.heap.size, 3, none⟩ = some (.int .i64 v) := (HK_6.out.cell 3).trans rfl
  have lK := HK_6.out.lt
  have cX0 : w6.cell? ⟨g7, 0, none⟩ = some (.int .i64 d0) := (HX_6.out.cell 0).trans rfl
  have cX1 : w6.cell? ⟨g7, 1, none⟩ = some (.int .i64 d1) := (HX_6.out.cell 1).trans rfl
  have cX2 : w6.cell? ⟨g7, 2, none⟩ = some (.int .i64 d2) := (HX_6.out.cell 2).trans rfl
  have cX3 : w6.cell? ⟨g7, 3, none⟩ = some (.int .i64 d3) := (HX_6.out.cell 3).trans rfl
  have lX := HX_6.out.lt
  have cY0 : w6.cell? ⟨w3.heap.size, 0, none⟩ = some (.int .i64 d0) := (HY_6.out.cell 0).trans rfl
  have cY1 : w6.cell? ⟨w3.heap.size, 1, none⟩ = some (.int .i64 d1) := (HY_6.out.cell 1).trans rfl
  have cY2 : w6.cell? ⟨w3.heap.size, 2, none⟩ = some (.int .i64 d2) := (HY_6.out.cell 2).trans rfl
  have cY3 : w6.cell? ⟨w3.heap.size, 3, none⟩ = some (.int .i64 d3) := (HY_6.out.cell 3).trans rfl
  have lY := HY_6.out.lt
  have cP0 : w6.cell? ⟨w4.heap.size, 0, none⟩ = some (.int .i64 q0) := (HP_6.out.cell 0).trans rfl
  have cP1 : w6.cell? ⟨w4.heap.size, 1, none⟩ = some (.int .i64 q1) := (HP_6.out.cell 1).trans rfl
  have cP2 : w6.cell? ⟨w4.heap.size, 2, none⟩ = some (.int .i64 q2) := (HP_6.out.cell 2).trans rfl
  have cP3 : w6.cell? ⟨w4.heap.size, 3, none⟩ = some (.int .i64 q3) := (HP_6.out.cell 3).trans rfl
  have lP := HP_6.out.lt
  have cR0 : w6.cell? ⟨w5.heap.size, 0, none⟩ = some (.int .i64 q0) := (HR_6.out.cell 0).trans rfl
  have cR1 : w6.cell? ⟨w5.heap.size, 1, none⟩ = some (.int .i64 q1) := (HR_6.out.cell 1).trans rfl
  have cR2 : w6.cell? ⟨w5.heap.size, 2, none⟩ = some (.int .i64 q2) := (HR_6.out.cell 2).trans rfl
  have cR3 : w6.cell? ⟨w5.heap.size, 3, none⟩ = some (.int .i64 q3) := (HR_6.out.cell 3).trans rfl
  have lR := HR_6.out.lt
  go_wp2_with fail
  clear cK0 cK1 cK2 cK3 lK cX0 cX1 cX2 cX3 lX cY0 cY1 cY2 cY3 lY cP0 cP1 cP2 cP3 lP cR0 cR1 cR2 cR3 lR
  go_loopg [15, 16] m (fun gk s15 s16 wr => ∃ i : Nat, i ≤ m ∧ gk = m - i ∧ s15 = .bool (gB i) ∧ s16 = .int .i64 i ∧ New w6 wr)
  case atStart => exact ⟨0, by omega, by omega, by rw [H0.out], rfl, Chg.refl _ _⟩
  case round =>
  obtain ⟨i, hi, rfl, rfl, rfl, hN⟩ := hrel
  have HNr := Lib.hid hN
  have HK_7 := Lib.hid (HK_6.out.keep hN)
  have HX_7 := Lib.hid (HX_6.out.keep hN)
  have HY_7 := Lib.hid (HY_6.out.keep hN)
  have HP_7 := Lib.hid (HP_6.out.keep hN)
  have HR_7 := Lib.hid (HR_6.out.keep hN)
  have HN_7 := Lib.hid (HN_6.out.then_new hN)
  clear HK_6 HX_6 HY_6 HP_6 HR_6 HN_6 hN
  by_cases hlt : i < m
  · obtain ⟨a, ha, hab, a0, a1, a2, a3⟩ := (HK2.out.new HN_7.out (fun _ h => h)) i hlt
    subst ha
    clear hab
    have hFi := HFr.out i
    obtain ⟨b, hb⟩ : ∃ b, gB i = b := ⟨_, rfl⟩
    obtain ⟨fb, hfb⟩ : ∃ fb, fB i = fb := ⟨_, rfl⟩
    have hS := HS.out i
    rw [hb, hfb] at hS
    rw [hfb] at hFi
    rw [hb]
    obtain ⟨⟨p0, p1, p2, p3⟩, hp⟩ : ∃ p, p = f i := ⟨_, rfl⟩
    rw [← hp] at hFi a0 a1 a2 a3
    have HFi := Lib.hid hFi
    have HSi := Lib.hid hS
    clear hFi hS hb hfb hp
    simp only at a0 a1 a2 a3
    have cK0 : wr.cell? ⟨w.heap.size, 0, none⟩ = some (.int .i64 o) := (HK_7.out.cell 0).trans rfl
    have cK1 : wr.cell? ⟨w.heap.size, 1, none⟩ = some (.int .i64 t) := (HK_7.out.cell 1).trans rfl
    have cK2 : wr.cell? ⟨w.heap.size, 2, none⟩ = some (.int .i64 c) := (HK_7.out.cell 2).trans rfl
    have cK3 : wr.cell? ⟨w.heap.size, 3, none⟩ = some (.int .i64 v) := (HK_7.out.cell 3).trans rfl
    have lK := HK_7.out.lt
    go_wp2_with fail
    cases b with
    | true =>
      first
      | (go_region_with (first
          | (go_at_call 14
             with_reducible refine (HFi.out _).mono ?_
             rintro e wF ⟨rfl, hNF⟩
             have HN_F := Lib.hid hNF
             clear hNF)))
      | fail
      all_goals
        go_wp2_with fail
        go_roundg (m - (i + 1))
        case measure => omega
        case rel => exact ⟨i + 1, by omega, rfl, by rw [HSi.out]; rfl, by have := Hn2.out; show Value.int .i64 (wrap64 ((i : Int) + 1)) = .int .i64 ((i + 1 : Nat) : Int); rw [w64 _ (by omega) (by omega)]; rfl, Chg.trans HNr.out (by (with_reducible repeat (first | exact Chg.refl _ _ | refine Chg.drew ?_ | refine Chg.alloc ?_ _ | refine Chg.then_new ?_ HN_F.out))) (fun _ _ h => h)⟩
    | false =>
      first
      | go_region
      | fail
      all_goals
        go_wp2_with fail
        go_roundg (m - (i + 1))
        case measure => omega
        case rel => exact ⟨i + 1, by omega, rfl, by rw [HSi.out]; rfl, by have := Hn2.out; show Value.int .i64 (wrap64 ((i : Int) + 1)) = .int .i64 ((i + 1 : Nat) : Int); rw [w64 _ (by omega) (by omega)]; rfl, Chg.trans HNr.out (by (with_reducible repeat (first | exact Chg.refl _ _ | refine Chg.drew ?_))) (fun _ _ h => h)⟩
  · obtain rfl : i = m := by omega
    generalize gB i = G at HFo ⊢
    clear H0 HS
    have cK0 : wr.cell? ⟨w.heap.size, 0, none⟩ = some (.int .i64 o) := (HK_7.out.cell 0).trans rfl
    have cK1 : wr.cell? ⟨w.heap.size, 1, none⟩ = some (.int .i64 t) := (HK_7.out.cell 1).trans rfl
    have cK2 : wr.cell? ⟨w.heap.size, 2, none⟩ = some (.int .i64 c) := (HK_7.out.cell 2).trans rfl
    have cK3 : wr.cell? ⟨w.heap.size, 3, none⟩ = some (.int .i64 v) := (HK_7.out.cell 3).trans rfl
    have lK := HK_7.out.lt
    have cX0 : wr.cell? ⟨g7, 0, none⟩ = some (.int .i64 d0) := (HX_7.out.cell 0).trans rfl
    have cX1 : wr.cell? ⟨g7, 1, none⟩ = some (.int .i64 d1) := (HX_7.out.cell 1).trans rfl
    have cX2 : wr.cell? ⟨g7, 2, none⟩ = some (.int .i64 d2) := (HX_7.out.cell 2).trans rfl
    have cX3 : wr.cell? ⟨g7, 3, none⟩ = some (.int .i64 d3) := (HX_7.out.cell 3).trans rfl
    have lX := HX_7.out.lt
    have cY0 : wr.cell? ⟨w3.heap.size, 0, none⟩ = some (.int .i64 d0) := (HY_7.out.cell 0).trans rfl
    have cY1 : wr.cell? ⟨w3.heap.size, 1, none⟩ = some (.int .i64 d1) := (HY_7.out.cell 1).trans rfl
    have cY2 : wr.cell? ⟨w3.heap.size, 2, none⟩ = some (.int .i64 d2) := (HY_7.out.cell 2).trans rfl
    have cY3 : wr.cell? ⟨w3.heap.size, 3, none⟩ = some (.int .i64 d3) := (HY_7.out.cell 3).trans rfl
    have lY := HY_7.out.lt
    have cP0 : wr.cell? ⟨w4.heap.size, 0, none⟩ = some (.int .i64 q0) := (HP_7.out.cell 0).trans rfl
    have cP1 : wr.cell? ⟨w4.heap.size, 1, none⟩ = some (.int .i64 q1) := (HP_7.out.cell 1).trans rfl
    have cP2 : wr.cell? ⟨w4.heap.size, 2, none⟩ = some (.int .i64 q2) := (HP_7.out.cell 2).trans rfl
    have cP3 : wr.cell? ⟨w4.heap.size, 3, none⟩ = some (.int .i64 q3) := (HP_7.out.cell 3).trans rfl
    have lP := HP_7.out.lt
    have cR0 : wr.cell? ⟨w5.heap.size, 0, none⟩ = some (.int .i64 q0) := (HR_7.out.cell 0).trans rfl
    have cR1 : wr.cell? ⟨w5.heap.size, 1, none⟩ = some (.int .i64 q1) := (HR_7.out.cell 1).trans rfl
    have cR2 : wr.cell? ⟨w5.heap.size, 2, none⟩ = some (.int .i64 q2) := (HR_7.out.cell 2).trans rfl
    have cR3 : wr.cell? ⟨w5.heap.size, 3, none⟩ = some (.int .i64 q3) := (HR_7.out.cell 3).trans rfl
    have lR := HR_7.out.lt
    go_upto_region 12 with (fail)
    have HK : Hid (∀ wx, New wr wx → (wx.cell? ⟨w.heap.size, 0, none⟩ = some (.int .i64 o) ∧ wx.cell? ⟨w.heap.size, 1, none⟩ = some (.int .i64 t) ∧ wx.cell? ⟨w.heap.size, 2, none⟩ = some (.int .i64 c) ∧ wx.cell? ⟨w.heap.size, 3, none⟩ = some (.int .i64 v) ∧ wx.cell? ⟨g7, 0, none⟩ = some (.int .i64 d0) ∧ wx.cell? ⟨g7, 1, none⟩ = some (.int .i64 d1) ∧ wx.cell? ⟨g7, 2, none⟩ = some (.int .i64 d2) ∧ wx.cell? ⟨g7, 3, none⟩ = some (.int .i64 d3) ∧ wx.cell? ⟨w3.heap.size, 0, none⟩ = some (.int .i64 d0) ∧ wx.cell? ⟨w3.heap.size, 1, none⟩ = some (.int .i64 d1) ∧ wx.cell? ⟨w3.heap.size, 2, none⟩ = some (.int .i64 d2) ∧ wx.cell? ⟨w3.heap.size, 3, none⟩ = some (.int .i64 d3) ∧ wx.cell? ⟨w4.heap.size, 0, none⟩ = some (.int .i64 q0) ∧ wx.cell? ⟨w4.heap.size, 1, none⟩ = some (.int .i64 q1) ∧ wx.cell? ⟨w4.heap.size, 2, none⟩ = some (.int .i64 q2) ∧ wx.cell? ⟨w4.heap.size, 3, none⟩ = some (.int .i64 q3) ∧ wx.cell? ⟨w5.heap.size, 0, none⟩ = some (.int .i64 q0) ∧ wx.cell? ⟨w5.heap.size, 1, none⟩ = some (.int .i64 q1) ∧ wx.cell? ⟨w5.heap.size, 2, none⟩ = some (.int .i64 q2) ∧ wx.cell? ⟨w5.heap.size, 3, none⟩ = some (.int .i64 q3))) := fun wx h => ⟨((HK_7.out.keep h).cell 0).trans rfl, ((HK_7.out.keep h).cell 1).trans rfl, ((HK_7.out.keep h).cell 2).trans rfl, ((HK_7.out.keep h).cell 3).trans rfl, ((HX_7.out.keep h).cell 0).trans rfl, ((HX_7.out.keep h).cell 1).trans rfl, ((HX_7.out.keep h).cell 2).trans rfl, ((HX_7.out.keep h).cell 3).trans rfl, ((HY_7.out.keep h).cell 0).trans rfl, ((HY_7.out.keep h).cell 1).trans rfl, ((HY_7.out.keep h).cell 2).trans rfl, ((HY_7.out.keep h).cell 3).trans rfl, ((HP_7.out.keep h).cell 0).trans rfl, ((HP_7.out.keep h).cell 1).trans rfl, ((HP_7.out.keep h).cell 2).trans rfl, ((HP_7.out.keep h).cell 3).trans rfl, ((HR_7.out.keep h).cell 0).trans rfl, ((HR_7.out.keep h).cell 1).trans rfl, ((HR_7.out.keep h).cell 2).trans rfl, ((HR_7.out.keep h).cell 3).trans rfl⟩
    go_region_held_law (fun wx => wx.cell? ⟨w.heap.size, 0, none⟩ = some (.int .i64 o) ∧ wx.cell? ⟨w.heap.size, 1, none⟩ = some (.int .i64 t) ∧ wx.cell? ⟨w.heap.size, 2, none⟩ = some (.int .i64 c) ∧ wx.cell? ⟨w.heap.size, 3, none⟩ = some (.int .i64 v) ∧ wx.cell? ⟨g7, 0, none⟩ = some (.int .i64 d0) ∧ wx.cell? ⟨g7, 1, none⟩ = some (.int .i64 d1) ∧ wx.cell? ⟨g7, 2, none⟩ = some (.int .i64 d2) ∧ wx.cell? ⟨g7, 3, none⟩ = some (.int .i64 d3) ∧ wx.cell? ⟨w3.heap.size, 0, none⟩ = some (.int .i64 d0) ∧ wx.cell? ⟨w3.heap.size, 1, none⟩ = some (.int .i64 d1) ∧ wx.cell? ⟨w3.heap.size, 2, none⟩ = some (.int .i64 d2) ∧ wx.cell? ⟨w3.heap.size, 3, none⟩ = some (.int .i64 d3) ∧ wx.cell? ⟨w4.heap.size, 0, none⟩ = some (.int .i64 q0) ∧ wx.cell? ⟨w4.heap.size, 1, none⟩ = some (.int .i64 q1) ∧ wx.cell? ⟨w4.heap.size, 2, none⟩ = some (.int .i64 q2) ∧ wx.cell? ⟨w4.heap.size, 3, none⟩ = some (.int .i64 q3) ∧ wx.cell? ⟨w5.heap.size, 0, none⟩ = some (.int .i64 q0) ∧ wx.cell? ⟨w5.heap.size, 1, none⟩ = some (.int .i64 q1) ∧ wx.cell? ⟨w5.heap.size, 2, none⟩ = some (.int .i64 q2) ∧ wx.cell? ⟨w5.heap.size, 3, none⟩ = some (.int .i64 q3))
      (with_reducible refine HK.out _ ?_; (with_reducible repeat (first | exact Chg.refl _ _ | refine Chg.drew ?_ | refine Chg.alloc ?_ _ | refine Chg.then_new ?_ HN_wA.out | refine Chg.then_new ?_ HN_wB.out | refine Chg.then_new ?_ HN_wC.out | refine Chg.then_new ?_ HN_wE.out | refine Chg.then_new ?_ HN_w6.out | refine Chg.then_new ?_ HN_wF.out)))
      (first
        | (go_at_call 15
           with_reducible refine (HRi.out _).mono ?_
           rintro e wA ⟨rfl, hNwA⟩
           have HN_wA := Lib.hid hNwA
           clear hNwA)
        | (go_at_call 13
           with_reducible refine (HRr.out _).mono ?_
           rintro e wB ⟨rfl, hNwB⟩
           have HN_wB := Lib.hid hNwB
           clear hNwB)
        | (go_at_call 16
           with_reducible refine (HLe.out _).mono ?_
           rintro e wC ⟨rfl, hNwC⟩
           have HN_wC := Lib.hid hNwC
           clear hNwC)
        | (go_at_call 17
           with_reducible refine (HLr.out _).mono ?_
           rintro e wE ⟨rfl, hNwE⟩
           have HN_wE := Lib.hid hNwE
           clear hNwE)
        | (go_at_call 18
           with_reducible refine (HFo.out 0 _ _ _ ?hH).mono ?_
           case hH => (with_reducible refine own_new HO6.out ?_; (with_reducible repeat (first | exact Chg.refl _ _ | refine Chg.drew ?_ | refine Chg.alloc ?_ _)))
           rintro e wF ⟨rfl, hNwF⟩
           have HN_wF := Lib.hid hNwF
           clear hNwF)
        | (refine step_copy_keys (by kernel_rfl) (.tmp 94) (.tmp 95) rfl 0 wC.heap.size (by simp [Act.eval]) ?hh (Nat.zero_le _) A2 _ cm f (fun b => b < w.heap.size) (by simp [Act.eval]) ?hA Hnil2.out (by have := Hn2.out; omega) ?_
           case hh => (with_reducible repeat (first | exact Has.new_at _ _ _ _ rfl | exact Has.new_at _ _ _ _ (World.size_alloc _ _) | refine Has.drew ?_ | refine Has.alloc ?_ _))
           case hA => (refine HK2.out.new ?_ (fun _ h => h); with_reducible refine Chg.then_new HN_7.out ?_; (with_reducible repeat (first | exact Chg.refl _ _ | refine Chg.drew ?_ | refine Chg.alloc ?_ _ | refine Chg.then_new ?_ HN_wA.out | refine Chg.then_new ?_ HN_wB.out | refine Chg.then_new ?_ HN_wC.out | refine Chg.then_new ?_ HN_wE.out)))
           intro A6 c6 w6x hO6 hC6
           have hz : wr.heap.size ≤ wC.heap.size := (show New wr wC by (with_reducible repeat (first | exact Chg.refl _ _ | refine Chg.drew ?_ | refine Chg.alloc ?_ _ | refine Chg.then_new ?_ HN_wA.out | refine Chg.then_new ?_ HN_wB.out | refine Chg.then_new ?_ HN_wC.out | refine Chg.then_new ?_ HN_wE.out))).size
           have HO6 := Lib.hid hO6
           have HN_w6 := Lib.hid (show New wr w6x by refine Chg.trans (T := fun k => k = wC.heap.size) ?_ hC6 (fun i hi hk => by have hk' : i = wC.heap.size := hk; omega); (with_reducible repeat (first | exact Chg.refl _ _ | refine Chg.drew ?_ | refine Chg.alloc ?_ _ | refine Chg.then_new ?_ HN_wA.out | refine Chg.then_new ?_ HN_wB.out | refine Chg.then_new ?_ HN_wC.out | refine Chg.then_new ?_ HN_wE.out)))
           clear hO6 hC6 hz)
        | (refine step_copy_keys (by kernel_rfl) (.tmp 94) (.tmp 95) rfl 0 wE.heap.size (by simp [Act.eval]) ?hh (Nat.zero_le _) A2 _ cm f (fun b => b < w.heap.size) (by simp [Act.eval]) ?hA Hnil2.out (by have := Hn2.out; omega) ?_
           case hh => (with_reducible repeat (first | exact Has.new_at _ _ _ _ rfl | exact Has.new_at _ _ _ _ (World.size_alloc _ _) | refine Has.drew ?_ | refine Has.alloc ?_ _))
           case hA => (refine HK2.out.new ?_ (fun _ h => h); with_reducible refine Chg.then_new HN_7.out ?_; (with_reducible repeat (first | exact Chg.refl _ _ | refine Chg.drew ?_ | refine Chg.alloc ?_ _ | refine Chg.then_new ?_ HN_wA.out | refine Chg.then_new ?_ HN_wB.out | refine Chg.then_new ?_ HN_wC.out | refine Chg.then_new ?_ HN_wE.out)))
           intro A6 c6 w6x hO6 hC6
           have hz : wr.heap.size ≤ wE.heap.size := (show New wr wE by (with_reducible repeat (first | exact Chg.refl _ _ | refine Chg.drew ?_ | refine Chg.alloc ?_ _ | refine Chg.then_new ?_ HN_wA.out | refine Chg.then_new ?_ HN_wB.out | refine Chg.then_new ?_ HN_wC.out | refine Chg.then_new ?_ HN_wE.out))).size
           have HO6 := Lib.hid hO6
           have HN_w6 := Lib.hid (show New wr w6x by refine Chg.trans (T := fun k => k = wE.heap.size) ?_ hC6 (fun i hi hk => by have hk' : i = wE.heap.size := hk; omega); (with_reducible repeat (first | exact Chg.refl _ _ | refine Chg.drew ?_ | refine Chg.alloc ?_ _ | refine Chg.then_new ?_ HN_wA.out | refine Chg.then_new ?_ HN_wB.out | refine Chg.then_new ?_ HN_wC.out | refine Chg.then_new ?_ HN_wE.out)))
           clear hO6 hC6 hz))
    all_goals
      go_wp2_with fail
      go_ret
      exact ⟨rfl, Chg.trans HN_7.out (by (with_reducible repeat (first | exact Chg.refl _ _ | refine Chg.drew ?_ | refine Chg.alloc ?_ _ | refine Chg.then_new ?_ HN_wA.out | refine Chg.then_new ?_ HN_wB.out | refine Chg.then_new ?_ HN_wC.out | refine Chg.then_new ?_ HN_wE.out | refine Chg.then_new ?_ HN_w6.out | refine Chg.then_new ?_ HN_wF.out))) (fun _ _ h => h)⟩
end Go.Proofs.Ytkegafkmcdkphaa
