/-
  The law KeysDown, walked.
-/
import Derived.Test.YtkegafkmcdkphaaKyV
import Derived.Deep.RegionHeldLaw
namespace Go.Proofs.Ytkegafkmcdkphaa
open Go.RowKit
theorem Derive_one (k : Ky) (g m : Nat) (y : Int) (w : World) (h : Has w g 3 #[.int .i64 y]) :
    Calls Try.prog 9 #[k.V, .slice (some ⟨g, 0, none⟩) 1 m] w fun e w' => e = .returned (.tuple #[(derK k 1 (fun _ => y)).V, .int .i64 (derE k 1 (fun _ => y))]) ∧ New w w' :=
  Derive_any k _ 1 m (fun _ => y) (· = g) w (fun i hi => ⟨⟨g, 0, none⟩, rfl, rfl, by rw [show i = 0 by omega]; exact (h.cell 0).trans rfl⟩) (fun j hj => by rw [hj]; exact h.lt) (by omega)
theorem From_onek (k a : Ky) (g m : Nat) (w : World) (h : Has w g 23 #[.int .i64 a.o, .int .i64 a.t, .int .i64 a.c, .int .i64 a.v]) :
    Calls Try.prog 18 #[k.V, .slice (some ⟨g, 0, none⟩) 1 m] w fun e w' => e = .returned (.bool (fromB k a)) ∧ New w w' := by
  have hh := From_any k _ 1 m _ _ w (Kys.one (k := a) h) (fun x hx => by rw [hx]; exact h.lt) (by omega)
  rw [frB_one] at hh
  exact hh
theorem own_one {w : World} {base g : Nat} (hb : base ≤ w.heap.size) (hg : w.heap.size = g) (f : Nat → Ky) (o t c v : Int) (hf : f 0 = ⟨o, t, c, v⟩) : (w.alloc (.cells #[.int .i64 o, .int .i64 t, .int .i64 c, .int .i64 v] 23)).ownsRow base 23 4 (.slice (some ⟨g, 0, none⟩) 1 1) 1 (kcells f 1) := by
  subst hg
  refine ⟨by simp [kcells, kc], .inr ⟨w.heap.size, 1, #[.int .i64 o, .int .i64 t, .int .i64 c, .int .i64 v], rfl, hb, heap_alloc_new w _, Nat.le_refl _, by simp [maxLen], rfl, ?_⟩⟩
  simp [kcells, kc, hf]
theorem own_keys {w : World} {base n c : Nat} {B : Option Addr} {f : Nat → Ky} (h : w.ownsRow base 23 4 (.slice B n c) n (kcells f n)) (hn : 0 < n) :
    ∃ g, B = some ⟨g, 0, none⟩ ∧ ∀ i r, i < n → r < 4 → w.cell? ⟨g, i * 4 + r, none⟩ = (kc (f i))[r]? := by
  rcases h.2 with ⟨hv, h0⟩ | ⟨g, cap, cur, hv, _⟩
  · omega
  · simp only [Value.slice.injEq] at hv
    obtain ⟨rfl, _, rfl⟩ := hv
    exact ⟨g, rfl, fun i r hi hr => by rw [h.cellAt (i * 4 + r) (by omega)]; exact kcells_get f n i r hi hr⟩
set_option maxRecDepth 100000 in
set_option maxHeartbeats 4000000 in
theorem down_walk (r : Ky) (_hr : I64 r.o ∧ I64 r.t ∧ I64 r.c ∧ I64 r.v) (A : Option Addr) (n cc : Nat) {w : World} (z : (∃ xs : List Int, xs.length = n ∧ Arr w (· < w.heap.size) A n (fun i => iV (xs.getD i 0)) ∧ (∀ x ∈ xs, I64 x) ∧ n ≤ cc ∧ cc ≤ maxLen ∧ (A = none → n = 0 ∧ cc = 0)) ∧ n ≤ 17592186043904) :
    Calls Try.prog 5 #[r.V, .slice A n cc] w fun e w' => e = .returned (.bool true) ∧ New w w' := by
  clear _hr
  obtain ⟨⟨xs, _, hA, _, _, _, _⟩, hn⟩ := z
  obtain ⟨p, hp⟩ : ∃ p : Nat → Int, p = fun i => xs.getD i 0 := ⟨_, rfl⟩
  have HA : Hid (Arr w (· < w.heap.size) A n (fun i => iV (p i))) := by rw [hp]; exact hA
  have HDe0 : Hid (∀ wx, New w wx → Calls Try.prog 9 #[r.V, .slice A n cc] wx fun e' w' => e' = .returned (.tuple #[(derK r n p).V, .int .i64 (derE r n p)]) ∧ New wx w') := fun wx h => Derive_any r A n cc p (· < w.heap.size) wx (HA.out.new h (fun _ h => h)) (fun j hj => Nat.lt_of_lt_of_le hj h.size) (by omega)
  clear hA hp hn
  by_cases he : derE r n p = 0
  · have HD := Lib.hid (down_of he)
    rw [he, HD.out.top] at HDe0
    have HLr0 := Lib.hid (Level_any r)
    obtain ⟨⟨d0, d1, d2, d3⟩, hd⟩ : ∃ d, d = dw r p n := ⟨_, rfl⟩
    rw [← hd] at HDe0
    have Hd := Lib.hid hd
    clear he hd
    obtain ⟨⟨o, t, c, v⟩, hr⟩ : ∃ k, k = r := ⟨_, rfl⟩
    have Hr := Lib.hid hr
    have HDe : Hid (∀ wx, New w wx → Calls Try.prog 9 #[.agg #[.int .i64 o, .int .i64 t, .int .i64 c, .int .i64 v], .slice A n cc] wx fun e' w' => e' = .returned (.tuple #[.agg #[.int .i64 d0, .int .i64 d1, .int .i64 d2, .int .i64 d3], .int .i64 0]) ∧ New wx w') := by have hh := HDe0.out; rw [← hr] at hh; exact hh
    have HLr : Hid (∀ wx, Calls Try.prog 16 #[.agg #[.int .i64 o, .int .i64 t, .int .i64 c, .int .i64 v]] wx fun e w' => e = .returned (.int .i64 (levI r)) ∧ New wx w') := fun wx => by have hh := HLr0.out wx; rw [← hr] at hh ⊢; exact hh
    rw [← hr]
    change Calls Try.prog 5 #[.agg #[.int .i64 o, .int .i64 t, .int .i64 c, .int .i64 v], .slice A n cc] w _
    clear HDe0 HLr0 hr
    go_enter Try.func5, Try.ntmps5
    go_wp2_with fail
    with_reducible refine (awake_any _).mono ?_
    rintro e w1 ⟨rfl, hN⟩
    have HT_1 := Lib.hid ((Has.new_at w 23 #[.int .i64 o, .int .i64 t, .int .i64 c, .int .i64 v] (w.heap.size) (by simp)).keep hN)
    have HN_1 := Lib.hid (((Chg.refl (fun _ => False) w).alloc (.cells #[.int .i64 o, .int .i64 t, .int .i64 c, .int .i64 v] 23)).then_new hN)
    clear hN
    have cT0 : w1.cell? ⟨w.heap.size, 0, none⟩ = some (.int .i64 o) := (HT_1.out.cell 0).trans rfl
    have cT1 : w1.cell? ⟨w.heap.size, 1, none⟩ = some (.int .i64 t) := (HT_1.out.cell 1).trans rfl
    have cT2 : w1.cell? ⟨w.heap.size, 2, none⟩ = some (.int .i64 c) := (HT_1.out.cell 2).trans rfl
    have cT3 : w1.cell? ⟨w.heap.size, 3, none⟩ = some (.int .i64 v) := (HT_1.out.cell 3).trans rfl
    have lT := HT_1.out.lt
    go_wp2_with fail
    with_reducible refine (HDe.out _ HN_1.out).mono ?_
    rintro e w2 ⟨rfl, hN⟩
    have HT_2 := Lib.hid (HT_1.out.keep hN)
    have HN_2 := Lib.hid (HN_1.out.then_new hN)
    clear HT_1 HN_1 cT0 cT1 cT2 cT3 lT hN
    have cT0 : w2.cell? ⟨w.heap.size, 0, none⟩ = some (.int .i64 o) := (HT_2.out.cell 0).trans rfl
    have cT1 : w2.cell? ⟨w.heap.size, 1, none⟩ = some (.int .i64 t) := (HT_2.out.cell 1).trans rfl
    have cT2 : w2.cell? ⟨w.heap.size, 2, none⟩ = some (.int .i64 c) := (HT_2.out.cell 2).trans rfl
    have cT3 : w2.cell? ⟨w.heap.size, 3, none⟩ = some (.int .i64 v) := (HT_2.out.cell 3).trans rfl
    have lT := HT_2.out.lt
    clear HDe
    go_upto_region 6 with (fail)
    obtain ⟨w3, hw3⟩ : ∃ w3, w3 = (w2.alloc (.cells #[.int .i64 d0, .int .i64 d1, .int .i64 d2, .int .i64 d3] 23)) := ⟨_, rfl⟩
    have hN : New (w2.alloc (.cells #[.int .i64 d0, .int .i64 d1, .int .i64 d2, .int .i64 d3] 23)) w3 := by rw [hw3]; exact Chg.refl _ _
    rw [← hw3]
    clear hw3
    have HT_3 := Lib.hid ((HT_2.out.alloc (.cells #[.int .i64 d0, .int .i64 d1, .int .i64 d2, .int .i64 d3] 23)).keep hN)
    have HD_3 := Lib.hid ((Has.new_at w2 23 #[.int .i64 d0, .int .i64 d1, .int .i64 d2, .int .i64 d3] (w2.heap.size) (by simp)).keep hN)
    have HN_3 := Lib.hid ((HN_2.out.alloc (.cells #[.int .i64 d0, .int .i64 d1, .int .i64 d2, .int .i64 d3] 23)).then_new hN)
    clear HT_2 HN_2 cT0 cT1 cT2 cT3 lT hN
    have cT0 : w3.cell? ⟨w.heap.size, 0, none⟩ = some (.int .i64 o) := (HT_3.out.cell 0).trans rfl
    have cT1 : w3.cell? ⟨w.heap.size, 1, none⟩ = some (.int .i64 t) := (HT_3.out.cell 1).trans rfl
    have cT2 : w3.cell? ⟨w.heap.size, 2, none⟩ = some (.int .i64 c) := (HT_3.out.cell 2).trans rfl
    have cT3 : w3.cell? ⟨w.heap.size, 3, none⟩ = some (.int .i64 v) := (HT_3.out.cell 3).trans rfl
    have lT := HT_3.out.lt
    have cD0 : w3.cell? ⟨w2.heap.size, 0, none⟩ = some (.int .i64 d0) := (HD_3.out.cell 0).trans rfl
    have cD1 : w3.cell? ⟨w2.heap.size, 1, none⟩ = some (.int .i64 d1) := (HD_3.out.cell 1).trans rfl
    have cD2 : w3.cell? ⟨w2.heap.size, 2, none⟩ = some (.int .i64 d2) := (HD_3.out.cell 2).trans rfl
    have cD3 : w3.cell? ⟨w2.heap.size, 3, none⟩ = some (.int .i64 d3) := (HD_3.out.cell 3).trans rfl
    have lD := HD_3.out.lt
    go_wp2_with fail
    clear cT0 cT1 cT2 cT3 lT cD0 cD1 cD2 cD3 lD
    go_loopg [8, 9] n (fun gk s8 s9 wr => ∃ (i : Nat) (B : Option Addr) (cB : Nat) (x : Ky), i ≤ n ∧ gk = n - i ∧ s8 = .slice B (i + 1) cB ∧ s9 = .int .i64 i ∧ x = dw r p i ∧ Has wr w3.heap.size 23 #[.int .i64 x.o, .int .i64 x.t, .int .i64 x.c, .int .i64 x.v] ∧ wr.ownsRow (w3.heap.size + 1) 23 4 (.slice B (i + 1) cB) (i + 1) (kcells (dw r p) (i + 1)) ∧ New w3 wr)
    case atStart =>
      refine ⟨0, _, _, ⟨o, t, c, v⟩, by omega, by omega, rfl, rfl, by rw [dw_zero]; exact Hr.out, (Has.new w3 23 _).alloc _, ?_, ((Chg.refl _ _).alloc _).alloc _⟩
      exact own_one (w := w3.alloc (.cells #[.int .i64 o, .int .i64 t, .int .i64 c, .int .i64 v] 23)) (base := w3.heap.size + 1) (g := w3.heap.size + 1) (by simp) (by simp) (dw r p) o t c v (by rw [dw_zero]; exact Hr.out.symm)
    case round =>
    obtain ⟨i, B, cB, ⟨x0, x1, x2, x3⟩, hi, rfl, rfl, rfl, hx, hS, hO, hN⟩ := hrel
    have HNr := Lib.hid hN
    have HT_4 := Lib.hid (HT_3.out.keep hN)
    have HD_4 := Lib.hid (HD_3.out.keep hN)
    have HN_4 := Lib.hid (HN_3.out.then_new hN)
    clear HT_3 HD_3 HN_3 hN
    have HO := Lib.hid hO
    have HS := Lib.hid hS
    clear hO hS
    simp only at HS
    by_cases hlt : i < n
    · obtain ⟨a, ha, hab, hc⟩ := HA.out i hlt
      subst ha
      have hst := HD.out.step i hlt
      obtain ⟨y, hy⟩ : ∃ y, y = p i := ⟨_, rfl⟩
      have hc1 : w.cell? (a.add i) = some (.int .i64 y) := by rw [hy]; exact hc
      have hDi := fun g m wx => Derive_one (dw r p i) g m y wx
      have hfe : (fun _ : Nat => p i) = (fun _ => y) := by rw [hy]
      rw [hfe] at hst
      rw [hst.1, hst.2, ← hx] at hDi
      obtain ⟨⟨n0, n1, n2, n3⟩, hn⟩ : ∃ z, z = dw r p (i + 1) := ⟨_, rfl⟩
      rw [← hn] at hDi
      have HDi : Hid (∀ (g m : Nat) (wx : World), Has wx g 3 #[.int .i64 y] → Calls Try.prog 9 #[.agg #[.int .i64 x0, .int .i64 x1, .int .i64 x2, .int .i64 x3], .slice (some ⟨g, 0, none⟩) 1 m] wx fun e w' => e = .returned (.tuple #[.agg #[.int .i64 n0, .int .i64 n1, .int .i64 n2, .int .i64 n3], .int .i64 0]) ∧ New wx w') := hDi
      have HNx := Lib.hid hn
      have HCa : Hid (∀ wx, New wr wx → wx.cell? (a.add i) = some (.int .i64 y)) := fun wx h => ((HN_4.out.then_new h).cell (by rw [add_block]; exact hab) (fun f => f)).trans hc1
      have hcr := HCa.out wr (Chg.refl _ _)
      have har : a.block < wr.heap.size := Nat.lt_of_lt_of_le hab HN_4.out.size
      clear hDi hst hy hfe hn hc hc1 hab
      have cT0 : wr.cell? ⟨w.heap.size, 0, none⟩ = some (.int .i64 o) := (HT_4.out.cell 0).trans rfl
      have cT1 : wr.cell? ⟨w.heap.size, 1, none⟩ = some (.int .i64 t) := (HT_4.out.cell 1).trans rfl
      have cT2 : wr.cell? ⟨w.heap.size, 2, none⟩ = some (.int .i64 c) := (HT_4.out.cell 2).trans rfl
      have cT3 : wr.cell? ⟨w.heap.size, 3, none⟩ = some (.int .i64 v) := (HT_4.out.cell 3).trans rfl
      have lT := HT_4.out.lt
      have cD0 : wr.cell? ⟨w2.heap.size, 0, none⟩ = some (.int .i64 d0) := (HD_4.out.cell 0).trans rfl
      have cD1 : wr.cell? ⟨w2.heap.size, 1, none⟩ = some (.int .i64 d1) := (HD_4.out.cell 1).trans rfl
      have cD2 : wr.cell? ⟨w2.heap.size, 2, none⟩ = some (.int .i64 d2) := (HD_4.out.cell 2).trans rfl
      have cD3 : wr.cell? ⟨w2.heap.size, 3, none⟩ = some (.int .i64 d3) := (HD_4.out.cell 3).trans rfl
      have lD := HD_4.out.lt
      have cS0 : wr.cell? ⟨w3.heap.size, 0, none⟩ = some (.int .i64 x0) := (HS.out.cell 0).trans rfl
      have cS1 : wr.cell? ⟨w3.heap.size, 1, none⟩ = some (.int .i64 x1) := (HS.out.cell 1).trans rfl
      have cS2 : wr.cell? ⟨w3.heap.size, 2, none⟩ = some (.int .i64 x2) := (HS.out.cell 2).trans rfl
      have cS3 : wr.cell? ⟨w3.heap.size, 3, none⟩ = some (.int .i64 x3) := (HS.out.cell 3).trans rfl
      have lS := HS.out.lt
      go_upto_region 11 with (fail)
      go_cut [10, 11] (fun s10 s11 wx => ∃ g, s10 = .pointer (some ⟨g, 0, none⟩) ∧ s11 = .int .i64 0 ∧ Has wx g 23 #[.int .i64 n0, .int .i64 n1, .int .i64 n2, .int .i64 n3] ∧ New wr wx)
      case first =>
        have HK : Hid (∀ wx, New wr wx → (wx.cell? ⟨w3.heap.size, 0, none⟩ = some (.int .i64 x0) ∧ wx.cell? ⟨w3.heap.size, 1, none⟩ = some (.int .i64 x1) ∧ wx.cell? ⟨w3.heap.size, 2, none⟩ = some (.int .i64 x2) ∧ wx.cell? ⟨w3.heap.size, 3, none⟩ = some (.int .i64 x3) ∧ wx.cell? (a.add i) = some (.int .i64 y))) := fun wx h => ⟨((HS.out.keep h).cell 0).trans rfl, ((HS.out.keep h).cell 1).trans rfl, ((HS.out.keep h).cell 2).trans rfl, ((HS.out.keep h).cell 3).trans rfl, HCa.out _ h⟩
        go_region_held_law (fun wx => wx.cell? ⟨w3.heap.size, 0, none⟩ = some (.int .i64 x0) ∧ wx.cell? ⟨w3.heap.size, 1, none⟩ = some (.int .i64 x1) ∧ wx.cell? ⟨w3.heap.size, 2, none⟩ = some (.int .i64 x2) ∧ wx.cell? ⟨w3.heap.size, 3, none⟩ = some (.int .i64 x3) ∧ wx.cell? (a.add i) = some (.int .i64 y))
          (with_reducible refine HK.out _ ?_; (with_reducible repeat (first | refine Chg.setCell ?_ (fun hh => by dsimp only at hh; first | omega | (have := SD.out; omega)) _ | exact Chg.refl _ _ | refine Chg.drew ?_ | refine Chg.alloc ?_ _ | refine Chg.then_new ?_ HN_wD.out)))
          (first
            | (go_at_call 9
               with_reducible refine (HDi.out _ _ _ ?hH).mono ?_
               case hH => (with_reducible repeat (first | exact Has.new_at _ _ _ _ rfl | exact Has.new_at _ _ _ _ (World.size_alloc _ _) | refine Has.drew ?_ | refine Has.alloc ?_ _))
               rintro e wD ⟨rfl, hNwD⟩
               try
                 have hHXD : Has wD (wr.heap.size) 23 #[.int .i64 0, .int .i64 0, .int .i64 0, .int .i64 0] := by (refine Has.keep ?_ hNwD; (with_reducible repeat (first | exact Has.new_at _ _ _ _ rfl | exact Has.new_at _ _ _ _ (World.size_alloc _ _) | refine Has.drew ?_ | refine Has.alloc ?_ _)))
                 have xdz0 := hHXD.free 0
                 have xdc0 := (hHXD.cell 0).trans rfl
                 have xdz1 := hHXD.free 1
                 have xdc1 := (hHXD.cell 1).trans rfl
                 have xdz2 := hHXD.free 2
                 have xdc2 := (hHXD.cell 2).trans rfl
                 have xdz3 := hHXD.free 3
                 have xdc3 := (hHXD.cell 3).trans rfl
                 have xdl := hHXD.lt
                 have HXD := Lib.hid hHXD
                 clear hHXD
               try
                 have hHXD : Has wD (wr.heap.size + 1) 23 #[.int .i64 0, .int .i64 0, .int .i64 0, .int .i64 0] := by (refine Has.keep ?_ hNwD; (with_reducible repeat (first | exact Has.new_at _ _ _ _ rfl | exact Has.new_at _ _ _ _ (World.size_alloc _ _) | refine Has.drew ?_ | refine Has.alloc ?_ _)))
                 have xdz0 := hHXD.free 0
                 have xdc0 := (hHXD.cell 0).trans rfl
                 have xdz1 := hHXD.free 1
                 have xdc1 := (hHXD.cell 1).trans rfl
                 have xdz2 := hHXD.free 2
                 have xdc2 := (hHXD.cell 2).trans rfl
                 have xdz3 := hHXD.free 3
                 have xdc3 := (hHXD.cell 3).trans rfl
                 have xdl := hHXD.lt
                 have HXD := Lib.hid hHXD
                 clear hHXD
               have SD := Lib.hid (show wr.heap.size ≤ wD.heap.size by have := hNwD.size; (try simp at this); omega)
               have HN_wD := Lib.hid hNwD
               clear hNwD))
        all_goals
          go_wp2_with fail
          go_meet
          case rel =>
            with_reducible refine ⟨_, rfl, rfl, ?_⟩
            first
            | (with_reducible refine ⟨Has.new_at _ _ _ _ rfl, ?_⟩
               (with_reducible repeat (first | exact Chg.refl _ _ | refine Chg.drew ?_ | refine Chg.alloc ?_ _ | refine Chg.then_new ?_ HN_wD.out)))
            | (with_reducible refine box_set ?_ ?_ ?_
               · (with_reducible repeat (first | exact Has.new_at _ _ _ _ rfl | exact HXD.out | refine Has.drew ?_ | refine Has.alloc ?_ _))
               · (with_reducible repeat (first | exact Chg.refl _ _ | refine Chg.drew ?_ | refine Chg.alloc ?_ _ | refine Chg.then_new ?_ HN_wD.out))
               · first | omega | (have := SD.out; omega))
      case rest =>
      obtain ⟨g10, rfl, rfl, hY, hN⟩ := hcut
      obtain ⟨w5, rfl⟩ : ∃ w5, w5 = wc := ⟨_, rfl⟩
      clear hcr HCa HDi har
      have HO5 := Lib.hid (own_new HO.out hN)
      have HNr5 := Lib.hid (HNr.out.then_new hN)
      clear HNr
      have HT_5 := Lib.hid (HT_4.out.keep hN)
      have HD_5 := Lib.hid (HD_4.out.keep hN)
      have HS_5 := Lib.hid (HS.out.keep hN)
      have HN_5 := Lib.hid (HN_4.out.then_new hN)
      clear HT_4 HD_4 HS HN_4 cT0 cT1 cT2 cT3 lT cD0 cD1 cD2 cD3 lD cS0 cS1 cS2 cS3 lS hN
      have HY := Lib.hid hY
      clear hY HO
      have cT0 : w5.cell? ⟨w.heap.size, 0, none⟩ = some (.int .i64 o) := (HT_5.out.cell 0).trans rfl
      have cT1 : w5.cell? ⟨w.heap.size, 1, none⟩ = some (.int .i64 t) := (HT_5.out.cell 1).trans rfl
      have cT2 : w5.cell? ⟨w.heap.size, 2, none⟩ = some (.int .i64 c) := (HT_5.out.cell 2).trans rfl
      have cT3 : w5.cell? ⟨w.heap.size, 3, none⟩ = some (.int .i64 v) := (HT_5.out.cell 3).trans rfl
      have lT := HT_5.out.lt
      have cD0 : w5.cell? ⟨w2.heap.size, 0, none⟩ = some (.int .i64 d0) := (HD_5.out.cell 0).trans rfl
      have cD1 : w5.cell? ⟨w2.heap.size, 1, none⟩ = some (.int .i64 d1) := (HD_5.out.cell 1).trans rfl
      have cD2 : w5.cell? ⟨w2.heap.size, 2, none⟩ = some (.int .i64 d2) := (HD_5.out.cell 2).trans rfl
      have cD3 : w5.cell? ⟨w2.heap.size, 3, none⟩ = some (.int .i64 d3) := (HD_5.out.cell 3).trans rfl
      have lD := HD_5.out.lt
      have cS0 : w5.cell? ⟨w3.heap.size, 0, none⟩ = some (.int .i64 x0) := (HS_5.out.cell 0).trans rfl
      have cS1 : w5.cell? ⟨w3.heap.size, 1, none⟩ = some (.int .i64 x1) := (HS_5.out.cell 1).trans rfl
      have cS2 : w5.cell? ⟨w3.heap.size, 2, none⟩ = some (.int .i64 x2) := (HS_5.out.cell 2).trans rfl
      have cS3 : w5.cell? ⟨w3.heap.size, 3, none⟩ = some (.int .i64 x3) := (HS_5.out.cell 3).trans rfl
      have lS := HS_5.out.lt
      have cY0 : w5.cell? ⟨g10, 0, none⟩ = some (.int .i64 n0) := (HY.out.cell 0).trans rfl
      have cY1 : w5.cell? ⟨g10, 1, none⟩ = some (.int .i64 n1) := (HY.out.cell 1).trans rfl
      have cY2 : w5.cell? ⟨g10, 2, none⟩ = some (.int .i64 n2) := (HY.out.cell 2).trans rfl
      have cY3 : w5.cell? ⟨g10, 3, none⟩ = some (.int .i64 n3) := (HY.out.cell 3).trans rfl
      have lY := HY.out.lt
      have z0 := HS_5.out.free 0
      have z1 := HS_5.out.free 1
      have z2 := HS_5.out.free 2
      have z3 := HS_5.out.free 3
      go_upto_region 15 with (fail)
      obtain ⟨hX2, hG2⟩ := setK HS_5.out (.int .i64 n0) (.int .i64 n1) (.int .i64 n2) (.int .i64 n3)
      generalize ((((w5.setCell ⟨w3.heap.size, 0, none⟩ (.int .i64 n0)).setCell ⟨w3.heap.size, 1, none⟩ (.int .i64 n1)).setCell ⟨w3.heap.size, 2, none⟩ (.int .i64 n2)).setCell ⟨w3.heap.size, 3, none⟩ (.int .i64 n3)) = w6 at hX2 hG2 ⊢
      clear cT0 cT1 cT2 cT3 lT cD0 cD1 cD2 cD3 lD cS0 cS1 cS2 cS3 lS cY0 cY1 cY2 cY3 lY z0 z1 z2 z3
      have HO6 := Lib.hid (own_chg HO5.out hG2 (fun k hk e => by have := (HO5.out.lt k hk).1; omega))
      have HN6 := Lib.hid (New.set HNr5.out hG2 (Nat.le_refl _))
      have HX6 := Lib.hid hX2
      clear hX2 hG2
      have hb6 : w3.heap.size < w6.heap.size := HX6.out.lt
      have q0 : w6.cell? ⟨w3.heap.size, 0, none⟩ = some (.int .i64 n0) := (HX6.out.cell 0).trans rfl
      have q1 : w6.cell? ⟨w3.heap.size, 1, none⟩ = some (.int .i64 n1) := (HX6.out.cell 1).trans rfl
      have q2 : w6.cell? ⟨w3.heap.size, 2, none⟩ = some (.int .i64 n2) := (HX6.out.cell 2).trans rfl
      have q3 : w6.cell? ⟨w3.heap.size, 3, none⟩ = some (.int .i64 n3) := (HX6.out.cell 3).trans rfl
      go_wp2_with (first | (at_builtin; refine wpList_push_key rfl (w3.heap.size + 1) (by omega) _ _ rfl (.slice B (i + 1) cB) (i + 1) (dw r p) rfl HO6.out n0 n1 n2 n3 HNx.out.symm rfl (by have := HD.out.n3; omega) ?_; intro B2 c2 w7 hO7 hC7; have HO7 := Lib.hid hO7; have HC7 := Lib.hid hC7; clear hO7 hC7) | fail)
      go_roundg (n - (i + 1))
      case measure => omega
      case rel =>
        refine ⟨i + 1, B2, c2, ⟨n0, n1, n2, n3⟩, by omega, rfl, rfl, ?_, HNx.out, HX6.out.chg HC7.out (fun hk => by have := (HO6.out.lt _ hk).1; omega), HO7.out, HN6.out.trans HC7.out (fun j hj hk => by have := (HO6.out.lt _ hk).1; omega)⟩
        have := HD.out.n3
        show Value.int .i64 (wrap64 ((i : Int) + 1)) = .int .i64 ((i + 1 : Nat) : Int)
        rw [w64 _ (by omega) (by omega)]
        rfl
    · obtain rfl : i = n := by omega
      obtain ⟨rfl, rfl, rfl, rfl⟩ : x0 = d0 ∧ x1 = d1 ∧ x2 = d2 ∧ x3 = d3 := by have hh := hx.trans Hd.out.symm; simpa using hh
      have HFa : Hid (∀ base A c wx, wx.ownsRow base 23 4 (.slice A (i + 1) c) (i + 1) (kcells (dw r p) (i + 1)) → Calls Try.prog 18 #[.agg #[.int .i64 x0, .int .i64 x1, .int .i64 x2, .int .i64 x3], .slice A (i + 1) c] wx fun e w' => e = .returned (.bool true) ∧ New wx w') := fun base A c wx h => by
        have hh := From_any (dw r p i) A (i + 1) c (dw r p) _ wx (Kys.of_own h) (own_below h) (by have := HD.out.n3; omega)
        rw [HD.out.all, ← hx] at hh
        exact hh
      have hL := Level_any (dw r p i)
      rw [HD.out.lev, ← hx] at hL
      have HLd : Hid (∀ wx, Calls Try.prog 16 #[.agg #[.int .i64 x0, .int .i64 x1, .int .i64 x2, .int .i64 x3]] wx fun e w' => e = .returned (.int .i64 (levI r + (i : Int))) ∧ New wx w') := hL
      clear hL
      have hw := IntWalk.i64_in (levI r + (i : Int)) (by have := levI_range r; have := HD.out.n3; omega)
      obtain ⟨L, hLL⟩ : ∃ L, levI r + (i : Int) = L := ⟨_, rfl⟩
      rw [hLL] at HLd
      obtain ⟨l0, hl0⟩ : ∃ l0, levI r = l0 := ⟨_, rfl⟩
      rw [hl0] at HLr hw hLL
      have hw1 : IntKind.i64.wrap (l0 + (i : Int)) = L := hw.trans hLL
      clear hw hLL hl0 hi hlt
      have cT0 : wr.cell? ⟨w.heap.size, 0, none⟩ = some (.int .i64 o) := (HT_4.out.cell 0).trans rfl
      have cT1 : wr.cell? ⟨w.heap.size, 1, none⟩ = some (.int .i64 t) := (HT_4.out.cell 1).trans rfl
      have cT2 : wr.cell? ⟨w.heap.size, 2, none⟩ = some (.int .i64 c) := (HT_4.out.cell 2).trans rfl
      have cT3 : wr.cell? ⟨w.heap.size, 3, none⟩ = some (.int .i64 v) := (HT_4.out.cell 3).trans rfl
      have lT := HT_4.out.lt
      have cD0 : wr.cell? ⟨w2.heap.size, 0, none⟩ = some (.int .i64 x0) := (HD_4.out.cell 0).trans rfl
      have cD1 : wr.cell? ⟨w2.heap.size, 1, none⟩ = some (.int .i64 x1) := (HD_4.out.cell 1).trans rfl
      have cD2 : wr.cell? ⟨w2.heap.size, 2, none⟩ = some (.int .i64 x2) := (HD_4.out.cell 2).trans rfl
      have cD3 : wr.cell? ⟨w2.heap.size, 3, none⟩ = some (.int .i64 x3) := (HD_4.out.cell 3).trans rfl
      have lD := HD_4.out.lt
      have cS0 : wr.cell? ⟨w3.heap.size, 0, none⟩ = some (.int .i64 x0) := (HS.out.cell 0).trans rfl
      have cS1 : wr.cell? ⟨w3.heap.size, 1, none⟩ = some (.int .i64 x1) := (HS.out.cell 1).trans rfl
      have cS2 : wr.cell? ⟨w3.heap.size, 2, none⟩ = some (.int .i64 x2) := (HS.out.cell 2).trans rfl
      have cS3 : wr.cell? ⟨w3.heap.size, 3, none⟩ = some (.int .i64 x3) := (HS.out.cell 3).trans rfl
      have lS := HS.out.lt
      go_upto_region 16 with (fail)
      go_cut [72] (fun s72 wx => s72 = .bool false ∧ New wr wx)
      case first =>
        have HK : Hid (∀ wx, New wr wx → (wx.cell? ⟨w.heap.size, 0, none⟩ = some (.int .i64 o) ∧ wx.cell? ⟨w.heap.size, 1, none⟩ = some (.int .i64 t) ∧ wx.cell? ⟨w.heap.size, 2, none⟩ = some (.int .i64 c) ∧ wx.cell? ⟨w.heap.size, 3, none⟩ = some (.int .i64 v) ∧ wx.cell? ⟨w2.heap.size, 0, none⟩ = some (.int .i64 x0) ∧ wx.cell? ⟨w2.heap.size, 1, none⟩ = some (.int .i64 x1) ∧ wx.cell? ⟨w2.heap.size, 2, none⟩ = some (.int .i64 x2) ∧ wx.cell? ⟨w2.heap.size, 3, none⟩ = some (.int .i64 x3) ∧ wx.cell? ⟨w3.heap.size, 0, none⟩ = some (.int .i64 x0) ∧ wx.cell? ⟨w3.heap.size, 1, none⟩ = some (.int .i64 x1) ∧ wx.cell? ⟨w3.heap.size, 2, none⟩ = some (.int .i64 x2) ∧ wx.cell? ⟨w3.heap.size, 3, none⟩ = some (.int .i64 x3))) := fun wx h => ⟨((HT_4.out.keep h).cell 0).trans rfl, ((HT_4.out.keep h).cell 1).trans rfl, ((HT_4.out.keep h).cell 2).trans rfl, ((HT_4.out.keep h).cell 3).trans rfl, ((HD_4.out.keep h).cell 0).trans rfl, ((HD_4.out.keep h).cell 1).trans rfl, ((HD_4.out.keep h).cell 2).trans rfl, ((HD_4.out.keep h).cell 3).trans rfl, ((HS.out.keep h).cell 0).trans rfl, ((HS.out.keep h).cell 1).trans rfl, ((HS.out.keep h).cell 2).trans rfl, ((HS.out.keep h).cell 3).trans rfl⟩
        go_region_held_law (fun wx => wx.cell? ⟨w.heap.size, 0, none⟩ = some (.int .i64 o) ∧ wx.cell? ⟨w.heap.size, 1, none⟩ = some (.int .i64 t) ∧ wx.cell? ⟨w.heap.size, 2, none⟩ = some (.int .i64 c) ∧ wx.cell? ⟨w.heap.size, 3, none⟩ = some (.int .i64 v) ∧ wx.cell? ⟨w2.heap.size, 0, none⟩ = some (.int .i64 x0) ∧ wx.cell? ⟨w2.heap.size, 1, none⟩ = some (.int .i64 x1) ∧ wx.cell? ⟨w2.heap.size, 2, none⟩ = some (.int .i64 x2) ∧ wx.cell? ⟨w2.heap.size, 3, none⟩ = some (.int .i64 x3) ∧ wx.cell? ⟨w3.heap.size, 0, none⟩ = some (.int .i64 x0) ∧ wx.cell? ⟨w3.heap.size, 1, none⟩ = some (.int .i64 x1) ∧ wx.cell? ⟨w3.heap.size, 2, none⟩ = some (.int .i64 x2) ∧ wx.cell? ⟨w3.heap.size, 3, none⟩ = some (.int .i64 x3))
          (with_reducible refine HK.out _ ?_; (with_reducible repeat (first | exact Chg.refl _ _ | refine Chg.drew ?_ | refine Chg.alloc ?_ _ | refine Chg.then_new ?_ HN_wF.out | refine Chg.then_new ?_ HN_wL.out | refine Chg.then_new ?_ HN_wM.out)))
          (first
            | (go_at_call 18
               with_reducible refine (HFa.out (w3.heap.size + 1) _ _ _ ?hH).mono ?_
               case hH => (with_reducible refine own_new HO.out ?_; (with_reducible repeat (first | exact Chg.refl _ _ | refine Chg.drew ?_ | refine Chg.alloc ?_ _)))
               rintro e wF ⟨rfl, hNwF⟩
               have HN_wF := Lib.hid hNwF
               clear hNwF)
            | (go_at_call 16
               with_reducible refine (HLd.out _).mono ?_
               rintro e wL ⟨rfl, hNwL⟩
               have HN_wL := Lib.hid hNwL
               clear hNwL)
            | (go_at_call 16
               with_reducible refine (HLr.out _).mono ?_
               rintro e wM ⟨rfl, hNwM⟩
               have HN_wM := Lib.hid hNwM
               clear hNwM))
        all_goals
          go_wp2_with fail
          go_meet
          case rel => exact ⟨rfl, by (with_reducible repeat (first | exact Chg.refl _ _ | refine Chg.drew ?_ | refine Chg.alloc ?_ _ | refine Chg.then_new ?_ HN_wF.out | refine Chg.then_new ?_ HN_wL.out | refine Chg.then_new ?_ HN_wM.out))⟩
      case rest =>
      obtain ⟨rfl, hN⟩ := hcut
      obtain ⟨w8, rfl⟩ : ∃ w8, w8 = wc := ⟨_, rfl⟩
      have HO8 := Lib.hid (own_new HO.out hN)
      have HT_5 := Lib.hid (HT_4.out.keep hN)
      have HD_5 := Lib.hid (HD_4.out.keep hN)
      have HS_5 := Lib.hid (HS.out.keep hN)
      have HN_5 := Lib.hid (HN_4.out.then_new hN)
      clear HT_4 HD_4 HS HN_4 cT0 cT1 cT2 cT3 lT cD0 cD1 cD2 cD3 lD cS0 cS1 cS2 cS3 lS hN
      clear HO HFa HLd HLr hw1
      obtain ⟨g, rfl, hk⟩ := own_keys HO8.out (by omega)
      have HKc := Lib.hid hk
      clear hk
      have hback := HD.out.back
      have hno := HD.out.no
      have h3 := HD.out.n3
      clear HD HO8 Hd hx Hr
      clear HT_5
      clear HD_5
      clear HS_5
      rcases (show i = 0 ∨ i = 1 ∨ i = 2 ∨ i = 3 by omega) with rfl | rfl | rfl | rfl
      · obtain ⟨⟨a00, a01, a02, a03⟩, ha0⟩ : ∃ a, a = dw r p 0 := ⟨_, rfl⟩
        clear hback hno h3
        have y00 : w8.cell? ⟨g, 0, none⟩ = some (.int .i64 a00) := (HKc.out 0 0 (by omega) (by omega)).trans (by rw [← ha0]; rfl)
        have y01 : w8.cell? ⟨g, 1, none⟩ = some (.int .i64 a01) := (HKc.out 0 1 (by omega) (by omega)).trans (by rw [← ha0]; rfl)
        have y02 : w8.cell? ⟨g, 2, none⟩ = some (.int .i64 a02) := (HKc.out 0 2 (by omega) (by omega)).trans (by rw [← ha0]; rfl)
        have y03 : w8.cell? ⟨g, 3, none⟩ = some (.int .i64 a03) := (HKc.out 0 3 (by omega) (by omega)).trans (by rw [← ha0]; rfl)
        have hgl : g < w8.heap.size := World.block_lt_of_cell? _ _ y00
        have HYs : Hid (∀ wx, New w8 wx → (wx.cell? ⟨g, 0, none⟩ = some (.int .i64 a00) ∧ wx.cell? ⟨g, 1, none⟩ = some (.int .i64 a01) ∧ wx.cell? ⟨g, 2, none⟩ = some (.int .i64 a02) ∧ wx.cell? ⟨g, 3, none⟩ = some (.int .i64 a03))) := fun wx h => ⟨(h.cell hgl (fun f => f)).trans y00, (h.cell hgl (fun f => f)).trans y01, (h.cell hgl (fun f => f)).trans y02, (h.cell hgl (fun f => f)).trans y03⟩
        clear y00 y01 y02 y03 ha0 HKc
        go_wp2_with fail
        go_loopg [12] 0 (fun gk s12 wr => gk ≤ 0 ∧ s12 = .int .i64 (gk : Nat) ∧ New w8 wr)
        case atStart => exact ⟨by omega, rfl, Chg.refl _ _⟩
        case round =>
          obtain ⟨hle, rfl, hN9⟩ := hrel
          have HN9 := Lib.hid hN9
          clear hN9
          rcases (show gk = 0 by omega) with rfl
          · go_wp2_with fail
            go_ret
            exact ⟨rfl, (HN_5.out.then_new HN9.out)⟩
      · obtain ⟨⟨a00, a01, a02, a03⟩, ha0⟩ : ∃ a, a = dw r p 0 := ⟨_, rfl⟩
        obtain ⟨⟨a10, a11, a12, a13⟩, ha1⟩ : ∃ a, a = dw r p 1 := ⟨_, rfl⟩
        have HPa1 : Hid (∀ wx, Calls Try.prog 11 #[.agg #[.int .i64 a10, .int .i64 a11, .int .i64 a12, .int .i64 a13]] wx fun e w' => e = .returned (.tuple #[.agg #[.int .i64 a00, .int .i64 a01, .int .i64 a02, .int .i64 a03], .int .i64 0]) ∧ New wx w') := fun wx => by
          have hh := Parent_any (dw r p 1) wx
          have hb := hback 0 (by omega)
          simp only [Nat.reduceAdd] at hb
          rw [hb.1, hb.2, ← ha1, ← ha0] at hh
          exact hh
        have HNo1 : Hid (∀ (g m : Nat) (wx : World), Has wx g 23 #[.int .i64 a10, .int .i64 a11, .int .i64 a12, .int .i64 a13] → Calls Try.prog 18 #[.agg #[.int .i64 a00, .int .i64 a01, .int .i64 a02, .int .i64 a03], .slice (some ⟨g, 0, none⟩) 1 m] wx fun e w' => e = .returned (.bool false) ∧ New wx w') := fun g m wx h => by
          have hb := hno 0 (by omega)
          simp only [Nat.reduceAdd] at hb
          have hh := From_onek (dw r p 0) (dw r p 1) g m wx (by rw [← ha1]; exact h)
          rw [hb, ← ha0] at hh
          exact hh
        clear hback hno h3
        have y00 : w8.cell? ⟨g, 0, none⟩ = some (.int .i64 a00) := (HKc.out 0 0 (by omega) (by omega)).trans (by rw [← ha0]; rfl)
        have y01 : w8.cell? ⟨g, 1, none⟩ = some (.int .i64 a01) := (HKc.out 0 1 (by omega) (by omega)).trans (by rw [← ha0]; rfl)
        have y02 : w8.cell? ⟨g, 2, none⟩ = some (.int .i64 a02) := (HKc.out 0 2 (by omega) (by omega)).trans (by rw [← ha0]; rfl)
        have y03 : w8.cell? ⟨g, 3, none⟩ = some (.int .i64 a03) := (HKc.out 0 3 (by omega) (by omega)).trans (by rw [← ha0]; rfl)
        have y10 : w8.cell? ⟨g, 4, none⟩ = some (.int .i64 a10) := (HKc.out 1 0 (by omega) (by omega)).trans (by rw [← ha1]; rfl)
        have y11 : w8.cell? ⟨g, 5, none⟩ = some (.int .i64 a11) := (HKc.out 1 1 (by omega) (by omega)).trans (by rw [← ha1]; rfl)
        have y12 : w8.cell? ⟨g, 6, none⟩ = some (.int .i64 a12) := (HKc.out 1 2 (by omega) (by omega)).trans (by rw [← ha1]; rfl)
        have y13 : w8.cell? ⟨g, 7, none⟩ = some (.int .i64 a13) := (HKc.out 1 3 (by omega) (by omega)).trans (by rw [← ha1]; rfl)
        have hgl : g < w8.heap.size := World.block_lt_of_cell? _ _ y00
        have HYs : Hid (∀ wx, New w8 wx → (wx.cell? ⟨g, 0, none⟩ = some (.int .i64 a00) ∧ wx.cell? ⟨g, 1, none⟩ = some (.int .i64 a01) ∧ wx.cell? ⟨g, 2, none⟩ = some (.int .i64 a02) ∧ wx.cell? ⟨g, 3, none⟩ = some (.int .i64 a03) ∧ wx.cell? ⟨g, 4, none⟩ = some (.int .i64 a10) ∧ wx.cell? ⟨g, 5, none⟩ = some (.int .i64 a11) ∧ wx.cell? ⟨g, 6, none⟩ = some (.int .i64 a12) ∧ wx.cell? ⟨g, 7, none⟩ = some (.int .i64 a13))) := fun wx h => ⟨(h.cell hgl (fun f => f)).trans y00, (h.cell hgl (fun f => f)).trans y01, (h.cell hgl (fun f => f)).trans y02, (h.cell hgl (fun f => f)).trans y03, (h.cell hgl (fun f => f)).trans y10, (h.cell hgl (fun f => f)).trans y11, (h.cell hgl (fun f => f)).trans y12, (h.cell hgl (fun f => f)).trans y13⟩
        clear y00 y01 y02 y03 y10 y11 y12 y13 ha0 ha1 HKc
        go_wp2_with fail
        go_loopg [12] 1 (fun gk s12 wr => gk ≤ 1 ∧ s12 = .int .i64 (gk : Nat) ∧ New w8 wr)
        case atStart => exact ⟨by omega, rfl, Chg.refl _ _⟩
        case round =>
          obtain ⟨hle, rfl, hN9⟩ := hrel
          have HN9 := Lib.hid hN9
          clear hN9
          rcases (show gk = 0 ∨ gk = 1 by omega) with rfl | rfl
          · go_wp2_with fail
            go_ret
            exact ⟨rfl, (HN_5.out.then_new HN9.out)⟩
          · obtain ⟨y00, y01, y02, y03, y10, y11, y12, y13⟩ := HYs.out _ HN9.out
            have hgw := Nat.lt_of_lt_of_le hgl HN9.out.size
            go_wp2_with fail
            with_reducible refine (HPa1.out _).mono ?_
            rintro e w9 ⟨rfl, hNa⟩
            have HN10 := Lib.hid (HN9.out.then_new hNa)
            clear hNa y00 y01 y02 y03 y10 y11 y12 y13 hgw
            go_upto_region 22 with (fail)
            obtain ⟨w10, hw10⟩ : ∃ w10, w10 = w9.alloc (.cells #[.int .i64 a00, .int .i64 a01, .int .i64 a02, .int .i64 a03] 23) := ⟨_, rfl⟩
            have HB : Hid (Has w10 w9.heap.size 23 #[.int .i64 a00, .int .i64 a01, .int .i64 a02, .int .i64 a03]) := by rw [hw10]; exact Has.new _ _ _
            have HN11 : Hid (New w8 w10) := by rw [hw10]; exact HN10.out.alloc _
            rw [← hw10]
            clear hw10 HN10
            have hgw := Nat.lt_of_lt_of_le hgl HN11.out.size
            obtain ⟨y00, y01, y02, y03, y10, y11, y12, y13⟩ := HYs.out _ HN11.out
            have b0 : w10.cell? ⟨w9.heap.size, 0, none⟩ = some (.int .i64 a00) := (HB.out.cell 0).trans rfl
            have b1 : w10.cell? ⟨w9.heap.size, 1, none⟩ = some (.int .i64 a01) := (HB.out.cell 1).trans rfl
            have b2 : w10.cell? ⟨w9.heap.size, 2, none⟩ = some (.int .i64 a02) := (HB.out.cell 2).trans rfl
            have b3 : w10.cell? ⟨w9.heap.size, 3, none⟩ = some (.int .i64 a03) := (HB.out.cell 3).trans rfl
            have lb := HB.out.lt
            have hwq : IntKind.i64.wrap 0 = 0 := IntWalk.i64_in _ (by omega)
            have HK : Hid (∀ wx, New w10 wx → (wx.cell? ⟨g, 0, none⟩ = some (.int .i64 a00) ∧ wx.cell? ⟨g, 1, none⟩ = some (.int .i64 a01) ∧ wx.cell? ⟨g, 2, none⟩ = some (.int .i64 a02) ∧ wx.cell? ⟨g, 3, none⟩ = some (.int .i64 a03) ∧ wx.cell? ⟨g, 4, none⟩ = some (.int .i64 a10) ∧ wx.cell? ⟨g, 5, none⟩ = some (.int .i64 a11) ∧ wx.cell? ⟨g, 6, none⟩ = some (.int .i64 a12) ∧ wx.cell? ⟨g, 7, none⟩ = some (.int .i64 a13) ∧ wx.cell? ⟨w9.heap.size, 0, none⟩ = some (.int .i64 a00) ∧ wx.cell? ⟨w9.heap.size, 1, none⟩ = some (.int .i64 a01) ∧ wx.cell? ⟨w9.heap.size, 2, none⟩ = some (.int .i64 a02) ∧ wx.cell? ⟨w9.heap.size, 3, none⟩ = some (.int .i64 a03))) := fun wx h => ⟨(h.cell hgw (fun f => f)).trans y00, (h.cell hgw (fun f => f)).trans y01, (h.cell hgw (fun f => f)).trans y02, (h.cell hgw (fun f => f)).trans y03, (h.cell hgw (fun f => f)).trans y10, (h.cell hgw (fun f => f)).trans y11, (h.cell hgw (fun f => f)).trans y12, (h.cell hgw (fun f => f)).trans y13, ((HB.out.keep h).cell 0).trans rfl, ((HB.out.keep h).cell 1).trans rfl, ((HB.out.keep h).cell 2).trans rfl, ((HB.out.keep h).cell 3).trans rfl⟩
            go_region_held_law (fun wx => wx.cell? ⟨g, 0, none⟩ = some (.int .i64 a00) ∧ wx.cell? ⟨g, 1, none⟩ = some (.int .i64 a01) ∧ wx.cell? ⟨g, 2, none⟩ = some (.int .i64 a02) ∧ wx.cell? ⟨g, 3, none⟩ = some (.int .i64 a03) ∧ wx.cell? ⟨g, 4, none⟩ = some (.int .i64 a10) ∧ wx.cell? ⟨g, 5, none⟩ = some (.int .i64 a11) ∧ wx.cell? ⟨g, 6, none⟩ = some (.int .i64 a12) ∧ wx.cell? ⟨g, 7, none⟩ = some (.int .i64 a13) ∧ wx.cell? ⟨w9.heap.size, 0, none⟩ = some (.int .i64 a00) ∧ wx.cell? ⟨w9.heap.size, 1, none⟩ = some (.int .i64 a01) ∧ wx.cell? ⟨w9.heap.size, 2, none⟩ = some (.int .i64 a02) ∧ wx.cell? ⟨w9.heap.size, 3, none⟩ = some (.int .i64 a03))
              (with_reducible refine HK.out _ ?_; (with_reducible repeat (first | exact Chg.refl _ _ | refine Chg.drew ?_ | refine Chg.alloc ?_ _ | refine Chg.then_new ?_ HN_wF.out)))
              (first
                | (go_at_call 18
                   with_reducible refine (HNo1.out _ _ _ ?hH).mono ?_
                   case hH => (with_reducible repeat (first | exact Has.new_at _ _ _ _ rfl | exact Has.new_at _ _ _ _ (World.size_alloc _ _) | refine Has.drew ?_ | refine Has.alloc ?_ _))
                   rintro e wF ⟨rfl, hNwF⟩
                   have HN_wF := Lib.hid hNwF
                   clear hNwF))
            all_goals
              go_wp2_with fail
              go_roundg 0
              case measure => omega
              case rel => exact ⟨by omega, rfl, Chg.trans HN11.out (by (with_reducible repeat (first | exact Chg.refl _ _ | refine Chg.drew ?_ | refine Chg.alloc ?_ _ | refine Chg.then_new ?_ HN_wF.out))) (fun _ _ h => h)⟩
      · obtain ⟨⟨a00, a01, a02, a03⟩, ha0⟩ : ∃ a, a = dw r p 0 := ⟨_, rfl⟩
        obtain ⟨⟨a10, a11, a12, a13⟩, ha1⟩ : ∃ a, a = dw r p 1 := ⟨_, rfl⟩
        obtain ⟨⟨a20, a21, a22, a23⟩, ha2⟩ : ∃ a, a = dw r p 2 := ⟨_, rfl⟩
        have HPa1 : Hid (∀ wx, Calls Try.prog 11 #[.agg #[.int .i64 a10, .int .i64 a11, .int .i64 a12, .int .i64 a13]] wx fun e w' => e = .returned (.tuple #[.agg #[.int .i64 a00, .int .i64 a01, .int .i64 a02, .int .i64 a03], .int .i64 0]) ∧ New wx w') := fun wx => by
          have hh := Parent_any (dw r p 1) wx
          have hb := hback 0 (by omega)
          simp only [Nat.reduceAdd] at hb
          rw [hb.1, hb.2, ← ha1, ← ha0] at hh
          exact hh
        have HNo1 : Hid (∀ (g m : Nat) (wx : World), Has wx g 23 #[.int .i64 a10, .int .i64 a11, .int .i64 a12, .int .i64 a13] → Calls Try.prog 18 #[.agg #[.int .i64 a00, .int .i64 a01, .int .i64 a02, .int .i64 a03], .slice (some ⟨g, 0, none⟩) 1 m] wx fun e w' => e = .returned (.bool false) ∧ New wx w') := fun g m wx h => by
          have hb := hno 0 (by omega)
          simp only [Nat.reduceAdd] at hb
          have hh := From_onek (dw r p 0) (dw r p 1) g m wx (by rw [← ha1]; exact h)
          rw [hb, ← ha0] at hh
          exact hh
        have HPa2 : Hid (∀ wx, Calls Try.prog 11 #[.agg #[.int .i64 a20, .int .i64 a21, .int .i64 a22, .int .i64 a23]] wx fun e w' => e = .returned (.tuple #[.agg #[.int .i64 a10, .int .i64 a11, .int .i64 a12, .int .i64 a13], .int .i64 0]) ∧ New wx w') := fun wx => by
          have hh := Parent_any (dw r p 2) wx
          have hb := hback 1 (by omega)
          simp only [Nat.reduceAdd] at hb
          rw [hb.1, hb.2, ← ha2, ← ha1] at hh
          exact hh
        have HNo2 : Hid (∀ (g m : Nat) (wx : World), Has wx g 23 #[.int .i64 a20, .int .i64 a21, .int .i64 a22, .int .i64 a23] → Calls Try.prog 18 #[.agg #[.int .i64 a10, .int .i64 a11, .int .i64 a12, .int .i64 a13], .slice (some ⟨g, 0, none⟩) 1 m] wx fun e w' => e = .returned (.bool false) ∧ New wx w') := fun g m wx h => by
          have hb := hno 1 (by omega)
          simp only [Nat.reduceAdd] at hb
          have hh := From_onek (dw r p 1) (dw r p 2) g m wx (by rw [← ha2]; exact h)
          rw [hb, ← ha1] at hh
          exact hh
        clear hback hno h3
        have y00 : w8.cell? ⟨g, 0, none⟩ = some (.int .i64 a00) := (HKc.out 0 0 (by omega) (by omega)).trans (by rw [← ha0]; rfl)
        have y01 : w8.cell? ⟨g, 1, none⟩ = some (.int .i64 a01) := (HKc.out 0 1 (by omega) (by omega)).trans (by rw [← ha0]; rfl)
        have y02 : w8.cell? ⟨g, 2, none⟩ = some (.int .i64 a02) := (HKc.out 0 2 (by omega) (by omega)).trans (by rw [← ha0]; rfl)
        have y03 : w8.cell? ⟨g, 3, none⟩ = some (.int .i64 a03) := (HKc.out 0 3 (by omega) (by omega)).trans (by rw [← ha0]; rfl)
        have y10 : w8.cell? ⟨g, 4, none⟩ = some (.int .i64 a10) := (HKc.out 1 0 (by omega) (by omega)).trans (by rw [← ha1]; rfl)
        have y11 : w8.cell? ⟨g, 5, none⟩ = some (.int .i64 a11) := (HKc.out 1 1 (by omega) (by omega)).trans (by rw [← ha1]; rfl)
        have y12 : w8.cell? ⟨g, 6, none⟩ = some (.int .i64 a12) := (HKc.out 1 2 (by omega) (by omega)).trans (by rw [← ha1]; rfl)
        have y13 : w8.cell? ⟨g, 7, none⟩ = some (.int .i64 a13) := (HKc.out 1 3 (by omega) (by omega)).trans (by rw [← ha1]; rfl)
        have y20 : w8.cell? ⟨g, 8, none⟩ = some (.int .i64 a20) := (HKc.out 2 0 (by omega) (by omega)).trans (by rw [← ha2]; rfl)
        have y21 : w8.cell? ⟨g, 9, none⟩ = some (.int .i64 a21) := (HKc.out 2 1 (by omega) (by omega)).trans (by rw [← ha2]; rfl)
        have y22 : w8.cell? ⟨g, 10, none⟩ = some (.int .i64 a22) := (HKc.out 2 2 (by omega) (by omega)).trans (by rw [← ha2]; rfl)
        have y23 : w8.cell? ⟨g, 11, none⟩ = some (.int .i64 a23) := (HKc.out 2 3 (by omega) (by omega)).trans (by rw [← ha2]; rfl)
        have hgl : g < w8.heap.size := World.block_lt_of_cell? _ _ y00
        have HYs : Hid (∀ wx, New w8 wx → (wx.cell? ⟨g, 0, none⟩ = some (.int .i64 a00) ∧ wx.cell? ⟨g, 1, none⟩ = some (.int .i64 a01) ∧ wx.cell? ⟨g, 2, none⟩ = some (.int .i64 a02) ∧ wx.cell? ⟨g, 3, none⟩ = some (.int .i64 a03) ∧ wx.cell? ⟨g, 4, none⟩ = some (.int .i64 a10) ∧ wx.cell? ⟨g, 5, none⟩ = some (.int .i64 a11) ∧ wx.cell? ⟨g, 6, none⟩ = some (.int .i64 a12) ∧ wx.cell? ⟨g, 7, none⟩ = some (.int .i64 a13) ∧ wx.cell? ⟨g, 8, none⟩ = some (.int .i64 a20) ∧ wx.cell? ⟨g, 9, none⟩ = some (.int .i64 a21) ∧ wx.cell? ⟨g, 10, none⟩ = some (.int .i64 a22) ∧ wx.cell? ⟨g, 11, none⟩ = some (.int .i64 a23))) := fun wx h => ⟨(h.cell hgl (fun f => f)).trans y00, (h.cell hgl (fun f => f)).trans y01, (h.cell hgl (fun f => f)).trans y02, (h.cell hgl (fun f => f)).trans y03, (h.cell hgl (fun f => f)).trans y10, (h.cell hgl (fun f => f)).trans y11, (h.cell hgl (fun f => f)).trans y12, (h.cell hgl (fun f => f)).trans y13, (h.cell hgl (fun f => f)).trans y20, (h.cell hgl (fun f => f)).trans y21, (h.cell hgl (fun f => f)).trans y22, (h.cell hgl (fun f => f)).trans y23⟩
        clear y00 y01 y02 y03 y10 y11 y12 y13 y20 y21 y22 y23 ha0 ha1 ha2 HKc
        go_wp2_with fail
        go_loopg [12] 2 (fun gk s12 wr => gk ≤ 2 ∧ s12 = .int .i64 (gk : Nat) ∧ New w8 wr)
        case atStart => exact ⟨by omega, rfl, Chg.refl _ _⟩
        case round =>
          obtain ⟨hle, rfl, hN9⟩ := hrel
          have HN9 := Lib.hid hN9
          clear hN9
          rcases (show gk = 0 ∨ gk = 1 ∨ gk = 2 by omega) with rfl | rfl | rfl
          · go_wp2_with fail
            go_ret
            exact ⟨rfl, (HN_5.out.then_new HN9.out)⟩
          · obtain ⟨y00, y01, y02, y03, y10, y11, y12, y13, y20, y21, y22, y23⟩ := HYs.out _ HN9.out
            have hgw := Nat.lt_of_lt_of_le hgl HN9.out.size
            go_wp2_with fail
            with_reducible refine (HPa1.out _).mono ?_
            rintro e w9 ⟨rfl, hNa⟩
            have HN10 := Lib.hid (HN9.out.then_new hNa)
            clear hNa y00 y01 y02 y03 y10 y11 y12 y13 y20 y21 y22 y23 hgw
            go_upto_region 22 with (fail)
            obtain ⟨w10, hw10⟩ : ∃ w10, w10 = w9.alloc (.cells #[.int .i64 a00, .int .i64 a01, .int .i64 a02, .int .i64 a03] 23) := ⟨_, rfl⟩
            have HB : Hid (Has w10 w9.heap.size 23 #[.int .i64 a00, .int .i64 a01, .int .i64 a02, .int .i64 a03]) := by rw [hw10]; exact Has.new _ _ _
            have HN11 : Hid (New w8 w10) := by rw [hw10]; exact HN10.out.alloc _
            rw [← hw10]
            clear hw10 HN10
            have hgw := Nat.lt_of_lt_of_le hgl HN11.out.size
            obtain ⟨y00, y01, y02, y03, y10, y11, y12, y13, y20, y21, y22, y23⟩ := HYs.out _ HN11.out
            have b0 : w10.cell? ⟨w9.heap.size, 0, none⟩ = some (.int .i64 a00) := (HB.out.cell 0).trans rfl
            have b1 : w10.cell? ⟨w9.heap.size, 1, none⟩ = some (.int .i64 a01) := (HB.out.cell 1).trans rfl
            have b2 : w10.cell? ⟨w9.heap.size, 2, none⟩ = some (.int .i64 a02) := (HB.out.cell 2).trans rfl
            have b3 : w10.cell? ⟨w9.heap.size, 3, none⟩ = some (.int .i64 a03) := (HB.out.cell 3).trans rfl
            have lb := HB.out.lt
            have hwq : IntKind.i64.wrap 0 = 0 := IntWalk.i64_in _ (by omega)
            have HK : Hid (∀ wx, New w10 wx → (wx.cell? ⟨g, 0, none⟩ = some (.int .i64 a00) ∧ wx.cell? ⟨g, 1, none⟩ = some (.int .i64 a01) ∧ wx.cell? ⟨g, 2, none⟩ = some (.int .i64 a02) ∧ wx.cell? ⟨g, 3, none⟩ = some (.int .i64 a03) ∧ wx.cell? ⟨g, 4, none⟩ = some (.int .i64 a10) ∧ wx.cell? ⟨g, 5, none⟩ = some (.int .i64 a11) ∧ wx.cell? ⟨g, 6, none⟩ = some (.int .i64 a12) ∧ wx.cell? ⟨g, 7, none⟩ = some (.int .i64 a13) ∧ wx.cell? ⟨w9.heap.size, 0, none⟩ = some (.int .i64 a00) ∧ wx.cell? ⟨w9.heap.size, 1, none⟩ = some (.int .i64 a01) ∧ wx.cell? ⟨w9.heap.size, 2, none⟩ = some (.int .i64 a02) ∧ wx.cell? ⟨w9.heap.size, 3, none⟩ = some (.int .i64 a03))) := fun wx h => ⟨(h.cell hgw (fun f => f)).trans y00, (h.cell hgw (fun f => f)).trans y01, (h.cell hgw (fun f => f)).trans y02, (h.cell hgw (fun f => f)).trans y03, (h.cell hgw (fun f => f)).trans y10, (h.cell hgw (fun f => f)).trans y11, (h.cell hgw (fun f => f)).trans y12, (h.cell hgw (fun f => f)).trans y13, ((HB.out.keep h).cell 0).trans rfl, ((HB.out.keep h).cell 1).trans rfl, ((HB.out.keep h).cell 2).trans rfl, ((HB.out.keep h).cell 3).trans rfl⟩
            go_region_held_law (fun wx => wx.cell? ⟨g, 0, none⟩ = some (.int .i64 a00) ∧ wx.cell? ⟨g, 1, none⟩ = some (.int .i64 a01) ∧ wx.cell? ⟨g, 2, none⟩ = some (.int .i64 a02) ∧ wx.cell? ⟨g, 3, none⟩ = some (.int .i64 a03) ∧ wx.cell? ⟨g, 4, none⟩ = some (.int .i64 a10) ∧ wx.cell? ⟨g, 5, none⟩ = some (.int .i64 a11) ∧ wx.cell? ⟨g, 6, none⟩ = some (.int .i64 a12) ∧ wx.cell? ⟨g, 7, none⟩ = some (.int .i64 a13) ∧ wx.cell? ⟨w9.heap.size, 0, none⟩ = some (.int .i64 a00) ∧ wx.cell? ⟨w9.heap.size, 1, none⟩ = some (.int .i64 a01) ∧ wx.cell? ⟨w9.heap.size, 2, none⟩ = some (.int .i64 a02) ∧ wx.cell? ⟨w9.heap.size, 3, none⟩ = some (.int .i64 a03))
              (with_reducible refine HK.out _ ?_; (with_reducible repeat (first | exact Chg.refl _ _ | refine Chg.drew ?_ | refine Chg.alloc ?_ _ | refine Chg.then_new ?_ HN_wF.out)))
              (first
                | (go_at_call 18
                   with_reducible refine (HNo1.out _ _ _ ?hH).mono ?_
                   case hH => (with_reducible repeat (first | exact Has.new_at _ _ _ _ rfl | exact Has.new_at _ _ _ _ (World.size_alloc _ _) | refine Has.drew ?_ | refine Has.alloc ?_ _))
                   rintro e wF ⟨rfl, hNwF⟩
                   have HN_wF := Lib.hid hNwF
                   clear hNwF))
            all_goals
              go_wp2_with fail
              go_roundg 0
              case measure => omega
              case rel => exact ⟨by omega, rfl, Chg.trans HN11.out (by (with_reducible repeat (first | exact Chg.refl _ _ | refine Chg.drew ?_ | refine Chg.alloc ?_ _ | refine Chg.then_new ?_ HN_wF.out))) (fun _ _ h => h)⟩
          · obtain ⟨y00, y01, y02, y03, y10, y11, y12, y13, y20, y21, y22, y23⟩ := HYs.out _ HN9.out
            have hgw := Nat.lt_of_lt_of_le hgl HN9.out.size
            go_wp2_with fail
            with_reducible refine (HPa2.out _).mono ?_
            rintro e w9 ⟨rfl, hNa⟩
            have HN10 := Lib.hid (HN9.out.then_new hNa)
            clear hNa y00 y01 y02 y03 y10 y11 y12 y13 y20 y21 y22 y23 hgw
            go_upto_region 22 with (fail)
            obtain ⟨w10, hw10⟩ : ∃ w10, w10 = w9.alloc (.cells #[.int .i64 a10, .int .i64 a11, .int .i64 a12, .int .i64 a13] 23) := ⟨_, rfl⟩
            have HB : Hid (Has w10 w9.heap.size 23 #[.int .i64 a10, .int .i64 a11, .int .i64 a12, .int .i64 a13]) := by rw [hw10]; exact Has.new _ _ _
            have HN11 : Hid (New w8 w10) := by rw [hw10]; exact HN10.out.alloc _
            rw [← hw10]
            clear hw10 HN10
            have hgw := Nat.lt_of_lt_of_le hgl HN11.out.size
            obtain ⟨y00, y01, y02, y03, y10, y11, y12, y13, y20, y21, y22, y23⟩ := HYs.out _ HN11.out
            have b0 : w10.cell? ⟨w9.heap.size, 0, none⟩ = some (.int .i64 a10) := (HB.out.cell 0).trans rfl
            have b1 : w10.cell? ⟨w9.heap.size, 1, none⟩ = some (.int .i64 a11) := (HB.out.cell 1).trans rfl
            have b2 : w10.cell? ⟨w9.heap.size, 2, none⟩ = some (.int .i64 a12) := (HB.out.cell 2).trans rfl
            have b3 : w10.cell? ⟨w9.heap.size, 3, none⟩ = some (.int .i64 a13) := (HB.out.cell 3).trans rfl
            have lb := HB.out.lt
            have hwq : IntKind.i64.wrap 1 = 1 := IntWalk.i64_in _ (by omega)
            have HK : Hid (∀ wx, New w10 wx → (wx.cell? ⟨g, 4, none⟩ = some (.int .i64 a10) ∧ wx.cell? ⟨g, 5, none⟩ = some (.int .i64 a11) ∧ wx.cell? ⟨g, 6, none⟩ = some (.int .i64 a12) ∧ wx.cell? ⟨g, 7, none⟩ = some (.int .i64 a13) ∧ wx.cell? ⟨g, 8, none⟩ = some (.int .i64 a20) ∧ wx.cell? ⟨g, 9, none⟩ = some (.int .i64 a21) ∧ wx.cell? ⟨g, 10, none⟩ = some (.int .i64 a22) ∧ wx.cell? ⟨g, 11, none⟩ = some (.int .i64 a23) ∧ wx.cell? ⟨w9.heap.size, 0, none⟩ = some (.int .i64 a10) ∧ wx.cell? ⟨w9.heap.size, 1, none⟩ = some (.int .i64 a11) ∧ wx.cell? ⟨w9.heap.size, 2, none⟩ = some (.int .i64 a12) ∧ wx.cell? ⟨w9.heap.size, 3, none⟩ = some (.int .i64 a13))) := fun wx h => ⟨(h.cell hgw (fun f => f)).trans y10, (h.cell hgw (fun f => f)).trans y11, (h.cell hgw (fun f => f)).trans y12, (h.cell hgw (fun f => f)).trans y13, (h.cell hgw (fun f => f)).trans y20, (h.cell hgw (fun f => f)).trans y21, (h.cell hgw (fun f => f)).trans y22, (h.cell hgw (fun f => f)).trans y23, ((HB.out.keep h).cell 0).trans rfl, ((HB.out.keep h).cell 1).trans rfl, ((HB.out.keep h).cell 2).trans rfl, ((HB.out.keep h).cell 3).trans rfl⟩
            go_region_held_law (fun wx => wx.cell? ⟨g, 4, none⟩ = some (.int .i64 a10) ∧ wx.cell? ⟨g, 5, none⟩ = some (.int .i64 a11) ∧ wx.cell? ⟨g, 6, none⟩ = some (.int .i64 a12) ∧ wx.cell? ⟨g, 7, none⟩ = some (.int .i64 a13) ∧ wx.cell? ⟨g, 8, none⟩ = some (.int .i64 a20) ∧ wx.cell? ⟨g, 9, none⟩ = some (.int .i64 a21) ∧ wx.cell? ⟨g, 10, none⟩ = some (.int .i64 a22) ∧ wx.cell? ⟨g, 11, none⟩ = some (.int .i64 a23) ∧ wx.cell? ⟨w9.heap.size, 0, none⟩ = some (.int .i64 a10) ∧ wx.cell? ⟨w9.heap.size, 1, none⟩ = some (.int .i64 a11) ∧ wx.cell? ⟨w9.heap.size, 2, none⟩ = some (.int .i64 a12) ∧ wx.cell? ⟨w9.heap.size, 3, none⟩ = some (.int .i64 a13))
              (with_reducible refine HK.out _ ?_; (with_reducible repeat (first | exact Chg.refl _ _ | refine Chg.drew ?_ | refine Chg.alloc ?_ _ | refine Chg.then_new ?_ HN_wF.out)))
              (first
                | (go_at_call 18
                   with_reducible refine (HNo2.out _ _ _ ?hH).mono ?_
                   case hH => (with_reducible repeat (first | exact Has.new_at _ _ _ _ rfl | exact Has.new_at _ _ _ _ (World.size_alloc _ _) | refine Has.drew ?_ | refine Has.alloc ?_ _))
                   rintro e wF ⟨rfl, hNwF⟩
                   have HN_wF := Lib.hid hNwF
                   clear hNwF))
            all_goals
              go_wp2_with fail
              go_roundg 1
              case measure => omega
              case rel => exact ⟨by omega, rfl, Chg.trans HN11.out (by (with_reducible repeat (first | exact Chg.refl _ _ | refine Chg.drew ?_ | refine Chg.alloc ?_ _ | refine Chg.then_new ?_ HN_wF.out))) (fun _ _ h => h)⟩
      · obtain ⟨⟨a00, a01, a02, a03⟩, ha0⟩ : ∃ a, a = dw r p 0 := ⟨_, rfl⟩
        obtain ⟨⟨a10, a11, a12, a13⟩, ha1⟩ : ∃ a, a = dw r p 1 := ⟨_, rfl⟩
        obtain ⟨⟨a20, a21, a22, a23⟩, ha2⟩ : ∃ a, a = dw r p 2 := ⟨_, rfl⟩
        obtain ⟨⟨a30, a31, a32, a33⟩, ha3⟩ : ∃ a, a = dw r p 3 := ⟨_, rfl⟩
        have HPa1 : Hid (∀ wx, Calls Try.prog 11 #[.agg #[.int .i64 a10, .int .i64 a11, .int .i64 a12, .int .i64 a13]] wx fun e w' => e = .returned (.tuple #[.agg #[.int .i64 a00, .int .i64 a01, .int .i64 a02, .int .i64 a03], .int .i64 0]) ∧ New wx w') := fun wx => by
          have hh := Parent_any (dw r p 1) wx
          have hb := hback 0 (by omega)
          simp only [Nat.reduceAdd] at hb
          rw [hb.1, hb.2, ← ha1, ← ha0] at hh
          exact hh
        have HNo1 : Hid (∀ (g m : Nat) (wx : World), Has wx g 23 #[.int .i64 a10, .int .i64 a11, .int .i64 a12, .int .i64 a13] → Calls Try.prog 18 #[.agg #[.int .i64 a00, .int .i64 a01, .int .i64 a02, .int .i64 a03], .slice (some ⟨g, 0, none⟩) 1 m] wx fun e w' => e = .returned (.bool false) ∧ New wx w') := fun g m wx h => by
          have hb := hno 0 (by omega)
          simp only [Nat.reduceAdd] at hb
          have hh := From_onek (dw r p 0) (dw r p 1) g m wx (by rw [← ha1]; exact h)
          rw [hb, ← ha0] at hh
          exact hh
        have HPa2 : Hid (∀ wx, Calls Try.prog 11 #[.agg #[.int .i64 a20, .int .i64 a21, .int .i64 a22, .int .i64 a23]] wx fun e w' => e = .returned (.tuple #[.agg #[.int .i64 a10, .int .i64 a11, .int .i64 a12, .int .i64 a13], .int .i64 0]) ∧ New wx w') := fun wx => by
          have hh := Parent_any (dw r p 2) wx
          have hb := hback 1 (by omega)
          simp only [Nat.reduceAdd] at hb
          rw [hb.1, hb.2, ← ha2, ← ha1] at hh
          exact hh
        have HNo2 : Hid (∀ (g m : Nat) (wx : World), Has wx g 23 #[.int .i64 a20, .int .i64 a21, .int .i64 a22, .int .i64 a23] → Calls Try.prog 18 #[.agg #[.int .i64 a10, .int .i64 a11, .int .i64 a12, .int .i64 a13], .slice (some ⟨g, 0, none⟩) 1 m] wx fun e w' => e = .returned (.bool false) ∧ New wx w') := fun g m wx h => by
          have hb := hno 1 (by omega)
          simp only [Nat.reduceAdd] at hb
          have hh := From_onek (dw r p 1) (dw r p 2) g m wx (by rw [← ha2]; exact h)
          rw [hb, ← ha1] at hh
          exact hh
        have HPa3 : Hid (∀ wx, Calls Try.prog 11 #[.agg #[.int .i64 a30, .int .i64 a31, .int .i64 a32, .int .i64 a33]] wx fun e w' => e = .returned (.tuple #[.agg #[.int .i64 a20, .int .i64 a21, .int .i64 a22, .int .i64 a23], .int .i64 0]) ∧ New wx w') := fun wx => by
          have hh := Parent_any (dw r p 3) wx
          have hb := hback 2 (by omega)
          simp only [Nat.reduceAdd] at hb
          rw [hb.1, hb.2, ← ha3, ← ha2] at hh
          exact hh
        have HNo3 : Hid (∀ (g m : Nat) (wx : World), Has wx g 23 #[.int .i64 a30, .int .i64 a31, .int .i64 a32, .int .i64 a33] → Calls Try.prog 18 #[.agg #[.int .i64 a20, .int .i64 a21, .int .i64 a22, .int .i64 a23], .slice (some ⟨g, 0, none⟩) 1 m] wx fun e w' => e = .returned (.bool false) ∧ New wx w') := fun g m wx h => by
          have hb := hno 2 (by omega)
          simp only [Nat.reduceAdd] at hb
          have hh := From_onek (dw r p 2) (dw r p 3) g m wx (by rw [← ha3]; exact h)
          rw [hb, ← ha2] at hh
          exact hh
        clear hback hno h3
        have y00 : w8.cell? ⟨g, 0, none⟩ = some (.int .i64 a00) := (HKc.out 0 0 (by omega) (by omega)).trans (by rw [← ha0]; rfl)
        have y01 : w8.cell? ⟨g, 1, none⟩ = some (.int .i64 a01) := (HKc.out 0 1 (by omega) (by omega)).trans (by rw [← ha0]; rfl)
        have y02 : w8.cell? ⟨g, 2, none⟩ = some (.int .i64 a02) := (HKc.out 0 2 (by omega) (by omega)).trans (by rw [← ha0]; rfl)
        have y03 : w8.cell? ⟨g, 3, none⟩ = some (.int .i64 a03) := (HKc.out 0 3 (by omega) (by omega)).trans (by rw [← ha0]; rfl)
        have y10 : w8.cell? ⟨g, 4, none⟩ = some (.int .i64 a10) := (HKc.out 1 0 (by omega) (by omega)).trans (by rw [← ha1]; rfl)
        have y11 : w8.cell? ⟨g, 5, none⟩ = some (.int .i64 a11) := (HKc.out 1 1 (by omega) (by omega)).trans (by rw [← ha1]; rfl)
        have y12 : w8.cell? ⟨g, 6, none⟩ = some (.int .i64 a12) := (HKc.out 1 2 (by omega) (by omega)).trans (by rw [← ha1]; rfl)
        have y13 : w8.cell? ⟨g, 7, none⟩ = some (.int .i64 a13) := (HKc.out 1 3 (by omega) (by omega)).trans (by rw [← ha1]; rfl)
        have y20 : w8.cell? ⟨g, 8, none⟩ = some (.int .i64 a20) := (HKc.out 2 0 (by omega) (by omega)).trans (by rw [← ha2]; rfl)
        have y21 : w8.cell? ⟨g, 9, none⟩ = some (.int .i64 a21) := (HKc.out 2 1 (by omega) (by omega)).trans (by rw [← ha2]; rfl)
        have y22 : w8.cell? ⟨g, 10, none⟩ = some (.int .i64 a22) := (HKc.out 2 2 (by omega) (by omega)).trans (by rw [← ha2]; rfl)
        have y23 : w8.cell? ⟨g, 11, none⟩ = some (.int .i64 a23) := (HKc.out 2 3 (by omega) (by omega)).trans (by rw [← ha2]; rfl)
        have y30 : w8.cell? ⟨g, 12, none⟩ = some (.int .i64 a30) := (HKc.out 3 0 (by omega) (by omega)).trans (by rw [← ha3]; rfl)
        have y31 : w8.cell? ⟨g, 13, none⟩ = some (.int .i64 a31) := (HKc.out 3 1 (by omega) (by omega)).trans (by rw [← ha3]; rfl)
        have y32 : w8.cell? ⟨g, 14, none⟩ = some (.int .i64 a32) := (HKc.out 3 2 (by omega) (by omega)).trans (by rw [← ha3]; rfl)
        have y33 : w8.cell? ⟨g, 15, none⟩ = some (.int .i64 a33) := (HKc.out 3 3 (by omega) (by omega)).trans (by rw [← ha3]; rfl)
        have hgl : g < w8.heap.size := World.block_lt_of_cell? _ _ y00
        have HYs : Hid (∀ wx, New w8 wx → (wx.cell? ⟨g, 0, none⟩ = some (.int .i64 a00) ∧ wx.cell? ⟨g, 1, none⟩ = some (.int .i64 a01) ∧ wx.cell? ⟨g, 2, none⟩ = some (.int .i64 a02) ∧ wx.cell? ⟨g, 3, none⟩ = some (.int .i64 a03) ∧ wx.cell? ⟨g, 4, none⟩ = some (.int .i64 a10) ∧ wx.cell? ⟨g, 5, none⟩ = some (.int .i64 a11) ∧ wx.cell? ⟨g, 6, none⟩ = some (.int .i64 a12) ∧ wx.cell? ⟨g, 7, none⟩ = some (.int .i64 a13) ∧ wx.cell? ⟨g, 8, none⟩ = some (.int .i64 a20) ∧ wx.cell? ⟨g, 9, none⟩ = some (.int .i64 a21) ∧ wx.cell? ⟨g, 10, none⟩ = some (.int .i64 a22) ∧ wx.cell? ⟨g, 11, none⟩ = some (.int .i64 a23) ∧ wx.cell? ⟨g, 12, none⟩ = some (.int .i64 a30) ∧ wx.cell? ⟨g, 13, none⟩ = some (.int .i64 a31) ∧ wx.cell? ⟨g, 14, none⟩ = some (.int .i64 a32) ∧ wx.cell? ⟨g, 15, none⟩ = some (.int .i64 a33))) := fun wx h => ⟨(h.cell hgl (fun f => f)).trans y00, (h.cell hgl (fun f => f)).trans y01, (h.cell hgl (fun f => f)).trans y02, (h.cell hgl (fun f => f)).trans y03, (h.cell hgl (fun f => f)).trans y10, (h.cell hgl (fun f => f)).trans y11, (h.cell hgl (fun f => f)).trans y12, (h.cell hgl (fun f => f)).trans y13, (h.cell hgl (fun f => f)).trans y20, (h.cell hgl (fun f => f)).trans y21, (h.cell hgl (fun f => f)).trans y22, (h.cell hgl (fun f => f)).trans y23, (h.cell hgl (fun f => f)).trans y30, (h.cell hgl (fun f => f)).trans y31, (h.cell hgl (fun f => f)).trans y32, (h.cell hgl (fun f => f)).trans y33⟩
        clear y00 y01 y02 y03 y10 y11 y12 y13 y20 y21 y22 y23 y30 y31 y32 y33 ha0 ha1 ha2 ha3 HKc
        go_wp2_with fail
        go_loopg [12] 3 (fun gk s12 wr => gk ≤ 3 ∧ s12 = .int .i64 (gk : Nat) ∧ New w8 wr)
        case atStart => exact ⟨by omega, rfl, Chg.refl _ _⟩
        case round =>
          obtain ⟨hle, rfl, hN9⟩ := hrel
          have HN9 := Lib.hid hN9
          clear hN9
          rcases (show gk = 0 ∨ gk = 1 ∨ gk = 2 ∨ gk = 3 by omega) with rfl | rfl | rfl | rfl
          · go_wp2_with fail
            go_ret
            exact ⟨rfl, (HN_5.out.then_new HN9.out)⟩
          · obtain ⟨y00, y01, y02, y03, y10, y11, y12, y13, y20, y21, y22, y23, y30, y31, y32, y33⟩ := HYs.out _ HN9.out
            have hgw := Nat.lt_of_lt_of_le hgl HN9.out.size
            go_wp2_with fail
            with_reducible refine (HPa1.out _).mono ?_
            rintro e w9 ⟨rfl, hNa⟩
            have HN10 := Lib.hid (HN9.out.then_new hNa)
            clear hNa y00 y01 y02 y03 y10 y11 y12 y13 y20 y21 y22 y23 y30 y31 y32 y33 hgw
            go_upto_region 22 with (fail)
            obtain ⟨w10, hw10⟩ : ∃ w10, w10 = w9.alloc (.cells #[.int .i64 a00, .int .i64 a01, .int .i64 a02, .int .i64 a03] 23) := ⟨_, rfl⟩
            have HB : Hid (Has w10 w9.heap.size 23 #[.int .i64 a00, .int .i64 a01, .int .i64 a02, .int .i64 a03]) := by rw [hw10]; exact Has.new _ _ _
            have HN11 : Hid (New w8 w10) := by rw [hw10]; exact HN10.out.alloc _
            rw [← hw10]
            clear hw10 HN10
            have hgw := Nat.lt_of_lt_of_le hgl HN11.out.size
            obtain ⟨y00, y01, y02, y03, y10, y11, y12, y13, y20, y21, y22, y23, y30, y31, y32, y33⟩ := HYs.out _ HN11.out
            have b0 : w10.cell? ⟨w9.heap.size, 0, none⟩ = some (.int .i64 a00) := (HB.out.cell 0).trans rfl
            have b1 : w10.cell? ⟨w9.heap.size, 1, none⟩ = some (.int .i64 a01) := (HB.out.cell 1).trans rfl
            have b2 : w10.cell? ⟨w9.heap.size, 2, none⟩ = some (.int .i64 a02) := (HB.out.cell 2).trans rfl
            have b3 : w10.cell? ⟨w9.heap.size, 3, none⟩ = some (.int .i64 a03) := (HB.out.cell 3).trans rfl
            have lb := HB.out.lt
            have hwq : IntKind.i64.wrap 0 = 0 := IntWalk.i64_in _ (by omega)
            have HK : Hid (∀ wx, New w10 wx → (wx.cell? ⟨g, 0, none⟩ = some (.int .i64 a00) ∧ wx.cell? ⟨g, 1, none⟩ = some (.int .i64 a01) ∧ wx.cell? ⟨g, 2, none⟩ = some (.int .i64 a02) ∧ wx.cell? ⟨g, 3, none⟩ = some (.int .i64 a03) ∧ wx.cell? ⟨g, 4, none⟩ = some (.int .i64 a10) ∧ wx.cell? ⟨g, 5, none⟩ = some (.int .i64 a11) ∧ wx.cell? ⟨g, 6, none⟩ = some (.int .i64 a12) ∧ wx.cell? ⟨g, 7, none⟩ = some (.int .i64 a13) ∧ wx.cell? ⟨w9.heap.size, 0, none⟩ = some (.int .i64 a00) ∧ wx.cell? ⟨w9.heap.size, 1, none⟩ = some (.int .i64 a01) ∧ wx.cell? ⟨w9.heap.size, 2, none⟩ = some (.int .i64 a02) ∧ wx.cell? ⟨w9.heap.size, 3, none⟩ = some (.int .i64 a03))) := fun wx h => ⟨(h.cell hgw (fun f => f)).trans y00, (h.cell hgw (fun f => f)).trans y01, (h.cell hgw (fun f => f)).trans y02, (h.cell hgw (fun f => f)).trans y03, (h.cell hgw (fun f => f)).trans y10, (h.cell hgw (fun f => f)).trans y11, (h.cell hgw (fun f => f)).trans y12, (h.cell hgw (fun f => f)).trans y13, ((HB.out.keep h).cell 0).trans rfl, ((HB.out.keep h).cell 1).trans rfl, ((HB.out.keep h).cell 2).trans rfl, ((HB.out.keep h).cell 3).trans rfl⟩
            go_region_held_law (fun wx => wx.cell? ⟨g, 0, none⟩ = some (.int .i64 a00) ∧ wx.cell? ⟨g, 1, none⟩ = some (.int .i64 a01) ∧ wx.cell? ⟨g, 2, none⟩ = some (.int .i64 a02) ∧ wx.cell? ⟨g, 3, none⟩ = some (.int .i64 a03) ∧ wx.cell? ⟨g, 4, none⟩ = some (.int .i64 a10) ∧ wx.cell? ⟨g, 5, none⟩ = some (.int .i64 a11) ∧ wx.cell? ⟨g, 6, none⟩ = some (.int .i64 a12) ∧ wx.cell? ⟨g, 7, none⟩ = some (.int .i64 a13) ∧ wx.cell? ⟨w9.heap.size, 0, none⟩ = some (.int .i64 a00) ∧ wx.cell? ⟨w9.heap.size, 1, none⟩ = some (.int .i64 a01) ∧ wx.cell? ⟨w9.heap.size, 2, none⟩ = some (.int .i64 a02) ∧ wx.cell? ⟨w9.heap.size, 3, none⟩ = some (.int .i64 a03))
              (with_reducible refine HK.out _ ?_; (with_reducible repeat (first | exact Chg.refl _ _ | refine Chg.drew ?_ | refine Chg.alloc ?_ _ | refine Chg.then_new ?_ HN_wF.out)))
              (first
                | (go_at_call 18
                   with_reducible refine (HNo1.out _ _ _ ?hH).mono ?_
                   case hH => (with_reducible repeat (first | exact Has.new_at _ _ _ _ rfl | exact Has.new_at _ _ _ _ (World.size_alloc _ _) | refine Has.drew ?_ | refine Has.alloc ?_ _))
                   rintro e wF ⟨rfl, hNwF⟩
                   have HN_wF := Lib.hid hNwF
                   clear hNwF))
            all_goals
              go_wp2_with fail
              go_roundg 0
              case measure => omega
              case rel => exact ⟨by omega, rfl, Chg.trans HN11.out (by (with_reducible repeat (first | exact Chg.refl _ _ | refine Chg.drew ?_ | refine Chg.alloc ?_ _ | refine Chg.then_new ?_ HN_wF.out))) (fun _ _ h => h)⟩
          · obtain ⟨y00, y01, y02, y03, y10, y11, y12, y13, y20, y21, y22, y23, y30, y31, y32, y33⟩ := HYs.out _ HN9.out
            have hgw := Nat.lt_of_lt_of_le hgl HN9.out.size
            go_wp2_with fail
            with_reducible refine (HPa2.out _).mono ?_
            rintro e w9 ⟨rfl, hNa⟩
            have HN10 := Lib.hid (HN9.out.then_new hNa)
            clear hNa y00 y01 y02 y03 y10 y11 y12 y13 y20 y21 y22 y23 y30 y31 y32 y33 hgw
            go_upto_region 22 with (fail)
            obtain ⟨w10, hw10⟩ : ∃ w10, w10 = w9.alloc (.cells #[.int .i64 a10, .int .i64 a11, .int .i64 a12, .int .i64 a13] 23) := ⟨_, rfl⟩
            have HB : Hid (Has w10 w9.heap.size 23 #[.int .i64 a10, .int .i64 a11, .int .i64 a12, .int .i64 a13]) := by rw [hw10]; exact Has.new _ _ _
            have HN11 : Hid (New w8 w10) := by rw [hw10]; exact HN10.out.alloc _
            rw [← hw10]
            clear hw10 HN10
            have hgw := Nat.lt_of_lt_of_le hgl HN11.out.size
            obtain ⟨y00, y01, y02, y03, y10, y11, y12, y13, y20, y21, y22, y23, y30, y31, y32, y33⟩ := HYs.out _ HN11.out
            have b0 : w10.cell? ⟨w9.heap.size, 0, none⟩ = some (.int .i64 a10) := (HB.out.cell 0).trans rfl
            have b1 : w10.cell? ⟨w9.heap.size, 1, none⟩ = some (.int .i64 a11) := (HB.out.cell 1).trans rfl
            have b2 : w10.cell? ⟨w9.heap.size, 2, none⟩ = some (.int .i64 a12) := (HB.out.cell 2).trans rfl
            have b3 : w10.cell? ⟨w9.heap.size, 3, none⟩ = some (.int .i64 a13) := (HB.out.cell 3).trans rfl
            have lb := HB.out.lt
            have hwq : IntKind.i64.wrap 1 = 1 := IntWalk.i64_in _ (by omega)
            have HK : Hid (∀ wx, New w10 wx → (wx.cell? ⟨g, 4, none⟩ = some (.int .i64 a10) ∧ wx.cell? ⟨g, 5, none⟩ = some (.int .i64 a11) ∧ wx.cell? ⟨g, 6, none⟩ = some (.int .i64 a12) ∧ wx.cell? ⟨g, 7, none⟩ = some (.int .i64 a13) ∧ wx.cell? ⟨g, 8, none⟩ = some (.int .i64 a20) ∧ wx.cell? ⟨g, 9, none⟩ = some (.int .i64 a21) ∧ wx.cell? ⟨g, 10, none⟩ = some (.int .i64 a22) ∧ wx.cell? ⟨g, 11, none⟩ = some (.int .i64 a23) ∧ wx.cell? ⟨w9.heap.size, 0, none⟩ = some (.int .i64 a10) ∧ wx.cell? ⟨w9.heap.size, 1, none⟩ = some (.int .i64 a11) ∧ wx.cell? ⟨w9.heap.size, 2, none⟩ = some (.int .i64 a12) ∧ wx.cell? ⟨w9.heap.size, 3, none⟩ = some (.int .i64 a13))) := fun wx h => ⟨(h.cell hgw (fun f => f)).trans y10, (h.cell hgw (fun f => f)).trans y11, (h.cell hgw (fun f => f)).trans y12, (h.cell hgw (fun f => f)).trans y13, (h.cell hgw (fun f => f)).trans y20, (h.cell hgw (fun f => f)).trans y21, (h.cell hgw (fun f => f)).trans y22, (h.cell hgw (fun f => f)).trans y23, ((HB.out.keep h).cell 0).trans rfl, ((HB.out.keep h).cell 1).trans rfl, ((HB.out.keep h).cell 2).trans rfl, ((HB.out.keep h).cell 3).trans rfl⟩
            go_region_held_law (fun wx => wx.cell? ⟨g, 4, none⟩ = some (.int .i64 a10) ∧ wx.cell? ⟨g, 5, none⟩ = some (.int .i64 a11) ∧ wx.cell? ⟨g, 6, none⟩ = some (.int .i64 a12) ∧ wx.cell? ⟨g, 7, none⟩ = some (.int .i64 a13) ∧ wx.cell? ⟨g, 8, none⟩ = some (.int .i64 a20) ∧ wx.cell? ⟨g, 9, none⟩ = some (.int .i64 a21) ∧ wx.cell? ⟨g, 10, none⟩ = some (.int .i64 a22) ∧ wx.cell? ⟨g, 11, none⟩ = some (.int .i64 a23) ∧ wx.cell? ⟨w9.heap.size, 0, none⟩ = some (.int .i64 a10) ∧ wx.cell? ⟨w9.heap.size, 1, none⟩ = some (.int .i64 a11) ∧ wx.cell? ⟨w9.heap.size, 2, none⟩ = some (.int .i64 a12) ∧ wx.cell? ⟨w9.heap.size, 3, none⟩ = some (.int .i64 a13))
              (with_reducible refine HK.out _ ?_; (with_reducible repeat (first | exact Chg.refl _ _ | refine Chg.drew ?_ | refine Chg.alloc ?_ _ | refine Chg.then_new ?_ HN_wF.out)))
              (first
                | (go_at_call 18
                   with_reducible refine (HNo2.out _ _ _ ?hH).mono ?_
                   case hH => (with_reducible repeat (first | exact Has.new_at _ _ _ _ rfl | exact Has.new_at _ _ _ _ (World.size_alloc _ _) | refine Has.drew ?_ | refine Has.alloc ?_ _))
                   rintro e wF ⟨rfl, hNwF⟩
                   have HN_wF := Lib.hid hNwF
                   clear hNwF))
            all_goals
              go_wp2_with fail
              go_roundg 1
              case measure => omega
              case rel => exact ⟨by omega, rfl, Chg.trans HN11.out (by (with_reducible repeat (first | exact Chg.refl _ _ | refine Chg.drew ?_ | refine Chg.alloc ?_ _ | refine Chg.then_new ?_ HN_wF.out))) (fun _ _ h => h)⟩
          · obtain ⟨y00, y01, y02, y03, y10, y11, y12, y13, y20, y21, y22, y23, y30, y31, y32, y33⟩ := HYs.out _ HN9.out
            have hgw := Nat.lt_of_lt_of_le hgl HN9.out.size
            go_wp2_with fail
            with_reducible refine (HPa3.out _).mono ?_
            rintro e w9 ⟨rfl, hNa⟩
            have HN10 := Lib.hid (HN9.out.then_new hNa)
            clear hNa y00 y01 y02 y03 y10 y11 y12 y13 y20 y21 y22 y23 y30 y31 y32 y33 hgw
            go_upto_region 22 with (fail)
            obtain ⟨w10, hw10⟩ : ∃ w10, w10 = w9.alloc (.cells #[.int .i64 a20, .int .i64 a21, .int .i64 a22, .int .i64 a23] 23) := ⟨_, rfl⟩
            have HB : Hid (Has w10 w9.heap.size 23 #[.int .i64 a20, .int .i64 a21, .int .i64 a22, .int .i64 a23]) := by rw [hw10]; exact Has.new _ _ _
            have HN11 : Hid (New w8 w10) := by rw [hw10]; exact HN10.out.alloc _
            rw [← hw10]
            clear hw10 HN10
            have hgw := Nat.lt_of_lt_of_le hgl HN11.out.size
            obtain ⟨y00, y01, y02, y03, y10, y11, y12, y13, y20, y21, y22, y23, y30, y31, y32, y33⟩ := HYs.out _ HN11.out
            have b0 : w10.cell? ⟨w9.heap.size, 0, none⟩ = some (.int .i64 a20) := (HB.out.cell 0).trans rfl
            have b1 : w10.cell? ⟨w9.heap.size, 1, none⟩ = some (.int .i64 a21) := (HB.out.cell 1).trans rfl
            have b2 : w10.cell? ⟨w9.heap.size, 2, none⟩ = some (.int .i64 a22) := (HB.out.cell 2).trans rfl
            have b3 : w10.cell? ⟨w9.heap.size, 3, none⟩ = some (.int .i64 a23) := (HB.out.cell 3).trans rfl
            have lb := HB.out.lt
            have hwq : IntKind.i64.wrap 2 = 2 := IntWalk.i64_in _ (by omega)
            have HK : Hid (∀ wx, New w10 wx → (wx.cell? ⟨g, 8, none⟩ = some (.int .i64 a20) ∧ wx.cell? ⟨g, 9, none⟩ = some (.int .i64 a21) ∧ wx.cell? ⟨g, 10, none⟩ = some (.int .i64 a22) ∧ wx.cell? ⟨g, 11, none⟩ = some (.int .i64 a23) ∧ wx.cell? ⟨g, 12, none⟩ = some (.int .i64 a30) ∧ wx.cell? ⟨g, 13, none⟩ = some (.int .i64 a31) ∧ wx.cell? ⟨g, 14, none⟩ = some (.int .i64 a32) ∧ wx.cell? ⟨g, 15, none⟩ = some (.int .i64 a33) ∧ wx.cell? ⟨w9.heap.size, 0, none⟩ = some (.int .i64 a20) ∧ wx.cell? ⟨w9.heap.size, 1, none⟩ = some (.int .i64 a21) ∧ wx.cell? ⟨w9.heap.size, 2, none⟩ = some (.int .i64 a22) ∧ wx.cell? ⟨w9.heap.size, 3, none⟩ = some (.int .i64 a23))) := fun wx h => ⟨(h.cell hgw (fun f => f)).trans y20, (h.cell hgw (fun f => f)).trans y21, (h.cell hgw (fun f => f)).trans y22, (h.cell hgw (fun f => f)).trans y23, (h.cell hgw (fun f => f)).trans y30, (h.cell hgw (fun f => f)).trans y31, (h.cell hgw (fun f => f)).trans y32, (h.cell hgw (fun f => f)).trans y33, ((HB.out.keep h).cell 0).trans rfl, ((HB.out.keep h).cell 1).trans rfl, ((HB.out.keep h).cell 2).trans rfl, ((HB.out.keep h).cell 3).trans rfl⟩
            go_region_held_law (fun wx => wx.cell? ⟨g, 8, none⟩ = some (.int .i64 a20) ∧ wx.cell? ⟨g, 9, none⟩ = some (.int .i64 a21) ∧ wx.cell? ⟨g, 10, none⟩ = some (.int .i64 a22) ∧ wx.cell? ⟨g, 11, none⟩ = some (.int .i64 a23) ∧ wx.cell? ⟨g, 12, none⟩ = some (.int .i64 a30) ∧ wx.cell? ⟨g, 13, none⟩ = some (.int .i64 a31) ∧ wx.cell? ⟨g, 14, none⟩ = some (.int .i64 a32) ∧ wx.cell? ⟨g, 15, none⟩ = some (.int .i64 a33) ∧ wx.cell? ⟨w9.heap.size, 0, none⟩ = some (.int .i64 a20) ∧ wx.cell? ⟨w9.heap.size, 1, none⟩ = some (.int .i64 a21) ∧ wx.cell? ⟨w9.heap.size, 2, none⟩ = some (.int .i64 a22) ∧ wx.cell? ⟨w9.heap.size, 3, none⟩ = some (.int .i64 a23))
              (with_reducible refine HK.out _ ?_; (with_reducible repeat (first | exact Chg.refl _ _ | refine Chg.drew ?_ | refine Chg.alloc ?_ _ | refine Chg.then_new ?_ HN_wF.out)))
              (first
                | (go_at_call 18
                   with_reducible refine (HNo3.out _ _ _ ?hH).mono ?_
                   case hH => (with_reducible repeat (first | exact Has.new_at _ _ _ _ rfl | exact Has.new_at _ _ _ _ (World.size_alloc _ _) | refine Has.drew ?_ | refine Has.alloc ?_ _))
                   rintro e wF ⟨rfl, hNwF⟩
                   have HN_wF := Lib.hid hNwF
                   clear hNwF))
            all_goals
              go_wp2_with fail
              go_roundg 2
              case measure => omega
              case rel => exact ⟨by omega, rfl, Chg.trans HN11.out (by (with_reducible repeat (first | exact Chg.refl _ _ | refine Chg.drew ?_ | refine Chg.alloc ?_ _ | refine Chg.then_new ?_ HN_wF.out))) (fun _ _ h => h)⟩
  · rw [derK_bad rfl he] at HDe0
    obtain ⟨e, hee⟩ : ∃ e, e = derE r n p := ⟨_, rfl⟩
    rw [← hee] at he HDe0
    clear hee
    have he' : (e != 0) = true := bne_iff_ne.2 he
    obtain ⟨o, t, c, v⟩ := r
    have HDe : Hid (∀ wx, New w wx → Calls Try.prog 9 #[.agg #[.int .i64 o, .int .i64 t, .int .i64 c, .int .i64 v], .slice A n cc] wx fun e' w' => e' = .returned (.tuple #[.agg #[.int .i64 0, .int .i64 0, .int .i64 0, .int .i64 0], .int .i64 e]) ∧ New wx w') := HDe0.out
    clear HDe0 he
    go_enter Try.func5, Try.ntmps5
    go_wp2_with fail
    with_reducible refine (awake_any _).mono ?_
    rintro e w1 ⟨rfl, hN⟩
    have HT_1 := Lib.hid ((Has.new_at w 23 #[.int .i64 o, .int .i64 t, .int .i64 c, .int .i64 v] (w.heap.size) (by simp)).keep hN)
    have HN_1 := Lib.hid (((Chg.refl (fun _ => False) w).alloc (.cells #[.int .i64 o, .int .i64 t, .int .i64 c, .int .i64 v] 23)).then_new hN)
    clear hN
    have cT0 : w1.cell? ⟨w.heap.size, 0, none⟩ = some (.int .i64 o) := (HT_1.out.cell 0).trans rfl
    have cT1 : w1.cell? ⟨w.heap.size, 1, none⟩ = some (.int .i64 t) := (HT_1.out.cell 1).trans rfl
    have cT2 : w1.cell? ⟨w.heap.size, 2, none⟩ = some (.int .i64 c) := (HT_1.out.cell 2).trans rfl
    have cT3 : w1.cell? ⟨w.heap.size, 3, none⟩ = some (.int .i64 v) := (HT_1.out.cell 3).trans rfl
    have lT := HT_1.out.lt
    go_wp2_with fail
    with_reducible refine (HDe.out _ HN_1.out).mono ?_
    rintro e w2 ⟨rfl, hN⟩
    have HT_2 := Lib.hid (HT_1.out.keep hN)
    have HN_2 := Lib.hid (HN_1.out.then_new hN)
    clear HT_1 HN_1 cT0 cT1 cT2 cT3 lT hN
    have cT0 : w2.cell? ⟨w.heap.size, 0, none⟩ = some (.int .i64 o) := (HT_2.out.cell 0).trans rfl
    have cT1 : w2.cell? ⟨w.heap.size, 1, none⟩ = some (.int .i64 t) := (HT_2.out.cell 1).trans rfl
    have cT2 : w2.cell? ⟨w.heap.size, 2, none⟩ = some (.int .i64 c) := (HT_2.out.cell 2).trans rfl
    have cT3 : w2.cell? ⟨w.heap.size, 3, none⟩ = some (.int .i64 v) := (HT_2.out.cell 3).trans rfl
    have lT := HT_2.out.lt
    go_wp2_with fail
    go_ret
    exact ⟨rfl, (HN_2.out.alloc (.cells #[.int .i64 0, .int .i64 0, .int .i64 0, .int .i64 0] 23))⟩
end Go.Proofs.Ytkegafkmcdkphaa
