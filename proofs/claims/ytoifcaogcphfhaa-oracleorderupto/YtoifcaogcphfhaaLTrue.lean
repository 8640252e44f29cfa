/-
  The law OracleTrue, walked.
-/
import Derived.Test.YtoifcaogcphfhaaOrT
import Derived.Lib.ConvBytes
namespace Go.Proofs.Ytoifcaogcphfhaa
open Go.ChangeShapes Go.WideShapes Go.ChangeAt Go.RowKit Go.Maps
/-- Holds, in short -/
theorem Holds_dt (base g : Nat) (M : List Sl) (t : Int) (x : Cl) (hx : ClOk x) (D : Option Addr) (n c : Nat) (F : Nat → Prop) (w wx : World) (hw : New w wx) (hM : Orc wx base g M) (hD : Dt w F D n c x.L) (hF : ∀ k, F k → k < w.heap.size) :
    Calls Try.prog 9 #[.pointer (some ⟨g, 0, none⟩), .int .i64 t, .agg #[.int .i64 x.k0, .int .i64 x.k1, .int .i64 x.k2, .int .i64 x.k3], .slice D n c] wx fun e w' => e = .returned (.bool (holdsB M x.sl t)) ∧ New wx w' := by
  obtain ⟨h1, h2, h3, h4, h5⟩ := hD.chg hw fun k hk => ⟨hF k hk, fun f => f⟩
  exact Holds_any base g M t x.k0 x.k1 x.k2 x.k3 hx.k0 hx.k1 hx.k2 hx.k3 D n c F x.L wx hM h4 (fun k hk => Nat.lt_of_lt_of_le (hF k hk) hw.size) h1 h2 (by omega) (by omega)
theorem Mint_dt (base g : Nat) (M : List Sl) (x : Cl) (hx : ClOk x) (D : Option Addr) (n c : Nat) (F : Nat → Prop) (w wx : World) (hw : New w wx) (hM : Orc wx base g M) (hm : M.length ≤ 1000) (hD : Dt w F D n c x.L) (hF : ∀ k, F k → k < w.heap.size) :
    Calls Try.prog 11 #[.pointer (some ⟨g, 0, none⟩), .agg #[.int .i64 x.k0, .int .i64 x.k1, .int .i64 x.k2, .int .i64 x.k3], .slice D n c] wx fun e w' => e = .returned (.int .i64 (mintN M x.sl : Nat)) ∧ Orc w' base g (mintL M x.sl) ∧ Chg (OS base wx) wx w' := by
  obtain ⟨h1, h2, h3, h4, h5⟩ := hD.chg hw fun k hk => ⟨hF k hk, fun f => f⟩
  exact Mint_orc base g M x.k0 x.k1 x.k2 x.k3 hx.k0 hx.k1 hx.k2 hx.k3 D n c F x.L wx hM hm h4 (fun k hk => Nat.lt_of_lt_of_le (hF k hk) hw.size) h1 h2 (by omega) (by omega)
theorem joined_dt (x : Cl) (D : Option Addr) (n c : Nat) (F : Nat → Prop) (w wx : World) (hw : New w wx) (hD : Dt w F D n c x.L) (hF : ∀ k, F k → k < w.heap.size) :
    Calls Try.prog 7 #[.slice D n c] wx fun e w' => e = .returned (.string (bstr x.L.flatten)) ∧ w' = wx := by
  obtain ⟨h1, h2, h3, h4, h5⟩ := hD.chg hw fun k hk => ⟨hF k hk, fun f => f⟩
  exact joined_any D n c F x.L wx h4 h1 (by omega) (by omega)
/-- '[]byte(s)' -/
theorem conv_bytes (bs : List Nat) (h256 : ∀ x ∈ bs, x < 256) (hb : bs.length ≤ 140737488355328) (w : World) : ∃ cB wB, (convert 9 37 (.string (bstr bs))).run Try.prog w = .ok (.slice (some ⟨w.heap.size, 0, none⟩) bs.length cB) wB ∧ New w wB ∧ Byts wB (· < wB.heap.size) (.slice (some ⟨w.heap.size, 0, none⟩) bs.length cB) bs ∧ bs.length ≤ cB := by
  have hr := Lib.run_convert_string_bytes (P := Try.prog) w 9 37 5 (bstr bs) Try.underlying9 Try.underlying37 Try.underlying5
  rw [bstr_size] at hr
  refine ⟨_, _, hr, ⟨rfl, rfl, rfl, by rw [Lib.bytesWorld_size]; omega, fun k hk _ => Lib.bytesWorld_at_old w 5 (bstr bs) k hk⟩, ⟨_, _, rfl, fun i hi => ⟨_, rfl, by rw [Lib.bytesWorld_size]; simp, ?_⟩, (fun h => by cases h), h256, hb⟩, by have := grownCap_ge w bs.length 0 5; omega⟩
  have hadd : (⟨w.heap.size, 0, none⟩ : Addr).add i = ⟨w.heap.size, i, none⟩ := by unfold Addr.add; split <;> simp_all
  rw [hadd, Lib.bytesWorld_cell w 5 (bstr bs) i (by rw [bstr_size]; exact hi)]
  have hx := h256 bs[i] (List.getElem_mem hi)
  simp [bstr, bV, List.getD_eq_getElem?_getD, hi]
  omega
theorem str_same (a b : ByteArray) : (a.toList == b.toList) = decide (a = b) := by
  rw [Bool.eq_iff_iff, beq_iff_eq, decide_eq_true_iff]
  constructor
  · intro h
    rw [ByteArray.toList_eq, ByteArray.toList_eq] at h
    exact ByteArray.ext (Array.toList_inj.1 h)
  · intro h; rw [h]
theorem dt_small {w : World} {F : Nat → Prop} {D : Option Addr} {n c : Nat} {L : List (List Nat)} (h : Dt w F D n c L) : ∀ x ∈ L.flatten, x < 256 := by
  obtain ⟨_, _, _, ⟨vs, _, hB⟩, _⟩ := h
  exact flat_small fun i hi => by
    obtain ⟨_, _, _, _, _, h, _⟩ := hB i hi
    exact h
set_option maxRecDepth 100000 in
set_option maxHeartbeats 8000000 in
theorem true_walk {W : World} (A : Option Addr) (N c : Nat) (z : Cls W (· < W.heap.size) A N) (hN : N ≤ 1048576) (y : Cl) (GD : Option Addr) (gn gc : Nat) (hy : ClOk y) (hyD : Dt W (· < W.heap.size) GD gn gc y.L) :
    Calls Try.prog 4 #[.slice A N c, .agg #[.bool y.ask, .int .i64 y.t, .int .i64 y.k0, .int .i64 y.k1, .int .i64 y.k2, .int .i64 y.k3, .slice GD gn gc]] W fun e W' => e = .returned (.bool true) ∧ New W W' := by
  have HZ := Lib.hid z; clear z
  have HyD := Lib.hid hyD; clear hyD
  have Hy := Lib.hid hy; clear hy
  have HHg : Hid (∀ (base g : Nat) (M : List Sl) (t : Int) (wx : World), New W wx → Orc wx base g M → Calls Try.prog 9 #[.pointer (some ⟨g, 0, none⟩), .int .i64 t, .agg #[.int .i64 y.k0, .int .i64 y.k1, .int .i64 y.k2, .int .i64 y.k3], .slice GD gn gc] wx fun e w' => e = .returned (.bool (holdsB M y.sl t)) ∧ New wx w') :=
    fun base g M t wx h1 h2 => Holds_dt base g M t y Hy.out GD gn gc _ W wx h1 h2 HyD.out fun k hk => hk
  have HJg : Hid (∀ wx, New W wx → Calls Try.prog 7 #[.slice GD gn gc] wx fun e w' => e = .returned (.string (bstr y.L.flatten)) ∧ w' = wx) :=
    fun wx h1 => joined_dt y GD gn gc _ W wx h1 HyD.out fun k hk => hk
  obtain ⟨ya, yt, g0, g1, g2, g3, yL⟩ := y
  dsimp only at HHg HJg ⊢
  obtain ⟨gs, hgs⟩ : ∃ gs : Sl, gs = Cl.sl ⟨ya, yt, g0, g1, g2, g3, yL⟩ := ⟨_, rfl⟩
  rw [← hgs] at HHg
  have Hgs := Lib.hid hgs; clear hgs
  go_enter Try.func4, Try.ntmps4
  go_wp2_with (go_at_call 6; (with_reducible refine (awake_any _).mono ?_); rintro e w1 ⟨rfl, hN1⟩
               have hG1 := (Has.new W 35 #[.bool ya, .int .i64 yt, .int .i64 g0, .int .i64 g1, .int .i64 g2, .int .i64 g3, .slice GD gn gc]).keep hN1
               have HN1 : Hid (New W w1) := Chg.new_then ((Chg.refl _ _).alloc _) hN1
               have HG1 := Lib.hid hG1
               clear hG1 hN1)
  have hM2 := Orc.made w1
  have hN2 : New w1 (w1.alloc (.cells #[.map none, .slice none 0 0] 28)) := (Chg.refl _ _).alloc _
  obtain ⟨w2, hw2⟩ : ∃ w2, w2 = w1.alloc (.cells #[.map none, .slice none 0 0] 28) := ⟨_, rfl⟩
  rw [← hw2] at hM2 hN2 ⊢
  clear hw2
  obtain ⟨g, hg⟩ : ∃ g, g = w1.heap.size := ⟨_, rfl⟩
  rw [← hg] at hM2 ⊢
  have Hg := Lib.hid hg; clear hg
  obtain ⟨gb, hgb⟩ : ∃ gb, gb = W.heap.size := ⟨_, rfl⟩
  rw [← hgb] at HG1 ⊢
  have HGc : Hid (∀ wx, New w1 wx → wx.cell? ⟨gb, 1, none⟩ = some (.int .i64 yt) ∧ wx.cell? ⟨gb, 2, none⟩ = some (.int .i64 g0) ∧ wx.cell? ⟨gb, 3, none⟩ = some (.int .i64 g1) ∧ wx.cell? ⟨gb, 4, none⟩ = some (.int .i64 g2) ∧ wx.cell? ⟨gb, 5, none⟩ = some (.int .i64 g3) ∧ wx.cell? ⟨gb, 6, none⟩ = some (.slice GD gn gc)) := fun wx hx =>
    have h := HG1.out.keep hx
    ⟨(h.cell 1).trans rfl, (h.cell 2).trans rfl, (h.cell 3).trans rfl, (h.cell 4).trans rfl, (h.cell 5).trans rfl, (h.cell 6).trans rfl⟩
  have HM2 := Lib.hid hM2; clear hM2
  have HN2 := Lib.hid hN2; clear hN2
  clear hgb HG1
  have hmz : Nat.min N 100 ≤ N := Nat.min_le_left _ _
  go_loopg [6, 7] (100 - 0) (fun gk b i wr => ∃ (k : Nat) (M : List Sl), k ≤ 100 ∧ k ≤ N ∧ gk = 100 - k ∧ b = .bool (holdsB M gs yt) ∧ i = .int .i64 k ∧ Orc wr g g M ∧ M.length ≤ k ∧ New w1 wr)
  case atStart => exact ⟨0, [], by omega, by omega, by omega, rfl, rfl, HM2.out, by simp, HN2.out⟩
  case round =>
    obtain ⟨k, M, hk, hkN, rfl, rfl, rfl, hM, hMl, hN3⟩ := hrel
    clear HM2 HN2
    have HM := Lib.hid hM; clear hM
    have HN3 := Lib.hid hN3; clear hN3
    by_cases hlt : k < N ∧ k < 100
    · obtain ⟨hlt, hlt2⟩ := hlt
      obtain ⟨x, D, n, dc, hx⟩ := HZ.out k hlt
      have hx3 := hx.chg (HN1.out.then_new HN3.out) fun k hk => ⟨hk, fun f => f⟩
      obtain ⟨a, rfl, hab, c0, c1, c2, c3, c4, c5, c6, hok, hD⟩ := hx3
      have HxD : Hid (Dt W (· < W.heap.size) D n dc x.L) := by obtain ⟨_, _, _, _, _, _, _, _, _, _, _, h⟩ := hx; exact h
      have Hok := Lib.hid hok; clear hok
      clear hD
      obtain ⟨xa, xt, k0, k1, k2, k3, xL⟩ := x
      dsimp only at c0 c1 c2 c3 c4 c5 HxD
      have HMi := Lib.hid (Mint_dt g g M ⟨xa, xt, k0, k1, k2, k3, xL⟩ Hok.out D n dc _ W wr.drew (HN1.out.then_new HN3.out.drew) (HM.out.new (Chg.refl _ _).drew) (by omega) HxD.out fun k hk => hk)
      dsimp only at HMi
      have tk : decide ((k : Int) < (N : Int)) = true := by simp; omega
      have tk2 : decide (k < N) = true := by simp; omega
      have tl : decide ((k : Int) < 100) = true := by simp; omega
      have tl2 : decide (k < 100) = true := by simp; omega
      go_upto_region 8 with (fail)
      have HKW : Hid (∀ wx, New W wx → wx.cell? ⟨(a.add (k * 7)).block, (a.add (k * 7)).off + 2, none⟩ = some (.int .i64 k0) ∧ wx.cell? ⟨(a.add (k * 7)).block, (a.add (k * 7)).off + 3, none⟩ = some (.int .i64 k1) ∧ wx.cell? ⟨(a.add (k * 7)).block, (a.add (k * 7)).off + 4, none⟩ = some (.int .i64 k2) ∧ wx.cell? ⟨(a.add (k * 7)).block, (a.add (k * 7)).off + 5, none⟩ = some (.int .i64 k3) ∧ wx.cell? ⟨(a.add (k * 7)).block, (a.add (k * 7)).off + 6, none⟩ = some (.slice D n dc)) := fun wx hwx => by
        obtain ⟨a', e, _, _, _, d2, d3, d4, d5, d6, _⟩ := hx.chg hwx fun k hk => ⟨hk, fun f => f⟩
        cases e
        exact ⟨d2, d3, d4, d5, d6⟩
      have HNW3 : Hid (New W wr.drew) := HN1.out.then_new HN3.out.drew
      go_cut [8] (fun s8 wx => s8 = .int .i64 (mintN M (Cl.sl ⟨xa, xt, k0, k1, k2, k3, xL⟩) : Nat) ∧ Orc wx g g (mintL M (Cl.sl ⟨xa, xt, k0, k1, k2, k3, xL⟩)) ∧ New w1 wx)
      case first =>
        go_region_law
          (go_simp; go_at_call 11; (with_reducible refine HMi.out.mono ?_); rintro e w4 ⟨rfl, hM4, hC4⟩
           have HM4 := Lib.hid hM4
           have HN4 : Hid (New w1 w4) := HN3.out.drew.trans hC4 (fun i hi h => by have := h.1; rw [Hg.out] at this; omega)
           clear hM4 hC4)
        all_goals
          go_wp2_with fail
          go_meet
          case rel => exact ⟨rfl, HM4.out, HN4.out⟩
      case rest =>
      obtain ⟨w4, rfl⟩ : ∃ w4, w4 = wc := ⟨_, rfl⟩
      obtain ⟨rfl, hM4, hN4⟩ := hcut
      have HM4 := Lib.hid hM4; clear hM4
      have HN4 := Lib.hid hN4; clear hN4
      have HNW4 : Hid (New W w4) := HN1.out.then_new HN4.out
      have HK4 : Hid (∀ wx, New w4 wx → wx.cell? ⟨(a.add (k * 7)).block, (a.add (k * 7)).off + 2, none⟩ = some (.int .i64 k0) ∧ wx.cell? ⟨(a.add (k * 7)).block, (a.add (k * 7)).off + 3, none⟩ = some (.int .i64 k1) ∧ wx.cell? ⟨(a.add (k * 7)).block, (a.add (k * 7)).off + 4, none⟩ = some (.int .i64 k2) ∧ wx.cell? ⟨(a.add (k * 7)).block, (a.add (k * 7)).off + 5, none⟩ = some (.int .i64 k3) ∧ wx.cell? ⟨(a.add (k * 7)).block, (a.add (k * 7)).off + 6, none⟩ = some (.slice D n dc)) := fun wx hwx => by
        exact HKW.out wx (HNW4.out.then_new hwx)
      have HH4 : Hid (∀ wx, New w4 wx → Calls Try.prog 9 #[.pointer (some ⟨g, 0, none⟩), .int .i64 (mintN M (Cl.sl ⟨xa, xt, k0, k1, k2, k3, xL⟩) : Nat), .agg #[.int .i64 k0, .int .i64 k1, .int .i64 k2, .int .i64 k3], .slice D n dc] wx fun e w' => e = .returned (.bool true) ∧ New wx w') := fun wx hwx => by
        have := Holds_dt g g (mintL M (Cl.sl ⟨xa, xt, k0, k1, k2, k3, xL⟩)) (mintN M (Cl.sl ⟨xa, xt, k0, k1, k2, k3, xL⟩) : Nat) ⟨xa, xt, k0, k1, k2, k3, xL⟩ Hok.out D n dc _ W wx (HN1.out.then_new (HN4.out.then_new hwx)) (HM4.out.new hwx) HxD.out fun k hk => hk
        rw [holds_minted] at this
        exact this
      have HJ4 : Hid (∀ wx, New w4 wx → Calls Try.prog 7 #[.slice D n dc] wx fun e w' => e = .returned (.string (bstr xL.flatten)) ∧ w' = wx) := fun wx hwx =>
        joined_dt ⟨xa, xt, k0, k1, k2, k3, xL⟩ D n dc _ W wx (HN1.out.then_new (HN4.out.then_new hwx)) HxD.out fun k hk => hk
      have HH5 : Hid (∀ (wA wB : World) (cB : Nat), New w4 wB → Byts wB (· < wB.heap.size) (.slice (some ⟨wA.heap.size, 0, none⟩) xL.flatten.length cB) xL.flatten → Calls Try.prog 9 #[.pointer (some ⟨g, 0, none⟩), .int .i64 (mintN M (Cl.sl ⟨xa, xt, k0, k1, k2, k3, xL⟩) : Nat), .agg #[.int .i64 k0, .int .i64 k1, .int .i64 k2, .int .i64 k3], .slice (some ⟨wB.heap.size, 0, none⟩) 1 1] (wB.alloc (.cells #[.slice (some ⟨wA.heap.size, 0, none⟩) xL.flatten.length cB] 37)) fun e w' => e = .returned (.bool true) ∧ New wB w') := fun wA wB cB hwB hBy => by
        have hNa : New wB (wB.alloc (.cells #[.slice (some ⟨wA.heap.size, 0, none⟩) xL.flatten.length cB] 37)) := (Chg.refl _ _).alloc _
        have hL := Lists.one (Has.new wB 37 #[.slice (some ⟨wA.heap.size, 0, none⟩) xL.flatten.length cB]) (hBy.new hNa fun k hk => hk)
        have hz := HxD.out.2.2.2.2
        have e1 : ([xL.flatten] : List (List Nat)).flatten = xL.flatten := by rw [List.flatten_cons, List.flatten_nil, List.append_nil]
        have := Holds_any g g (mintL M (Cl.sl ⟨xa, xt, k0, k1, k2, k3, xL⟩)) (mintN M (Cl.sl ⟨xa, xt, k0, k1, k2, k3, xL⟩) : Nat) k0 k1 k2 k3 Hok.out.k0 Hok.out.k1 Hok.out.k2 Hok.out.k3 _ 1 1 _ [xL.flatten] _ (HM4.out.new (hwB.then_new hNa)) hL (fun k hk => by
          rcases hk with hk | hk
          · exact Nat.lt_of_lt_of_le hk hNa.size
          · rw [hk]; simp) rfl (by omega) (by omega) (by rw [e1]; omega)
        rw [e1] at this
        have e2 : holdsB (mintL M (Cl.sl ⟨xa, xt, k0, k1, k2, k3, xL⟩)) ⟨k0, k1, k2, k3, bstr xL.flatten⟩ (mintN M (Cl.sl ⟨xa, xt, k0, k1, k2, k3, xL⟩) : Nat) = true := holds_minted M (Cl.sl ⟨xa, xt, k0, k1, k2, k3, xL⟩)
        rw [e2] at this
        exact this.mono fun e w' h => ⟨h.1, hNa.then_new h.2⟩
      have HCv : Hid (∀ wA, ∃ cB wB, (convert 9 37 (.string (bstr xL.flatten))).run Try.prog wA = .ok (.slice (some ⟨wA.heap.size, 0, none⟩) xL.flatten.length cB) wB ∧ New wA wB ∧ Byts wB (· < wB.heap.size) (.slice (some ⟨wA.heap.size, 0, none⟩) xL.flatten.length cB) xL.flatten ∧ xL.flatten.length ≤ cB) :=
        fun wA => conv_bytes xL.flatten (dt_small HxD.out) (by have := HxD.out.2.2.2.2; omega) wA
      obtain ⟨bl, hbl⟩ : ∃ bl : Nat, bl = xL.flatten.length := ⟨_, rfl⟩
      rw [← hbl] at HH5 HCv
      clear hbl
      obtain ⟨tq, htq⟩ : ∃ tq : Nat, tq = mintN M (Cl.sl ⟨xa, xt, k0, k1, k2, k3, xL⟩) := ⟨_, rfl⟩
      rw [← htq] at HH4 HH5 ⊢
      have Htq := Lib.hid htq; clear htq
      clear c0 c1 c2 c3 c4 c5 c6 HMi HN3 HM
      go_upto_region 9 with (fail)
      go_cut [68] (fun s68 wx => s68 = .bool false ∧ New w4 wx)
      case first =>
        go_region_held_law (fun wx => wx.cell? ⟨(a.add (k * 7)).block, (a.add (k * 7)).off + 2, none⟩ = some (.int .i64 k0) ∧ wx.cell? ⟨(a.add (k * 7)).block, (a.add (k * 7)).off + 3, none⟩ = some (.int .i64 k1) ∧ wx.cell? ⟨(a.add (k * 7)).block, (a.add (k * 7)).off + 4, none⟩ = some (.int .i64 k2) ∧ wx.cell? ⟨(a.add (k * 7)).block, (a.add (k * 7)).off + 5, none⟩ = some (.int .i64 k3) ∧ wx.cell? ⟨(a.add (k * 7)).block, (a.add (k * 7)).off + 6, none⟩ = some (.slice D n dc))
          (with_reducible refine HK4.out _ ?_; exact (by (with_reducible repeat (first | exact Chg.refl _ _ | refine Chg.drew ?_ | refine Chg.alloc ?_ _ | refine Chg.then_new ?_ HNC.out | refine Chg.then_new ?_ HNB.out | refine Chg.then_new ?_ HNA.out)); fail_if_success (have := True.intro)))
          (first
            | (go_at_call 9; (with_reducible refine (HH5.out wA wB cB (by (with_reducible repeat (first | exact Chg.refl _ _ | refine Chg.drew ?_ | refine Chg.alloc ?_ _ | refine Chg.then_new ?_ HNB.out | refine Chg.then_new ?_ HNA.out)); fail_if_success (have := True.intro)) HBy.out).mono ?_); rintro e wC ⟨rfl, hNC⟩
               have HNC := Lib.hid hNC
               clear hNC)
            | (go_at_call 7; (with_reducible refine (HJ4.out _ (by (with_reducible repeat (first | exact Chg.refl _ _ | refine Chg.drew ?_ | refine Chg.alloc ?_ _ | refine Chg.then_new ?_ HNB.out | refine Chg.then_new ?_ HNA.out)); fail_if_success (have := True.intro))).mono ?_); rintro e wJ ⟨rfl, hwJ⟩; obtain rfl : wA = wJ := hwJ.symm; clear hwJ)
            | (go_at_call 9; (with_reducible refine (HH4.out _ (by (with_reducible repeat (first | exact Chg.refl _ _ | refine Chg.drew ?_ | refine Chg.alloc ?_ _ | refine Chg.then_new ?_ HNB.out | refine Chg.then_new ?_ HNA.out)); fail_if_success (have := True.intro))).mono ?_); rintro e wA ⟨rfl, hNA⟩
               obtain ⟨cB, wB, hcv, hNB, hBy, _⟩ := HCv.out wA
               have HNA := Lib.hid hNA
               have HNB := Lib.hid hNB
               have HBy := Lib.hid hBy
               clear hNA hNB hBy))
        all_goals
          go_wp2_with fail
          go_meet
          case rel => exact ⟨rfl, (by (with_reducible repeat (first | exact Chg.refl _ _ | refine Chg.drew ?_ | refine Chg.alloc ?_ _ | refine Chg.then_new ?_ HNC.out | refine Chg.then_new ?_ HNB.out | refine Chg.then_new ?_ HNA.out)); fail_if_success (have := True.intro))⟩
      case rest =>
      obtain ⟨w5, rfl⟩ : ∃ w5, w5 = wc := ⟨_, rfl⟩
      obtain ⟨rfl, hN5⟩ := hcut
      have HN5 : Hid (New w1 w5) := HN4.out.then_new hN5
      have HNW5 : Hid (New W w5) := HN1.out.then_new HN5.out
      have HM5 := Lib.hid (HM4.out.new hN5)
      clear hN5 HH4 HH5 HJ4 HK4 HCv HM4 HN4 HNW4
      obtain ⟨c2, c3, c4, c5, c6⟩ := HKW.out w5 HNW5.out
      obtain ⟨d1, d2, d3, d4, d5, d6⟩ := HGc.out w5 HN5.out
      obtain ⟨kq, hkq⟩ : ∃ kq : Bool, kq = (k0 == g0 && (k1 == g1 && (k2 == g2 && k3 == g3))) := ⟨_, rfl⟩
      have hke := eqKey k0 k1 k2 k3 g0 g1 g2 g3
      rw [← hkq] at hke
      obtain ⟨s1, hs1⟩ : ∃ s1, s1 = bstr xL.flatten := ⟨_, rfl⟩
      obtain ⟨s2, hs2⟩ : ∃ s2, s2 = bstr yL.flatten := ⟨_, rfl⟩
      have HJx : Hid (Calls Try.prog 7 #[.slice D n dc] w5.drew fun e w' => e = .returned (.string s1) ∧ w' = w5.drew) := by
        rw [hs1]
        exact joined_dt ⟨xa, xt, k0, k1, k2, k3, xL⟩ D n dc _ W _ HNW5.out.drew HxD.out fun k hk => hk
      have HJy : Hid (Calls Try.prog 7 #[.slice GD gn gc] w5.drew fun e w' => e = .returned (.string s2) ∧ w' = w5.drew) := by
        rw [hs2]
        exact HJg.out _ HNW5.out.drew
      have HSm : Hid ((kq && decide (s1 = s2)) = decide (Cl.sl ⟨xa, xt, k0, k1, k2, k3, xL⟩ = gs)) := by
        rw [Hid, hkq, hs1, hs2, Hgs.out]
        exact sl_same ⟨xa, xt, k0, k1, k2, k3, xL⟩ ⟨ya, yt, g0, g1, g2, g3, yL⟩
      clear hkq hs1 hs2
      go_upto_region 11 with (fail)
      go_cut [9] (fun s9 wx => s9 = .bool (kq && decide (s1 = s2)) ∧ New w5 wx)
      case first =>
        cases kq
        · go_region
          all_goals
            go_wp2_with fail
            go_meet
            case rel => exact ⟨rfl, (Chg.refl _ _).drew⟩
        · have HKX : Hid (∀ wx, New w5 wx → wx.cell? ⟨(a.add (k * 7)).block, (a.add (k * 7)).off + 2, none⟩ = some (.int .i64 k0) ∧ wx.cell? ⟨(a.add (k * 7)).block, (a.add (k * 7)).off + 3, none⟩ = some (.int .i64 k1) ∧ wx.cell? ⟨(a.add (k * 7)).block, (a.add (k * 7)).off + 4, none⟩ = some (.int .i64 k2) ∧ wx.cell? ⟨(a.add (k * 7)).block, (a.add (k * 7)).off + 5, none⟩ = some (.int .i64 k3) ∧ wx.cell? ⟨(a.add (k * 7)).block, (a.add (k * 7)).off + 6, none⟩ = some (.slice D n dc) ∧ wx.cell? ⟨gb, 2, none⟩ = some (.int .i64 g0) ∧ wx.cell? ⟨gb, 3, none⟩ = some (.int .i64 g1) ∧ wx.cell? ⟨gb, 4, none⟩ = some (.int .i64 g2) ∧ wx.cell? ⟨gb, 5, none⟩ = some (.int .i64 g3) ∧ wx.cell? ⟨gb, 6, none⟩ = some (.slice GD gn gc)) := fun wx hwx => by
            obtain ⟨q2, q3, q4, q5, q6⟩ := HKW.out wx (HNW5.out.then_new hwx)
            obtain ⟨_, r2, r3, r4, r5, r6⟩ := HGc.out wx (HN5.out.then_new hwx)
            exact ⟨q2, q3, q4, q5, q6, r2, r3, r4, r5, r6⟩
          clear c2 c3 c4 c5 c6 d1 d2 d3 d4 d5 d6
          go_region_held_law (fun wx => wx.cell? ⟨(a.add (k * 7)).block, (a.add (k * 7)).off + 2, none⟩ = some (.int .i64 k0) ∧ wx.cell? ⟨(a.add (k * 7)).block, (a.add (k * 7)).off + 3, none⟩ = some (.int .i64 k1) ∧ wx.cell? ⟨(a.add (k * 7)).block, (a.add (k * 7)).off + 4, none⟩ = some (.int .i64 k2) ∧ wx.cell? ⟨(a.add (k * 7)).block, (a.add (k * 7)).off + 5, none⟩ = some (.int .i64 k3) ∧ wx.cell? ⟨(a.add (k * 7)).block, (a.add (k * 7)).off + 6, none⟩ = some (.slice D n dc) ∧ wx.cell? ⟨gb, 2, none⟩ = some (.int .i64 g0) ∧ wx.cell? ⟨gb, 3, none⟩ = some (.int .i64 g1) ∧ wx.cell? ⟨gb, 4, none⟩ = some (.int .i64 g2) ∧ wx.cell? ⟨gb, 5, none⟩ = some (.int .i64 g3) ∧ wx.cell? ⟨gb, 6, none⟩ = some (.slice GD gn gc))
            (with_reducible refine HKX.out _ ?_; exact (by (with_reducible repeat (first | exact Chg.refl _ _ | refine Chg.drew ?_)); fail_if_success (have := True.intro)))
            (first
              | (go_at_call 7; (with_reducible refine HJx.out.mono ?_); rintro e wJ ⟨rfl, hwJ⟩; subst hwJ)
              | (go_at_call 7; (with_reducible refine HJy.out.mono ?_); rintro e wJ ⟨rfl, hwJ⟩; subst hwJ))
          all_goals
            go_wp2_with fail
            go_meet
            case rel => exact ⟨by first | rfl | (simp [str_same]; done), (Chg.refl _ _).drew⟩
      case rest =>
      obtain ⟨w6, rfl⟩ : ∃ w6, w6 = wc := ⟨_, rfl⟩
      obtain ⟨rfl, hN6⟩ := hcut
      have HN6 : Hid (New w1 w6) := HN5.out.then_new hN6
      have HM6 := Lib.hid (HM5.out.new hN6)
      clear hN6 hke HJx HJy HN5 HM5 HNW5 c2 c3 c4 c5 c6 d1 d2 d3 d4 d5 d6
      rw [HSm.out]
      obtain ⟨d1, d2, d3, d4, d5, d6⟩ := HGc.out w6 HN6.out
      obtain ⟨sx, hsx⟩ : ∃ sx : Sl, sx = Cl.sl ⟨xa, xt, k0, k1, k2, k3, xL⟩ := ⟨_, rfl⟩
      rw [← hsx] at HM6 Htq ⊢
      have HHg6 := Lib.hid (HHg.out g g (mintL M sx) (tq : Int) w6 (HN1.out.then_new HN6.out) HM6.out)
      have HMl : Hid ((mintL M sx).length ≤ k + 1) := Nat.le_trans (mintL_len M sx) (by omega)
      clear hsx HSm
      by_cases hsame : sx = gs
      · subst hsame
        have HE : Hid (holdsB (mintL M sx) sx yt = (holdsB M sx yt || ((tq : Int) == yt))) := by rw [Hid, holds_same, Htq.out]
        have ht : decide (sx = sx) = true := by simp
        rw [ht]
        clear ht
        obtain ⟨bq, hbq⟩ : ∃ bq, bq = holdsB M sx yt := ⟨_, rfl⟩
        rw [← hbq] at HE ⊢
        clear hbq
        cases bq
        all_goals
          go_wp2_with fail
          go_roundg (100 - (k + 1))
          case measure => omega
          case rel => exact ⟨k + 1, mintL M sx, by omega, by omega, rfl, by rw [HE.out]; first | rfl | (simp; done), by go_num, HM6.out, HMl.out, HN6.out⟩
      · have HE : Hid (holdsB (mintL M sx) gs yt = holdsB M gs yt) := holds_other (Ne.symm hsame) yt
        have HF : Hid (holdsB (mintL M sx) gs (tq : Int) = false) := by rw [Hid, Htq.out]; exact holds_not (Ne.symm hsame)
        rw [HF.out] at HHg6
        rw [decide_eq_false hsame]
        by_cases hte : (tq : Int) = yt
        · have t0 : ((tq : Int) == yt) = true := by simpa using hte
          have Hte := Lib.hid hte; clear hte
          go_wp2_with (go_at_call 9; (with_reducible refine HHg6.out.mono ?_); rintro e w7 ⟨rfl, hN7⟩; have HN7 := Lib.hid hN7; clear hN7)
          go_roundg (100 - (k + 1))
          case measure => omega
          case rel => exact ⟨k + 1, mintL M sx, by omega, by omega, rfl, by rw [HE.out], by go_num, HM6.out.new HN7.out, HMl.out, HN6.out.then_new HN7.out⟩
        · have t0 : ((tq : Int) == yt) = false := by simpa using hte
          have Hte := Lib.hid hte; clear hte
          go_wp2_with fail
          go_roundg (100 - (k + 1))
          case measure => omega
          case rel => exact ⟨k + 1, mintL M sx, by omega, by omega, rfl, by rw [HE.out], by go_num, HM6.out, HMl.out, HN6.out⟩
    · have tk : (decide ((k : Int) < (N : Int)) = false ∧ decide (k < N) = false) ∨ (decide ((k : Int) < (N : Int)) = true ∧ decide (k < N) = true ∧ decide ((k : Int) < 100) = false ∧ decide (k < 100) = false) := by
        by_cases h1 : k < N
        · exact Or.inr ⟨by simp; omega, by simp; omega, by simp; omega, by simp; omega⟩
        · exact Or.inl ⟨by simp; omega, by simp; omega⟩
      obtain ⟨d1, d2, d3, d4, d5, d6⟩ := HGc.out wr HN3.out
      have HHg6 := Lib.hid (HHg.out g g M yt wr (HN1.out.then_new HN3.out) HM.out)
      obtain ⟨bq, hbq⟩ : ∃ bq, bq = holdsB M gs yt := ⟨_, rfl⟩
      rw [← hbq] at HHg6 ⊢
      clear hbq hlt
      rcases tk with ⟨tk, tk2⟩ | ⟨tk, tk2, tl, tl2⟩
      all_goals
        go_wp2_with (go_at_call 9; (with_reducible refine HHg6.out.mono ?_); rintro e w7 ⟨rfl, hN7⟩; have HN7 := Lib.hid hN7; clear hN7)
        go_ret
        exact ⟨by cases bq <;> rfl, (HN1.out.then_new HN3.out).then_new HN7.out⟩
end Go.Proofs.Ytoifcaogcphfhaa
