/-
  For every input the law IpeBack of layer 10 returns true, and its arguments read afterwards as before. No condition.
-/
import Derived.Test.YtdaaejoglikhaaaXOp
import Derived.Test.YtdaaejoglikhaaaXSt
namespace Go.Proofs.Ytdaaejoglikhaaa
open Go.RowKit
theorem opn_zero {b : List Nat} (h : opnE b = 0) : ∃ m t, openN b = .inr (m, t) := by
  cases ho : openN b with
  | inr x => exact ⟨x.1, x.2, rfl⟩
  | inl z =>
    exfalso
    have hz : z = 0 := by
      have := (opn_l ho).2.2
      omega
    subst hz
    unfold openN at ho
    split at ho
    · cases ho
    split at ho
    · cases ho
    split at ho
    · cases ho
    split at ho
    · next z' hp =>
      cases ho
      have h0 : parZ ((b.drop 1).take (b.getD 0 0)) = 0 := by unfold parZ; rw [hp]; rfl
      obtain ⟨m, hm, _⟩ := parZ_r h0
      rw [hp] at hm
      cases hm
    · split at ho
      · cases ho
      · split at ho
        · cases ho
        · cases ho
set_option maxRecDepth 100000 in
set_option maxHeartbeats 4000000 in
theorem back10_walk (p : Pd) (t : Int) (bs : List Nat) (n c : Nat) (A : Option Addr) (w : World) (hB : Byts w (· < w.heap.size) (.slice A n c) bs) (hnc : n ≤ c) (hcm : c ≤ maxLen) : Calls Try.prog 5 #[p.V, .int .i64 t, .slice A n c] w fun e w' => e = .returned (.bool true) ∧ New w w' := by
  have HAw := Lib.hid (fun w => awake_any w)
  have HBs : Hid (Byts w (· < w.heap.size) (.slice A n c) bs) := hB
  have HFl : Hid (∀ k, k < w.heap.size → k < w.heap.size) := fun _ h => h
  have HOp : Hid (∀ wx, New w wx → Calls Try.prog 20 #[.slice A n c] wx fun e w' => e = .returned (.tuple #[(opnP bs).V, .int .i64 (opnT bs), .int .i64 (opnE bs)]) ∧ New wx w') := fun wx hx => iOpen_any bs n c A wx _ (hB.new hx (fun _ h => h)) hnc hcm (fun k hk => Nat.lt_of_lt_of_le hk hx.size)
  have Hyes : Hid (opnE bs = 0 → ∃ m T, RightN m ∧ 1 ≤ T ∧ T ≤ 2147483647 ∧ bs = bodyN m T ∧ opnP bs = Pd.of m ∧ opnT bs = (T : Int)) := fun h => by
    obtain ⟨m, T, hm⟩ := opn_zero h
    obtain ⟨h1, h2, h3, h4⟩ := body_open hB.len.2.2 hm
    obtain ⟨h5, h6, _⟩ := opn_r hm
    exact ⟨m, T, h1, h2, h3, h4, h5, h6⟩
  have Hno : Hid (¬ opnE bs = 0 → opnP bs = pz ∧ opnT bs = 0) := fun h => by
    cases ho : openN bs with
    | inl z => exact ⟨(opn_l ho).1, (opn_l ho).2.1⟩
    | inr x => exact absurd (opn_r (m := x.1) (t := x.2) ho).2.2 h
  obtain ⟨E, hE⟩ : ∃ E, E = opnE bs := ⟨_, rfl⟩
  obtain ⟨R, hR⟩ : ∃ R, R = opnP bs := ⟨_, rfl⟩
  obtain ⟨K, hK⟩ : ∃ K, K = opnT bs := ⟨_, rfl⟩
  rw [← hE, ← hR, ← hK] at HOp Hyes
  rw [← hE, ← hR, ← hK] at Hno
  clear hE hR hK hB hnc hcm
  have Hp : Hid ((rightN p.ns = true ∧ okT t = true) ∨ (rightN p.ns = false ∨ okT t = false)) := by
    show _ ∨ _
    cases rightN p.ns <;> cases okT t <;> simp
  have HYs : Hid (rightN p.ns = true ∧ okT t = true → ∃ b : List Nat, b.length = 64 ∧ (∀ x ∈ b, x < 256) ∧ (∀ w, Calls Try.prog 12 #[p.V, .int .i64 t] w fun e w' => ∃ A c, e = .returned (.tuple #[.slice A 64 c, .int .i64 0]) ∧ w'.ownsRow w.heap.size 5 1 (.slice A 64 c) 64 (b.map bV) ∧ New w w') ∧ opnP b = p ∧ opnT b = t ∧ opnE b = 0) := by
    rintro ⟨h1, h2⟩
    have hr := rightN_of h1
    unfold okT at h2
    simp only [Bool.and_eq_true, decide_eq_true_eq] at h2
    obtain ⟨T, rfl⟩ : ∃ T : Nat, t = (T : Int) := ⟨t.toNat, by omega⟩
    obtain ⟨h5, h6, h7⟩ := opn_r (open_body hr (t := T) (by omega) (by omega))
    refine ⟨bodyN p.ns T, body_len hr T, ?_, fun w => iBody_yes p hr T (by omega) (by omega) w, by rw [h5]; exact Pd.of_ns p, h6, h7⟩
    intro x hx
    unfold bodyN at hx
    simp only [List.mem_cons, List.mem_append] at hx
    rcases hx with rfl | hx | hx | hx
    · have := form_len hr; omega
    · exact form_small hr x hx
    · rw [← pack_tok (show T < 4294967296 by omega)] at hx; exact pack_mem _ x hx
    · rw [(List.mem_replicate.1 hx).2]; decide
  have HNs : Hid (rightN p.ns = false ∨ okT t = false → ∀ w, Calls Try.prog 12 #[p.V, .int .i64 t] w fun e w' => e = .returned (.tuple #[.slice none 0 0, .int .i64 2]) ∧ New w w') := fun h w => iBody_no p t h w
  obtain ⟨x0, x1, x2, x3, x4, x5, x6, x7, x8, x9, x10, x11, x12, x13⟩ := p
  go_enter Try.func5, Try.ntmps5
  go_upto_region 1 with (fail)
  obtain ⟨w0, hw0⟩ : ∃ w0, w0 = w.alloc (.cells #[.int .i64 x0, .int .i64 x1, .int .i64 x2, .int .i64 x3, .int .i64 x4, .int .i64 x5, .int .i64 x6, .int .i64 x7, .bool x8, .int .i64 x9, .int .i64 x10, .int .i64 x11, .int .i64 x12, .bool x13] 24) := ⟨_, rfl⟩
  obtain ⟨ba, hba⟩ : ∃ ba, ba = w.heap.size := ⟨_, rfl⟩
  have HA : Hid (Has w0 ba 24 #[.int .i64 x0, .int .i64 x1, .int .i64 x2, .int .i64 x3, .int .i64 x4, .int .i64 x5, .int .i64 x6, .int .i64 x7, .bool x8, .int .i64 x9, .int .i64 x10, .int .i64 x11, .int .i64 x12, .bool x13]) := by rw [hw0, hba]; exact Has.new _ _ _
  have HN0 : Hid (New w w0) := by rw [hw0]; exact (Chg.refl _ _).alloc _
  rw [← hw0, ← hba]
  clear hw0 hba
  have k0 : w0.cell? ⟨ba, 0, none⟩ = some (.int .i64 x0) := (HA.out.cell 0).trans rfl
  have k1 : w0.cell? ⟨ba, 1, none⟩ = some (.int .i64 x1) := (HA.out.cell 1).trans rfl
  have k2 : w0.cell? ⟨ba, 2, none⟩ = some (.int .i64 x2) := (HA.out.cell 2).trans rfl
  have k3 : w0.cell? ⟨ba, 3, none⟩ = some (.int .i64 x3) := (HA.out.cell 3).trans rfl
  have k4 : w0.cell? ⟨ba, 4, none⟩ = some (.int .i64 x4) := (HA.out.cell 4).trans rfl
  have k5 : w0.cell? ⟨ba, 5, none⟩ = some (.int .i64 x5) := (HA.out.cell 5).trans rfl
  have k6 : w0.cell? ⟨ba, 6, none⟩ = some (.int .i64 x6) := (HA.out.cell 6).trans rfl
  have k7 : w0.cell? ⟨ba, 7, none⟩ = some (.int .i64 x7) := (HA.out.cell 7).trans rfl
  have k8 : w0.cell? ⟨ba, 8, none⟩ = some (.bool x8) := (HA.out.cell 8).trans rfl
  have k9 : w0.cell? ⟨ba, 9, none⟩ = some (.int .i64 x9) := (HA.out.cell 9).trans rfl
  have k10 : w0.cell? ⟨ba, 10, none⟩ = some (.int .i64 x10) := (HA.out.cell 10).trans rfl
  have k11 : w0.cell? ⟨ba, 11, none⟩ = some (.int .i64 x11) := (HA.out.cell 11).trans rfl
  have k12 : w0.cell? ⟨ba, 12, none⟩ = some (.int .i64 x12) := (HA.out.cell 12).trans rfl
  have k13 : w0.cell? ⟨ba, 13, none⟩ = some (.bool x13) := (HA.out.cell 13).trans rfl
  go_wp2_with fail
  with_reducible refine (HAw.out _).mono ?_
  rintro e w1 ⟨rfl, hN⟩
  have HN1 := Lib.hid (HN0.out.then_new hN)
  have HA := Lib.hid (HA.out.keep hN)
  clear hN HN0 HAw
  clear k0 k1 k2 k3 k4 k5 k6 k7 k8 k9 k10 k11 k12 k13
  have k0 : w1.cell? ⟨ba, 0, none⟩ = some (.int .i64 x0) := (HA.out.cell 0).trans rfl
  have k1 : w1.cell? ⟨ba, 1, none⟩ = some (.int .i64 x1) := (HA.out.cell 1).trans rfl
  have k2 : w1.cell? ⟨ba, 2, none⟩ = some (.int .i64 x2) := (HA.out.cell 2).trans rfl
  have k3 : w1.cell? ⟨ba, 3, none⟩ = some (.int .i64 x3) := (HA.out.cell 3).trans rfl
  have k4 : w1.cell? ⟨ba, 4, none⟩ = some (.int .i64 x4) := (HA.out.cell 4).trans rfl
  have k5 : w1.cell? ⟨ba, 5, none⟩ = some (.int .i64 x5) := (HA.out.cell 5).trans rfl
  have k6 : w1.cell? ⟨ba, 6, none⟩ = some (.int .i64 x6) := (HA.out.cell 6).trans rfl
  have k7 : w1.cell? ⟨ba, 7, none⟩ = some (.int .i64 x7) := (HA.out.cell 7).trans rfl
  have k8 : w1.cell? ⟨ba, 8, none⟩ = some (.bool x8) := (HA.out.cell 8).trans rfl
  have k9 : w1.cell? ⟨ba, 9, none⟩ = some (.int .i64 x9) := (HA.out.cell 9).trans rfl
  have k10 : w1.cell? ⟨ba, 10, none⟩ = some (.int .i64 x10) := (HA.out.cell 10).trans rfl
  have k11 : w1.cell? ⟨ba, 11, none⟩ = some (.int .i64 x11) := (HA.out.cell 11).trans rfl
  have k12 : w1.cell? ⟨ba, 12, none⟩ = some (.int .i64 x12) := (HA.out.cell 12).trans rfl
  have k13 : w1.cell? ⟨ba, 13, none⟩ = some (.bool x13) := (HA.out.cell 13).trans rfl
  rcases Hp.out with hpy | hpn
  · obtain ⟨b, hbl, hb256, hBd, hoP, hoT, hoE⟩ := HYs.out hpy
    have HBd : Hid (∀ w, Calls Try.prog 12 #[.agg #[.int .i64 x0, .int .i64 x1, .int .i64 x2, .int .i64 x3, .int .i64 x4, .int .i64 x5, .int .i64 x6, .int .i64 x7, .bool x8, .int .i64 x9, .int .i64 x10, .int .i64 x11, .int .i64 x12, .bool x13], .int .i64 t] w fun e w' => ∃ A c, e = .returned (.tuple #[.slice A 64 c, .int .i64 0]) ∧ w'.ownsRow w.heap.size 5 1 (.slice A 64 c) 64 (b.map bV) ∧ New w w') := hBd
    have HOb : Hid (∀ (A : Option Addr) (c : Nat) (w : World), Byts w (· < w.heap.size) (.slice A 64 c) b → 64 ≤ c → c ≤ maxLen → Calls Try.prog 20 #[.slice A 64 c] w fun e w' => e = .returned (.tuple #[.agg #[.int .i64 x0, .int .i64 x1, .int .i64 x2, .int .i64 x3, .int .i64 x4, .int .i64 x5, .int .i64 x6, .int .i64 x7, .bool x8, .int .i64 x9, .int .i64 x10, .int .i64 x11, .int .i64 x12, .bool x13], .int .i64 t, .int .i64 0]) ∧ New w w') := fun A c w h1 h2 h3 => by
      have := iOpen_any b 64 c A w _ h1 h2 h3 (fun _ h => h)
      rw [hoP, hoT, hoE] at this
      exact this
    have Hb256 := Lib.hid hb256
    clear hbl hb256 hBd hoP hoT hoE hpy HYs HNs Hp
    go_wp2_with fail
    with_reducible refine (HBd.out _).mono ?_
    rintro e w2 ⟨A2, c2, rfl, hO, hN⟩
    have HN2 := Lib.hid (HN1.out.then_new hN)
    have HA := Lib.hid (HA.out.keep hN)
    have HOb := Lib.hid (HOb.out A2 c2 w2 (Byts.own_any hO (Chg.refl _ _) Hb256.out (by omega)) (own_cap hO) (own_max hO))
    clear hN HN1 hO HBd
    clear k0 k1 k2 k3 k4 k5 k6 k7 k8 k9 k10 k11 k12 k13
    go_wp2_with fail
    with_reducible refine HOb.out.mono ?_
    rintro e w3 ⟨rfl, hN⟩
    have HN3 := Lib.hid (HN2.out.then_new hN)
    have HA := Lib.hid (HA.out.keep hN)
    clear hN HN2 HOb
    have k0 : w3.cell? ⟨ba, 0, none⟩ = some (.int .i64 x0) := (HA.out.cell 0).trans rfl
    have k1 : w3.cell? ⟨ba, 1, none⟩ = some (.int .i64 x1) := (HA.out.cell 1).trans rfl
    have k2 : w3.cell? ⟨ba, 2, none⟩ = some (.int .i64 x2) := (HA.out.cell 2).trans rfl
    have k3 : w3.cell? ⟨ba, 3, none⟩ = some (.int .i64 x3) := (HA.out.cell 3).trans rfl
    have k4 : w3.cell? ⟨ba, 4, none⟩ = some (.int .i64 x4) := (HA.out.cell 4).trans rfl
    have k5 : w3.cell? ⟨ba, 5, none⟩ = some (.int .i64 x5) := (HA.out.cell 5).trans rfl
    have k6 : w3.cell? ⟨ba, 6, none⟩ = some (.int .i64 x6) := (HA.out.cell 6).trans rfl
    have k7 : w3.cell? ⟨ba, 7, none⟩ = some (.int .i64 x7) := (HA.out.cell 7).trans rfl
    have k8 : w3.cell? ⟨ba, 8, none⟩ = some (.bool x8) := (HA.out.cell 8).trans rfl
    have k9 : w3.cell? ⟨ba, 9, none⟩ = some (.int .i64 x9) := (HA.out.cell 9).trans rfl
    have k10 : w3.cell? ⟨ba, 10, none⟩ = some (.int .i64 x10) := (HA.out.cell 10).trans rfl
    have k11 : w3.cell? ⟨ba, 11, none⟩ = some (.int .i64 x11) := (HA.out.cell 11).trans rfl
    have k12 : w3.cell? ⟨ba, 12, none⟩ = some (.int .i64 x12) := (HA.out.cell 12).trans rfl
    have k13 : w3.cell? ⟨ba, 13, none⟩ = some (.bool x13) := (HA.out.cell 13).trans rfl
    have hkl := HA.out.lt
    have HN5 : Hid (New w (w3.alloc (.cells #[.int .i64 x0, .int .i64 x1, .int .i64 x2, .int .i64 x3, .int .i64 x4, .int .i64 x5, .int .i64 x6, .int .i64 x7, .bool x8, .int .i64 x9, .int .i64 x10, .int .i64 x11, .int .i64 x12, .bool x13] 24))) := HN3.out.alloc _
    clear HN3
    go_wp2_with fail
    with_reducible refine (HOp.out _ HN5.out).mono ?_
    rintro e w6 ⟨rfl, hN⟩
    have HN6 := Lib.hid (HN5.out.then_new hN)
    clear hN HN5
    by_cases hE : E = 0
    · have e1 : (E == 0) = true := beq_iff_eq.2 hE
      have e1' : (E != 0) = false := by rw [bne, e1]; rfl
      obtain ⟨m, T, hR, hT1, hT2, hbs, hRm, hKT⟩ := Hyes.out hE
      have HBd := Lib.hid (fun w => iBody_yes (Pd.of m) (by rw [Pd.ns_of hR]; exact hR) T hT1 hT2 w)
      rw [Pd.ns_of hR, ← hbs, ← hRm] at HBd
      have HRr : Hid (∀ (g : Nat) (w : World), Has w g 24 (pcells R) → g < w.heap.size → Calls Try.prog 14 #[.slice (some ⟨g, 0, none⟩) 1 1] w fun e w' => e = .returned (.bool true) ∧ New w w') := fun g w h hl => by
        have := Right10_any (some ⟨g, 0, none⟩) 1 1 (fun _ => R) (· = g) w (Pds.one (p := R) h) (fun k hk => by rw [hk]; exact hl) (by omega)
        rw [allR_one, hRm, Pd.ns_of hR, rightN_yes hR] at this
        exact this
      rw [← hKT] at HBd
      subst hE
      clear hR hT1 hT2 hbs hRm hKT Hyes Hno
      obtain ⟨y0, y1, y2, y3, y4, y5, y6, y7, y8, y9, y10, y11, y12, y13⟩ := R
      have HBd : Hid (∀ w, Calls Try.prog 12 #[.agg #[.int .i64 y0, .int .i64 y1, .int .i64 y2, .int .i64 y3, .int .i64 y4, .int .i64 y5, .int .i64 y6, .int .i64 y7, .bool y8, .int .i64 y9, .int .i64 y10, .int .i64 y11, .int .i64 y12, .bool y13], .int .i64 K] w fun e w' => ∃ A c, e = .returned (.tuple #[.slice A 64 c, .int .i64 0]) ∧ w'.ownsRow w.heap.size 5 1 (.slice A 64 c) 64 (bs.map bV) ∧ New w w') := HBd.out
      have HRr : Hid (∀ (g : Nat) (w : World), Has w g 24 #[.int .i64 y0, .int .i64 y1, .int .i64 y2, .int .i64 y3, .int .i64 y4, .int .i64 y5, .int .i64 y6, .int .i64 y7, .bool y8, .int .i64 y9, .int .i64 y10, .int .i64 y11, .int .i64 y12, .bool y13] → g < w.heap.size → Calls Try.prog 14 #[.slice (some ⟨g, 0, none⟩) 1 1] w fun e w' => e = .returned (.bool true) ∧ New w w') := HRr.out
      go_upto_region 9 with (fail)
      obtain ⟨xb, hxb⟩ : ∃ b, b = w6.heap.size := ⟨_, rfl⟩
      obtain ⟨w7, hw7⟩ : ∃ w7, w7 = w6.alloc (.cells #[.int .i64 y0, .int .i64 y1, .int .i64 y2, .int .i64 y3, .int .i64 y4, .int .i64 y5, .int .i64 y6, .int .i64 y7, .bool y8, .int .i64 y9, .int .i64 y10, .int .i64 y11, .int .i64 y12, .bool y13] 24) := ⟨_, rfl⟩
      have HX7 : Hid (Has w7 xb 24 #[.int .i64 y0, .int .i64 y1, .int .i64 y2, .int .i64 y3, .int .i64 y4, .int .i64 y5, .int .i64 y6, .int .i64 y7, .bool y8, .int .i64 y9, .int .i64 y10, .int .i64 y11, .int .i64 y12, .bool y13]) := by rw [hw7, hxb]; exact Has.new _ _ _
      have HN7 : Hid (New w w7) := by rw [hw7]; exact HN6.out.alloc _
      rw [← hw7, ← hxb]
      clear hw7 hxb HN6
      have k0 : w7.cell? ⟨xb, 0, none⟩ = some (.int .i64 y0) := (HX7.out.cell 0).trans rfl
      have k1 : w7.cell? ⟨xb, 1, none⟩ = some (.int .i64 y1) := (HX7.out.cell 1).trans rfl
      have k2 : w7.cell? ⟨xb, 2, none⟩ = some (.int .i64 y2) := (HX7.out.cell 2).trans rfl
      have k3 : w7.cell? ⟨xb, 3, none⟩ = some (.int .i64 y3) := (HX7.out.cell 3).trans rfl
      have k4 : w7.cell? ⟨xb, 4, none⟩ = some (.int .i64 y4) := (HX7.out.cell 4).trans rfl
      have k5 : w7.cell? ⟨xb, 5, none⟩ = some (.int .i64 y5) := (HX7.out.cell 5).trans rfl
      have k6 : w7.cell? ⟨xb, 6, none⟩ = some (.int .i64 y6) := (HX7.out.cell 6).trans rfl
      have k7 : w7.cell? ⟨xb, 7, none⟩ = some (.int .i64 y7) := (HX7.out.cell 7).trans rfl
      have k8 : w7.cell? ⟨xb, 8, none⟩ = some (.bool y8) := (HX7.out.cell 8).trans rfl
      have k9 : w7.cell? ⟨xb, 9, none⟩ = some (.int .i64 y9) := (HX7.out.cell 9).trans rfl
      have k10 : w7.cell? ⟨xb, 10, none⟩ = some (.int .i64 y10) := (HX7.out.cell 10).trans rfl
      have k11 : w7.cell? ⟨xb, 11, none⟩ = some (.int .i64 y11) := (HX7.out.cell 11).trans rfl
      have k12 : w7.cell? ⟨xb, 12, none⟩ = some (.int .i64 y12) := (HX7.out.cell 12).trans rfl
      have k13 : w7.cell? ⟨xb, 13, none⟩ = some (.bool y13) := (HX7.out.cell 13).trans rfl
      go_wp2_with fail
      with_reducible refine (HBd.out _).mono ?_
      rintro e w8 ⟨A8, c8, rfl, hO8, hN⟩
      have HX8 := Lib.hid (HX7.out.keep hN)
      have HN8 := Lib.hid (HN7.out.then_new hN)
      have s1 := own_str hO8
      have s2 := (HBs.out.new HN8.out HFl.out).str
      clear hN HX7 HN7 hO8 HBd k0 k1 k2 k3 k4 k5 k6 k7 k8 k9 k10 k11 k12 k13
      have k0 : w8.cell? ⟨xb, 0, none⟩ = some (.int .i64 y0) := (HX8.out.cell 0).trans rfl
      have k1 : w8.cell? ⟨xb, 1, none⟩ = some (.int .i64 y1) := (HX8.out.cell 1).trans rfl
      have k2 : w8.cell? ⟨xb, 2, none⟩ = some (.int .i64 y2) := (HX8.out.cell 2).trans rfl
      have k3 : w8.cell? ⟨xb, 3, none⟩ = some (.int .i64 y3) := (HX8.out.cell 3).trans rfl
      have k4 : w8.cell? ⟨xb, 4, none⟩ = some (.int .i64 y4) := (HX8.out.cell 4).trans rfl
      have k5 : w8.cell? ⟨xb, 5, none⟩ = some (.int .i64 y5) := (HX8.out.cell 5).trans rfl
      have k6 : w8.cell? ⟨xb, 6, none⟩ = some (.int .i64 y6) := (HX8.out.cell 6).trans rfl
      have k7 : w8.cell? ⟨xb, 7, none⟩ = some (.int .i64 y7) := (HX8.out.cell 7).trans rfl
      have k8 : w8.cell? ⟨xb, 8, none⟩ = some (.bool y8) := (HX8.out.cell 8).trans rfl
      have k9 : w8.cell? ⟨xb, 9, none⟩ = some (.int .i64 y9) := (HX8.out.cell 9).trans rfl
      have k10 : w8.cell? ⟨xb, 10, none⟩ = some (.int .i64 y10) := (HX8.out.cell 10).trans rfl
      have k11 : w8.cell? ⟨xb, 11, none⟩ = some (.int .i64 y11) := (HX8.out.cell 11).trans rfl
      have k12 : w8.cell? ⟨xb, 12, none⟩ = some (.int .i64 y12) := (HX8.out.cell 12).trans rfl
      have k13 : w8.cell? ⟨xb, 13, none⟩ = some (.bool y13) := (HX8.out.cell 13).trans rfl
      have hkl := HX8.out.lt
      go_wp2_with fail
      with_reducible refine (HRr.out _ _ (Has.new _ _ _) (by simp)).mono ?_
      rintro e w9 ⟨rfl, hN⟩
      have HN9 := Lib.hid ((HN8.out.alloc (.cells #[.int .i64 y0, .int .i64 y1, .int .i64 y2, .int .i64 y3, .int .i64 y4, .int .i64 y5, .int .i64 y6, .int .i64 y7, .bool y8, .int .i64 y9, .int .i64 y10, .int .i64 y11, .int .i64 y12, .bool y13] 24)).then_new hN)
      clear hN
      go_wp2_with fail
      go_ret
      exact ⟨by first | rfl | simp, HN9.out⟩
    · have e1 : (E == 0) = false := beq_eq_false_iff_ne.2 hE
      have e1' : (E != 0) = true := bne_iff_ne.2 hE
      obtain ⟨hR, hK⟩ := Hno.out hE
      subst hR hK
      clear hE Hyes Hno
      rw [show pz.V = Value.agg #[.int .i64 0, .int .i64 0, .int .i64 0, .int .i64 0, .int .i64 0, .int .i64 0, .int .i64 0, .int .i64 0, .bool false, .int .i64 0, .int .i64 0, .int .i64 0, .int .i64 0, .bool false] from rfl]
      go_wp2_with fail
      go_ret
      exact ⟨by first | rfl | simp, HN6.out.alloc _⟩
  · have HBd : Hid (∀ w, Calls Try.prog 12 #[.agg #[.int .i64 x0, .int .i64 x1, .int .i64 x2, .int .i64 x3, .int .i64 x4, .int .i64 x5, .int .i64 x6, .int .i64 x7, .bool x8, .int .i64 x9, .int .i64 x10, .int .i64 x11, .int .i64 x12, .bool x13], .int .i64 t] w fun e w' => e = .returned (.tuple #[.slice none 0 0, .int .i64 2]) ∧ New w w') := HNs.out hpn
    clear hpn HYs HNs Hp
    go_wp2_with fail
    with_reducible refine (HBd.out _).mono ?_
    rintro e w3 ⟨rfl, hN⟩
    have HN5 := Lib.hid (HN1.out.then_new hN)
    clear hN HN1 HBd HA
    clear k0 k1 k2 k3 k4 k5 k6 k7 k8 k9 k10 k11 k12 k13
    go_wp2_with fail
    with_reducible refine (HOp.out _ HN5.out).mono ?_
    rintro e w6 ⟨rfl, hN⟩
    have HN6 := Lib.hid (HN5.out.then_new hN)
    clear hN HN5
    by_cases hE : E = 0
    · have e1 : (E == 0) = true := beq_iff_eq.2 hE
      have e1' : (E != 0) = false := by rw [bne, e1]; rfl
      obtain ⟨m, T, hR, hT1, hT2, hbs, hRm, hKT⟩ := Hyes.out hE
      have HBd := Lib.hid (fun w => iBody_yes (Pd.of m) (by rw [Pd.ns_of hR]; exact hR) T hT1 hT2 w)
      rw [Pd.ns_of hR, ← hbs, ← hRm] at HBd
      have HRr : Hid (∀ (g : Nat) (w : World), Has w g 24 (pcells R) → g < w.heap.size → Calls Try.prog 14 #[.slice (some ⟨g, 0, none⟩) 1 1] w fun e w' => e = .returned (.bool true) ∧ New w w') := fun g w h hl => by
        have := Right10_any (some ⟨g, 0, none⟩) 1 1 (fun _ => R) (· = g) w (Pds.one (p := R) h) (fun k hk => by rw [hk]; exact hl) (by omega)
        rw [allR_one, hRm, Pd.ns_of hR, rightN_yes hR] at this
        exact this
      rw [← hKT] at HBd
      subst hE
      clear hR hT1 hT2 hbs hRm hKT Hyes Hno
      obtain ⟨y0, y1, y2, y3, y4, y5, y6, y7, y8, y9, y10, y11, y12, y13⟩ := R
      have HBd : Hid (∀ w, Calls Try.prog 12 #[.agg #[.int .i64 y0, .int .i64 y1, .int .i64 y2, .int .i64 y3, .int .i64 y4, .int .i64 y5, .int .i64 y6, .int .i64 y7, .bool y8, .int .i64 y9, .int .i64 y10, .int .i64 y11, .int .i64 y12, .bool y13], .int .i64 K] w fun e w' => ∃ A c, e = .returned (.tuple #[.slice A 64 c, .int .i64 0]) ∧ w'.ownsRow w.heap.size 5 1 (.slice A 64 c) 64 (bs.map bV) ∧ New w w') := HBd.out
      have HRr : Hid (∀ (g : Nat) (w : World), Has w g 24 #[.int .i64 y0, .int .i64 y1, .int .i64 y2, .int .i64 y3, .int .i64 y4, .int .i64 y5, .int .i64 y6, .int .i64 y7, .bool y8, .int .i64 y9, .int .i64 y10, .int .i64 y11, .int .i64 y12, .bool y13] → g < w.heap.size → Calls Try.prog 14 #[.slice (some ⟨g, 0, none⟩) 1 1] w fun e w' => e = .returned (.bool true) ∧ New w w') := HRr.out
      go_upto_region 9 with (fail)
      obtain ⟨xb, hxb⟩ : ∃ b, b = w6.heap.size := ⟨_, rfl⟩
      obtain ⟨w7, hw7⟩ : ∃ w7, w7 = w6.alloc (.cells #[.int .i64 y0, .int .i64 y1, .int .i64 y2, .int .i64 y3, .int .i64 y4, .int .i64 y5, .int .i64 y6, .int .i64 y7, .bool y8, .int .i64 y9, .int .i64 y10, .int .i64 y11, .int .i64 y12, .bool y13] 24) := ⟨_, rfl⟩
      have HX7 : Hid (Has w7 xb 24 #[.int .i64 y0, .int .i64 y1, .int .i64 y2, .int .i64 y3, .int .i64 y4, .int .i64 y5, .int .i64 y6, .int .i64 y7, .bool y8, .int .i64 y9, .int .i64 y10, .int .i64 y11, .int .i64 y12, .bool y13]) := by rw [hw7, hxb]; exact Has.new _ _ _
      have HN7 : Hid (New w w7) := by rw [hw7]; exact HN6.out.alloc _
      rw [← hw7, ← hxb]
      clear hw7 hxb HN6
      have k0 : w7.cell? ⟨xb, 0, none⟩ = some (.int .i64 y0) := (HX7.out.cell 0).trans rfl
      have k1 : w7.cell? ⟨xb, 1, none⟩ = some (.int .i64 y1) := (HX7.out.cell 1).trans rfl
      have k2 : w7.cell? ⟨xb, 2, none⟩ = some (.int .i64 y2) := (HX7.out.cell 2).trans rfl
      have k3 : w7.cell? ⟨xb, 3, none⟩ = some (.int .i64 y3) := (HX7.out.cell 3).trans rfl
      have k4 : w7.cell? ⟨xb, 4, none⟩ = some (.int .i64 y4) := (HX7.out.cell 4).trans rfl
      have k5 : w7.cell? ⟨xb, 5, none⟩ = some (.int .i64 y5) := (HX7.out.cell 5).trans rfl
      have k6 : w7.cell? ⟨xb, 6, none⟩ = some (.int .i64 y6) := (HX7.out.cell 6).trans rfl
      have k7 : w7.cell? ⟨xb, 7, none⟩ = some (.int .i64 y7) := (HX7.out.cell 7).trans rfl
      have k8 : w7.cell? ⟨xb, 8, none⟩ = some (.bool y8) := (HX7.out.cell 8).trans rfl
      have k9 : w7.cell? ⟨xb, 9, none⟩ = some (.int .i64 y9) := (HX7.out.cell 9).trans rfl
      have k10 : w7.cell? ⟨xb, 10, none⟩ = some (.int .i64 y10) := (HX7.out.cell 10).trans rfl
      have k11 : w7.cell? ⟨xb, 11, none⟩ = some (.int .i64 y11) := (HX7.out.cell 11).trans rfl
      have k12 : w7.cell? ⟨xb, 12, none⟩ = some (.int .i64 y12) := (HX7.out.cell 12).trans rfl
      have k13 : w7.cell? ⟨xb, 13, none⟩ = some (.bool y13) := (HX7.out.cell 13).trans rfl
      go_wp2_with fail
      with_reducible refine (HBd.out _).mono ?_
      rintro e w8 ⟨A8, c8, rfl, hO8, hN⟩
      have HX8 := Lib.hid (HX7.out.keep hN)
      have HN8 := Lib.hid (HN7.out.then_new hN)
      have s1 := own_str hO8
      have s2 := (HBs.out.new HN8.out HFl.out).str
      clear hN HX7 HN7 hO8 HBd k0 k1 k2 k3 k4 k5 k6 k7 k8 k9 k10 k11 k12 k13
      have k0 : w8.cell? ⟨xb, 0, none⟩ = some (.int .i64 y0) := (HX8.out.cell 0).trans rfl
      have k1 : w8.cell? ⟨xb, 1, none⟩ = some (.int .i64 y1) := (HX8.out.cell 1).trans rfl
      have k2 : w8.cell? ⟨xb, 2, none⟩ = some (.int .i64 y2) := (HX8.out.cell 2).trans rfl
      have k3 : w8.cell? ⟨xb, 3, none⟩ = some (.int .i64 y3) := (HX8.out.cell 3).trans rfl
      have k4 : w8.cell? ⟨xb, 4, none⟩ = some (.int .i64 y4) := (HX8.out.cell 4).trans rfl
      have k5 : w8.cell? ⟨xb, 5, none⟩ = some (.int .i64 y5) := (HX8.out.cell 5).trans rfl
      have k6 : w8.cell? ⟨xb, 6, none⟩ = some (.int .i64 y6) := (HX8.out.cell 6).trans rfl
      have k7 : w8.cell? ⟨xb, 7, none⟩ = some (.int .i64 y7) := (HX8.out.cell 7).trans rfl
      have k8 : w8.cell? ⟨xb, 8, none⟩ = some (.bool y8) := (HX8.out.cell 8).trans rfl
      have k9 : w8.cell? ⟨xb, 9, none⟩ = some (.int .i64 y9) := (HX8.out.cell 9).trans rfl
      have k10 : w8.cell? ⟨xb, 10, none⟩ = some (.int .i64 y10) := (HX8.out.cell 10).trans rfl
      have k11 : w8.cell? ⟨xb, 11, none⟩ = some (.int .i64 y11) := (HX8.out.cell 11).trans rfl
      have k12 : w8.cell? ⟨xb, 12, none⟩ = some (.int .i64 y12) := (HX8.out.cell 12).trans rfl
      have k13 : w8.cell? ⟨xb, 13, none⟩ = some (.bool y13) := (HX8.out.cell 13).trans rfl
      have hkl := HX8.out.lt
      go_wp2_with fail
      with_reducible refine (HRr.out _ _ (Has.new _ _ _) (by simp)).mono ?_
      rintro e w9 ⟨rfl, hN⟩
      have HN9 := Lib.hid ((HN8.out.alloc (.cells #[.int .i64 y0, .int .i64 y1, .int .i64 y2, .int .i64 y3, .int .i64 y4, .int .i64 y5, .int .i64 y6, .int .i64 y7, .bool y8, .int .i64 y9, .int .i64 y10, .int .i64 y11, .int .i64 y12, .bool y13] 24)).then_new hN)
      clear hN
      go_wp2_with fail
      go_ret
      exact ⟨by first | rfl | simp, HN9.out⟩
    · have e1 : (E == 0) = false := beq_eq_false_iff_ne.2 hE
      have e1' : (E != 0) = true := bne_iff_ne.2 hE
      obtain ⟨hR, hK⟩ := Hno.out hE
      subst hR hK
      clear hE Hyes Hno
      rw [show pz.V = Value.agg #[.int .i64 0, .int .i64 0, .int .i64 0, .int .i64 0, .int .i64 0, .int .i64 0, .int .i64 0, .int .i64 0, .bool false, .int .i64 0, .int .i64 0, .int .i64 0, .int .i64 0, .bool false] from rfl]
      go_wp2_with fail
      go_ret
      exact ⟨by first | rfl | simp, HN6.out.alloc _⟩
theorem back10_open (p : Pd) (t : Int) (_wt : (Lit.int .i64 t).wf = true) (A : Option Addr) (n c : Nat) {W : World} (z : (∃ bs : List Nat, bs.length = n ∧ Arr W (· < W.heap.size) A n (fun i => bV (bs.getD i 0)) ∧ (∀ x ∈ bs, x < 256) ∧ n ≤ c ∧ c ≤ maxLen ∧ (A = none → n = 0 ∧ c = 0)) ∧ n ≤ 140737488351232) : Calls Try.prog 5 #[p.V, .int .i64 t, .slice A n c] W fun e w' => e = .returned (.bool true) ∧ New W w' := by
  obtain ⟨⟨bs, rfl, h1, h2, h3, h4, h5⟩, h6⟩ := z
  exact back10_walk p t bs _ c A W ⟨A, c, rfl, h1, h5, h2, by omega⟩ h3 h4
end Go.Proofs.Ytdaaejoglikhaaa
namespace Go.Proofs.Ytdaaejoglikhaaa
open Go.ChangeShapes Go.WideShapes Go.ChangeAt Go.RowKit
set_option linter.unusedVariables false

set_option maxRecDepth 100000 in
theorem ipeBack_lifted (os : Os) (started : os.Started) (H : Type) (enc : TypeId × Value → H) :
    ReturnsInHanded {} Try.checked os 5 .any (Rows.ipeBackSpec.pre6 enc Try.prog Try.f5 Rows.ipeBackRow.domain false) (Rows.ipeBackSpec.post enc Try.prog Try.f5 false true false false) := by
  refine returnsInHanded_of_change_sized (C := Try.checked) Try.own started (by kernel_rfl) Try.func5
    (ChangeSpec.witness6 (enc := enc) (C := Try.checked) false ⟨#[], #[.agg #[.int .i64 0, .int .i64 0, .int .i64 0, .int .i64 0, .int .i64 0, .int .i64 0, .int .i64 0, .int .i64 0, .bool false, .int .i64 0, .int .i64 0, .int .i64 0, .int .i64 0, .bool false], .int .i64 0, .slice none 0 0], []⟩ 8 (by kernel_rfl) (by kernel_rfl) (by kernel_rfl) (by kernel_rfl)) ?_
  intro W base args ds gs before hval0 hW hcnd hsz0 _
  have hsz : (DataW.weightsEach Try.prog (Try.f5.params.toList ++ Rows.ipeBackSpec.plain.varTypes Try.prog) (ds ++ gs)).all (· ≤ reachBytes) = true := hsz0
  clear hsz0
  have hval : ∀ (j : Nat) t v, Try.f5.params[j]? = some t → args[j]? = some v → Value.okWide Try.prog W .any base t v := hval0
  have hW' := hW
  obtain ⟨p, q, hA0, hV, rfl, hfz, hnd⟩ := hW
  have hA : DataW.TrodAll enc Try.prog W 0 (fun _ => true) true Try.f5.params.toList args.toList ds p := hA0
  rw [Try.params5] at hA hval hsz
  obtain ⟨v0, vs0, d0, ds0, p0, q0, hargs, rfl, rfl, h0, r0⟩ := trodAll_cons hA
  obtain ⟨v1, vs1, d1, ds1, p1, q1, rfl, rfl, rfl, h1, r1⟩ := trodAll_cons r0
  obtain ⟨v2, vs2, d2, ds2, p2, q2, rfl, rfl, rfl, h2, r2⟩ := trodAll_cons r1
  obtain ⟨rfl, rfl, rfl⟩ := trodAll_nil r2
  obtain rfl : args = #[v0, v1, v2] := by cases args; simp_all
  obtain ⟨rfl, rfl⟩ := trodVars_none hV
  obtain ⟨y0, rfl⟩ := open_product (hval 0 24 v0 rfl rfl) h0
  have k0 := h0
  have lt0 : ∀ x ∈ p0, x.block < W.heap.size := by obtain ⟨m, hm⟩ := k0; exact DataW.trod_lt m _ _ _ hm
  obtain ⟨a1, rfl, rfl, rfl, w1⟩ := open_int Try.underlying25 (hval 1 25 v1 rfl rfl) h1
  obtain ⟨a2, len2, cap2, rfl⟩ := okWide_slice Try.underlying27 (hval 2 27 v2 rfl rfl)
  have k2 := h2
  have lt2 : ∀ x ∈ p2, x.block < W.heap.size := by obtain ⟨m, hm⟩ := k2; exact DataW.trod_lt m _ _ _ hm
  have z2 := open_bytesz h2 (fun n hn => by have := List.all_eq_true.1 hsz n (DataW.weights_mem_each (j := 2) rfl rfl n hn); simpa using this)
  clear hA0 hval0
  refine (back10_open y0 a1 w1 a2 len2 cap2 z2).mono fun e W' ⟨he, bel0⟩ => ?_
  have bel := New.below bel0
  subst he
  exact ⟨_, rfl, _, _, _, [], _, [], hW', trodAll_mk1 (shut_bool Try.underlying4 _), (trodAll_cons_mk (Below.trod Try.laidOut (by kernel_rfl) (of_decide_eq_true (by kernel_rfl)) k0 bel lt0) (trodAll_cons_mk (shut_int Try.underlying25 w1) (trodAll_cons_mk (Below.trod Try.laidOut (by kernel_rfl) (of_decide_eq_true (by kernel_rfl)) k2 bel lt2) trodAll_mk0))), rfl, bel.frame _, fun h => by cases h⟩

theorem ipeBack_holds : Rows.IpeBackSaid :=
  OpenClaim.holds_of_wide 5 Try.f5 rfl rfl rfl rfl rfl rfl rfl ⟨rfl, rfl, rfl, rfl, rfl⟩ rfl rfl rfl rfl rfl (by kernel_rfl) Try.func5 (by kernel_rfl)
    (of_decide_eq_true (by kernel_rfl)) (by unfold Func.isWrapper; first | (rw [if_pos (by decide +kernel)]; kernel_rfl) | (rw [if_neg (by decide +kernel)]; exact ⟨rfl, rfl⟩))
    (fun os started H enc _ => ipeBack_lifted os started H enc)
end Go.Proofs.Ytdaaejoglikhaaa
