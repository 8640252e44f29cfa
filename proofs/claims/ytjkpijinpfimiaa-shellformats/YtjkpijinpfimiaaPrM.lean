/-
  What the program's write, written, next, sector and with do.
-/
import Derived.Test.YtjkpijinpfimiaaPrK
import Derived.Test.YtjkpijinpfimiaaRefN
import Derived.Deep.RegionHeldLaw
namespace Go.Proofs.Ytjkpijinpfimiaa
open Go.RowKit
/-- of n writes with power p: how many are done, what is said, what power is left -/
def wrN (p : Int) (n : Nat) : Nat := if 0 ≤ p ∧ p < n then p.toNat else n
def wrE (p : Int) (n : Nat) : Int := if 0 ≤ p ∧ p < n then 30 else 0
def wrP (p : Int) (k : Nat) : Int := if p < 0 then p else p - k
theorem set24 {w : World} {g : Nat} {y0 y1 y2 y3 y4 : Value} (h : Has w g 30 #[y0, y1, y2, y3, y4]) (x2 x4 : Value) :
    Has ((w.setCell ⟨g, 2, none⟩ x2).setCell ⟨g, 4, none⟩ x4) g 30 #[y0, y1, x2, y3, x4] ∧ Chg (· = g) w ((w.setCell ⟨g, 2, none⟩ x2).setCell ⟨g, 4, none⟩ x4) := by
  refine ⟨?_, ?_⟩
  · have := (h.set 2 x2).set 4 x4
    simpa using this
  · exact Chg.setCell (S := (· = g)) (Chg.setCell (S := (· = g)) (Chg.refl _ _) (fun _ => rfl) _) (fun _ => rfl) _
theorem set1 {w : World} {g : Nat} {y0 y1 y2 y3 y4 : Value} (h : Has w g 30 #[y0, y1, y2, y3, y4]) (x3 : Value) :
    Has (w.setCell ⟨g, 3, none⟩ x3) g 30 #[y0, y1, y2, x3, y4] ∧ Chg (· = g) w (w.setCell ⟨g, 3, none⟩ x3) := by
  refine ⟨?_, ?_⟩
  · have := h.set 3 x3
    simpa using this
  · exact Chg.setCell (S := (· = g)) (Chg.refl _ _) (fun _ => rfl) _
theorem doneI_zero (B : List Nat) (rs : List Wr) : doneI B rs 0 = B := by cases rs <;> rfl
set_option maxRecDepth 100000 in
set_option maxHeartbeats 4000000 in
theorem write_any (g : Nat) (B : List Nat) (p : Int) (A : Option Addr) (n c : Nat) (F : Nat → Prop) (rs : List Wr) (w : World) (hC : Cd w g B p) (hR : Rws w F A rs) (hF : ∀ k, F k → k ≠ g ∧ k < w.heap.size) (hn : rs.length = n) (hn3 : n ≤ 3) (hf : ∀ r ∈ rs, Wr.fine r) :
    Calls Try.prog 50 #[.pointer (some ⟨g, 0, none⟩), .slice A n c] w fun e w' => e = .returned (.int .i64 (wrE p n)) ∧ Cd w' g (doneI B rs (wrN p n)) (wrP p (wrN p n)) ∧ Chg (· = g) w w' := by
  have HC := Lib.hid hC; clear hC
  have HR := Lib.hid hR; clear hR
  have HF := Lib.hid hF; clear hF
  have Hn := Lib.hid hn; clear hn
  have Hf := Lib.hid hf; clear hf
  have Hgl : Hid (g < w.heap.size) := HC.out.lt
  go_enter Try.func50, Try.ntmps50
  go_wp2_with fail
  go_loopg [10] n (fun gk x wr => ∃ k : Nat, k ≤ n ∧ gk = n - k ∧ x = .int .i64 k ∧ k ≤ wrN p n ∧ Cd wr g (doneI B rs k) (wrP p k) ∧ Chg (· = g) w wr)
  case atStart => exact ⟨0, by omega, by omega, rfl, by omega, by rw [doneI_zero]; unfold wrP; simpa using HC.out, Chg.refl _ _⟩
  case round =>
    obtain ⟨k, hk, rfl, rfl, hkn, hCk, hG⟩ := hrel
    have HCk := Lib.hid hCk
    have HG := Lib.hid hG
    have Hkn := Lib.hid hkn
    clear hCk hkn
    by_cases hlt : k < n
    · obtain ⟨r, hr⟩ : ∃ r, rs[k]? = some r := ⟨_, List.getElem?_eq_getElem (by rw [Hn.out]; exact hlt)⟩
      have hfr := Hf.out r (List.mem_of_getElem? hr)
      have Hst := Lib.hid (done_step (B := B) hr)
      obtain ⟨a, LA, lc, rfl, hab, h0, h1, h2⟩ := (HR.out k r hr).chg hG (fun x hx => ⟨(HF.out x hx).2, (HF.out x hx).1⟩)
      have HA := Lib.hid h2
      have Hl := Lib.hid hfr.len
      have Hs := Lib.hid hfr.small
      have H16 := Lib.hid hfr.lt
      have hal : a.block < w.heap.size := (HF.out _ hab).2
      have halr : (a.add (k * 2)).block < wr.heap.size := by rw [add_block]; exact Nat.lt_of_lt_of_le hal hG.size
      obtain ⟨r1, hr1⟩ : ∃ x, x = r.1 := ⟨_, rfl⟩
      obtain ⟨r2, hr2⟩ : ∃ x, x = r.2 := ⟨_, rfl⟩
      rw [← hr1] at h0
      rw [← hr1, ← hr2] at Hst
      rw [← hr1] at H16
      rw [← hr2] at HA Hl Hs
      clear hr h2 hfr hr1 hr2 hG hab
      obtain ⟨D, hD⟩ : ∃ D, D = doneI B rs k := ⟨_, rfl⟩
      rw [← hD] at HCk Hst
      have HD := Lib.hid hD; clear hD
      obtain ⟨P, hP⟩ : ∃ P, P = wrP p k := ⟨_, rfl⟩
      rw [← hP] at HCk
      have HP := Lib.hid hP; clear hP
      have HGr : Hid (∀ wx, New wr wx → Calls Try.prog 71 #[.pointer (some ⟨g, 0, none⟩), .int .i64 (r1 : Int), .slice LA 32 lc] wx fun e w' => e = .returned (.int .i64 (wE (r1 : Int) 32 P)) ∧ Cd w' g (wB D r2 (r1 : Int) P) (wP 32 (r1 : Int) P) ∧ Chg (· = g) wx w') := fun wx hx =>
        Write_any g (r1 : Int) D r2 P LA 32 lc F wx (HCk.out.new hx) (HA.out.new hx (fun x hx => Nat.lt_of_lt_of_le (HF.out x hx).2 HG.out.size)) (fun x hxx => ⟨(HF.out x hxx).1, Nat.lt_of_lt_of_le (HF.out x hxx).2 (Nat.le_trans HG.out.size hx.size)⟩) Hl.out Hs.out
      go_wp2_with fail
      with_reducible refine (HGr.out _ (by with_reducible repeat (first | exact Chg.refl _ _ | refine Chg.alloc ?_ _ | refine Chg.drew ?_))).mono ?_
      rintro e w2 ⟨rfl, hC2, hG2⟩
      have HG2 : Hid (Chg (· = g) w w2) := by
        have h1 := HG.out.alloc (.cells #[.int .i64 (r1 : Int), .slice LA 32 lc] 95)
        exact h1.trans hG2 (fun _ _ h => h)
      have hi16 : 0 ≤ (r1 : Int) ∧ (r1 : Int) < 16 := by have := H16.out; omega
      by_cases hP0 : P = 0
      · have e0 : wE (r1 : Int) 32 P = 30 := by unfold wE; rw [if_pos hi16, szE_same, if_pos rfl, if_pos hP0]
        have e1 : wB D r2 (r1 : Int) P = D := by unfold wB; rw [Hl.out, e0, if_neg (by decide)]
        have e2 : wP 32 (r1 : Int) P = P := by unfold wP; rw [e0, if_neg (by decide)]
        have hpk : p = k := by
          have h := HP.out
          unfold wrP at h
          split at h <;> omega
        have E : Hid (wrE p n = 30 ∧ wrN p n = k) := by
          refine ⟨?_, ?_⟩
          · unfold wrE; rw [if_pos (by omega)]
          · unfold wrN; rw [if_pos (by omega)]; omega
        rw [e1, e2, HD.out, HP.out] at hC2
        have HC2 := Lib.hid hC2
        rw [e0]
        clear hG2 hC2 e0 e1 e2 hP0 hpk hi16
        go_wp2_with fail
        go_ret
        rw [E.out.1, E.out.2]
        exact ⟨rfl, HC2.out, HG2.out⟩
      · have e0 : wE (r1 : Int) 32 P = 0 := by unfold wE; rw [if_pos hi16, szE_same, if_pos rfl, if_neg hP0]
        have e1 : wB D r2 (r1 : Int) P = splice D (32 * r1) r2 := by unfold wB; rw [Hl.out, e0, if_pos rfl]; simp
        have e2 : wP 32 (r1 : Int) P = wrP p (k + 1) := by
          unfold wP
          rw [e0, if_pos rfl]
          have h := HP.out
          have hkn := Hkn.out
          unfold wrN at hkn
          unfold wrP at h ⊢
          unfold spent
          split at h <;> rename_i hp
          · rw [if_neg (by omega), if_pos hp]; exact h
          · split at hkn <;> (rw [if_pos (by omega), if_neg hp]; omega)
        have E : Hid (k + 1 ≤ wrN p n) := by
          have h := HP.out
          have hkn := Hkn.out
          show _ ≤ _
          unfold wrN at hkn ⊢
          unfold wrP at h
          split at h <;> rename_i hp
          · rw [if_neg (by omega)]; omega
          · by_cases hh : 0 ≤ p ∧ p < n
            · rw [if_pos hh] at hkn ⊢; omega
            · rw [if_neg hh] at hkn ⊢; omega
        rw [e1, e2, ← Hst.out] at hC2
        have HC2 := Lib.hid hC2
        rw [e0]
        clear hG2 hC2 e0 e1 e2 hP0 hi16
        go_wp2_with fail
        go_roundg (n - (k + 1))
        case measure => omega
        case rel => exact ⟨k + 1, by omega, rfl, by go_num, E.out, HC2.out, HG2.out⟩
    · obtain rfl : k = n := by omega
      have E : Hid (wrE p k = 0 ∧ wrN p k = k) := by
        have h := Hkn.out
        unfold wrN at h
        have hp : ¬ (0 ≤ p ∧ p < k) := by
          intro hh
          rw [if_pos hh] at h
          omega
        refine ⟨?_, ?_⟩
        · unfold wrE; rw [if_neg hp]
        · unfold wrN; rw [if_neg hp]
      clear hG
      go_wp2_with fail
      go_ret
      rw [E.out.1, E.out.2]
      exact ⟨rfl, HCk.out, HG.out⟩
/-- what written tells -/
def WrR (v : Value) (p : Int) (n : Nat) (e : Ending) : Prop :=
  (wrE p n = 0 ∧ e = .returned (.tuple #[v, .int .i64 0])) ∨ (wrE p n = 30 ∧ e = .returned (.tuple #[.agg #[.int .i64 0, .int .i64 0, .int .i64 0, .int .i64 0, .slice none 0 0], .int .i64 30]))
set_option maxRecDepth 100000 in
set_option maxHeartbeats 4000000 in
theorem written_any (g : Nat) (B : List Nat) (p : Int) (A : Option Addr) (n c : Nat) (F : Nat → Prop) (rs : List Wr) (x0 x1 x2 x3 : Int) (E : Option Addr) (en ec : Nat) (w : World) (hC : Cd w g B p) (hR : Rws w F A rs) (hF : ∀ k, F k → k ≠ g ∧ k < w.heap.size) (hn : rs.length = n) (hn3 : n ≤ 3) (hf : ∀ r ∈ rs, Wr.fine r) :
    Calls Try.prog 56 #[.pointer (some ⟨g, 0, none⟩), .agg #[.int .i64 x0, .int .i64 x1, .int .i64 x2, .int .i64 x3, .slice E en ec], .slice A n c] w fun e w' => WrR (.agg #[.int .i64 x0, .int .i64 x1, .int .i64 x2, .int .i64 x3, .slice E en ec]) p n e ∧ Cd w' g (doneI B rs (wrN p n)) (wrP p (wrN p n)) ∧ Chg (· = g) w w' := by
  have H : Hid (∀ wx, New w wx → Calls Try.prog 50 #[.pointer (some ⟨g, 0, none⟩), .slice A n c] wx fun e w' => e = .returned (.int .i64 (wrE p n)) ∧ Cd w' g (doneI B rs (wrN p n)) (wrP p (wrN p n)) ∧ Chg (· = g) wx w') := fun wx hx =>
    write_any g B p A n c F rs wx (hC.new hx) (hR.new hx (fun k hk => (hF k hk).2)) (fun k hk => ⟨(hF k hk).1, Nat.lt_of_lt_of_le (hF k hk).2 hx.size⟩) hn hn3 hf
  have Hgl : Hid (g < w.heap.size) := hC.lt
  clear hC hR hF hn hf
  obtain ⟨vb, hvb⟩ : ∃ vb, vb = w.heap.size := ⟨_, rfl⟩
  obtain ⟨rb, hrb⟩ : ∃ rb, rb = w.heap.size + 1 := ⟨_, rfl⟩
  go_enter Try.func56, Try.ntmps56
  go_wp2_with fail
  obtain ⟨w1, hw1⟩ : ∃ w1, w1 = (w.alloc (.cells #[.int .i64 x0, .int .i64 x1, .int .i64 x2, .int .i64 x3, .slice E en ec] 30)).alloc (.cells #[.int .i64 0, .int .i64 0, .int .i64 0, .int .i64 0, .slice none 0 0] 30) := ⟨_, rfl⟩
  have HV1 : Hid (Has w1 vb 30 #[.int .i64 x0, .int .i64 x1, .int .i64 x2, .int .i64 x3, .slice E en ec]) := by rw [hw1, hvb]; exact (Has.new w 30 _).alloc _
  have HB1 : Hid (Has w1 rb 30 #[.int .i64 0, .int .i64 0, .int .i64 0, .int .i64 0, .slice none 0 0]) := by rw [hw1, hrb]; exact Has.new_at _ 30 _ _ (by simp)
  have HN1 : Hid (New w w1) := by rw [hw1]; exact ((Chg.refl _ _).alloc _).alloc _
  have Hvr : Hid (vb ≠ g ∧ rb ≠ g ∧ w.heap.size ≤ rb) := by have := Hgl.out; show _ ∧ _ ∧ _; omega
  rw [← hw1, ← hrb]
  clear hw1 hrb
  rw [← hvb]
  clear hvb
  with_reducible refine (H.out w1 HN1.out).mono ?_
  rintro e w2 ⟨rfl, hC2, hG2⟩
  have HV2 := Lib.hid (HV1.out.chg hG2 Hvr.out.1)
  have HB2 := Lib.hid (HB1.out.chg hG2 Hvr.out.2.1)
  have HC2 := Lib.hid hC2
  have HG2 : Hid (Chg (· = g) w w2) := Chg.new_then HN1.out hG2
  clear hC2 hG2
  have v0 : w2.cell? ⟨vb, 0, none⟩ = some (.int .i64 x0) := (HV2.out.cell 0).trans rfl
  have v1 : w2.cell? ⟨vb, 1, none⟩ = some (.int .i64 x1) := (HV2.out.cell 1).trans rfl
  have v2 : w2.cell? ⟨vb, 2, none⟩ = some (.int .i64 x2) := (HV2.out.cell 2).trans rfl
  have v3 : w2.cell? ⟨vb, 3, none⟩ = some (.int .i64 x3) := (HV2.out.cell 3).trans rfl
  have v4 : w2.cell? ⟨vb, 4, none⟩ = some (.slice E en ec) := (HV2.out.cell 4).trans rfl
  have y0 := HV2.out.free 0
  have y1 := HV2.out.free 1
  have y2 := HV2.out.free 2
  have y3 := HV2.out.free 3
  have y4 := HV2.out.free 4
  have r0 : w2.cell? ⟨rb, 0, none⟩ = some (.int .i64 0) := (HB2.out.cell 0).trans rfl
  have r1 : w2.cell? ⟨rb, 1, none⟩ = some (.int .i64 0) := (HB2.out.cell 1).trans rfl
  have r2 : w2.cell? ⟨rb, 2, none⟩ = some (.int .i64 0) := (HB2.out.cell 2).trans rfl
  have r3 : w2.cell? ⟨rb, 3, none⟩ = some (.int .i64 0) := (HB2.out.cell 3).trans rfl
  have r4 : w2.cell? ⟨rb, 4, none⟩ = some (.slice none 0 0) := (HB2.out.cell 4).trans rfl
  have z0 := HB2.out.free 0
  have z1 := HB2.out.free 1
  have z2 := HB2.out.free 2
  have z3 := HB2.out.free 3
  have z4 := HB2.out.free 4
  by_cases hp : 0 ≤ p ∧ p < n
  · have e0 : wrE p n = 30 := by unfold wrE; rw [if_pos hp]
    have E0 := Lib.hid e0
    rw [e0]
    clear e0 hp
    go_wp2_with fail
    obtain ⟨hX, hGX⟩ := setV HB2.out (.int .i64 0) (.int .i64 0) (.int .i64 0) (.int .i64 0) (.slice none 0 0)
    generalize (((((w2.setCell ⟨rb, 0, none⟩ (.int .i64 0)).setCell ⟨rb, 1, none⟩ (.int .i64 0)).setCell ⟨rb, 2, none⟩ (.int .i64 0)).setCell ⟨rb, 3, none⟩ (.int .i64 0)).setCell ⟨rb, 4, none⟩ (.slice none 0 0)) = wX at hX hGX ⊢
    have g0 := (hX.cell 0).trans rfl
    have g1 := (hX.cell 1).trans rfl
    have g2 := (hX.cell 2).trans rfl
    have g3 := (hX.cell 3).trans rfl
    have g4 := (hX.cell 4).trans rfl
    refine bodyPost_ret (v := .tuple #[.agg #[.int .i64 0, .int .i64 0, .int .i64 0, .int .i64 0, .slice none 0 0], .int .i64 30]) (by simp [results, Try.results56, go_sem, g0, g1, g2, g3, g4]) rfl ?_
    exact ⟨Or.inr ⟨E0.out, rfl⟩, HC2.out.chg hGX Hvr.out.2.1.symm, HG2.out.trans hGX (fun i hi h => by have := Hvr.out; omega)⟩
  · have e0 : wrE p n = 0 := by unfold wrE; rw [if_neg hp]
    have E0 := Lib.hid e0
    rw [e0]
    clear e0 hp
    go_wp2_with fail
    obtain ⟨hX, hGX⟩ := setV HB2.out (.int .i64 x0) (.int .i64 x1) (.int .i64 x2) (.int .i64 x3) (.slice E en ec)
    generalize (((((w2.setCell ⟨rb, 0, none⟩ (.int .i64 x0)).setCell ⟨rb, 1, none⟩ (.int .i64 x1)).setCell ⟨rb, 2, none⟩ (.int .i64 x2)).setCell ⟨rb, 3, none⟩ (.int .i64 x3)).setCell ⟨rb, 4, none⟩ (.slice E en ec)) = wX at hX hGX ⊢
    have g0 := (hX.cell 0).trans rfl
    have g1 := (hX.cell 1).trans rfl
    have g2 := (hX.cell 2).trans rfl
    have g3 := (hX.cell 3).trans rfl
    have g4 := (hX.cell 4).trans rfl
    refine bodyPost_ret (v := .tuple #[.agg #[.int .i64 x0, .int .i64 x1, .int .i64 x2, .int .i64 x3, .slice E en ec], .int .i64 0]) (by simp [results, Try.results56, go_sem, g0, g1, g2, g3, g4]) rfl ?_
    exact ⟨Or.inl ⟨E0.out, rfl⟩, HC2.out.chg hGX Hvr.out.2.1.symm, HG2.out.trans hGX (fun i hi h => by have := Hvr.out; omega)⟩
set_option maxRecDepth 100000 in
set_option maxHeartbeats 4000000 in
theorem next_any (c u q : Int) (p : Nat) (A : Option Addr) (n cc : Nat) (E : Option Addr) (en ec : Nat) (w : World) (hp : p = 1 ∨ p = 2) (hq : 0 ≤ q ∧ q ≤ 65535) :
    Calls Try.prog 54 #[.agg #[.int .i64 c, .int .i64 u, .int .i64 q, .int .i64 (p : Int), .slice A n cc], .slice E en ec] w fun e w' => e = .returned (.agg #[.int .i64 c, .int .i64 u, .int .i64 (q + 1), .int .i64 (3 - (p : Int)), .slice E en ec]) ∧ New w w' := by
  have f1 : wrap64 (q + 1) = q + 1 := by unfold wrap64; omega
  obtain ⟨P, hP⟩ : ∃ P : Int, P = 3 - (p : Int) := ⟨_, rfl⟩
  rw [← hP]
  obtain ⟨vb, hvb⟩ : ∃ vb, vb = w.heap.size := ⟨_, rfl⟩
  obtain ⟨rb, hrb⟩ : ∃ rb, rb = w.heap.size + 1 := ⟨_, rfl⟩
  go_enter Try.func54, Try.ntmps54
  go_upto_region 1 with (fail)
  obtain ⟨w1, hw1⟩ : ∃ w1, w1 = (w.alloc (.cells #[.int .i64 c, .int .i64 u, .int .i64 q, .int .i64 (p : Int), .slice A n cc] 30)).alloc (.cells #[.int .i64 0, .int .i64 0, .int .i64 0, .int .i64 0, .slice none 0 0] 30) := ⟨_, rfl⟩
  have HV1 : Hid (Has w1 vb 30 #[.int .i64 c, .int .i64 u, .int .i64 q, .int .i64 (p : Int), .slice A n cc]) := by rw [hw1, hvb]; exact (Has.new w 30 _).alloc _
  have HB1 : Hid (Has w1 rb 30 #[.int .i64 0, .int .i64 0, .int .i64 0, .int .i64 0, .slice none 0 0]) := by rw [hw1, hrb]; exact Has.new_at _ 30 _ _ (by simp)
  have HN1 : Hid (New w w1) := by rw [hw1]; exact ((Chg.refl _ _).alloc _).alloc _
  have hvr : vb ≠ rb := by omega
  have Hvr : Hid (vb ≠ rb ∧ w.heap.size ≤ rb ∧ w.heap.size ≤ vb) := by show _ ∧ _ ∧ _; omega
  rw [← hw1, ← hrb]
  clear hw1 hrb
  rw [← hvb]
  clear hvb
  have v0 : w1.cell? ⟨vb, 0, none⟩ = some (.int .i64 c) := (HV1.out.cell 0).trans rfl
  have v1 : w1.cell? ⟨vb, 1, none⟩ = some (.int .i64 u) := (HV1.out.cell 1).trans rfl
  have v2 : w1.cell? ⟨vb, 2, none⟩ = some (.int .i64 q) := (HV1.out.cell 2).trans rfl
  have v3 : w1.cell? ⟨vb, 3, none⟩ = some (.int .i64 (p : Int)) := (HV1.out.cell 3).trans rfl
  have v4 : w1.cell? ⟨vb, 4, none⟩ = some (.slice A n cc) := (HV1.out.cell 4).trans rfl
  have y0 := HV1.out.free 0
  have y1 := HV1.out.free 1
  have y2 := HV1.out.free 2
  have y3 := HV1.out.free 3
  have y4 := HV1.out.free 4
  have r0 : w1.cell? ⟨rb, 0, none⟩ = some (.int .i64 0) := (HB1.out.cell 0).trans rfl
  have r1 : w1.cell? ⟨rb, 1, none⟩ = some (.int .i64 0) := (HB1.out.cell 1).trans rfl
  have r2 : w1.cell? ⟨rb, 2, none⟩ = some (.int .i64 0) := (HB1.out.cell 2).trans rfl
  have r3 : w1.cell? ⟨rb, 3, none⟩ = some (.int .i64 0) := (HB1.out.cell 3).trans rfl
  have r4 : w1.cell? ⟨rb, 4, none⟩ = some (.slice none 0 0) := (HB1.out.cell 4).trans rfl
  have z0 := HB1.out.free 0
  have z1 := HB1.out.free 1
  have z2 := HB1.out.free 2
  have z3 := HB1.out.free 3
  have z4 := HB1.out.free 4
  go_upto_region 3 with (fail)
  obtain ⟨hX1, hG1⟩ := set24 HV1.out (.int .i64 (q + 1)) (.slice E en ec)
  generalize ((w1.setCell ⟨vb, 2, none⟩ (.int .i64 (q + 1))).setCell ⟨vb, 4, none⟩ (.slice E en ec)) = w2 at hX1 hG1 ⊢
  have HV2 := Lib.hid hX1
  have HB2 := Lib.hid (HB1.out.chg hG1 Hvr.out.1.symm)
  have HN2 : Hid (New w w2) := HN1.out.trans hG1 (fun i hi h => by have := Hvr.out; omega)
  clear hX1 hG1 v0 v1 v2 v3 v4 y0 y1 y2 y3 y4 r0 r1 r2 r3 r4 z0 z1 z2 z3 z4 f1
  have v0 : w2.cell? ⟨vb, 0, none⟩ = some (.int .i64 c) := (HV2.out.cell 0).trans rfl
  have v1 : w2.cell? ⟨vb, 1, none⟩ = some (.int .i64 u) := (HV2.out.cell 1).trans rfl
  have v2 : w2.cell? ⟨vb, 2, none⟩ = some (.int .i64 (q + 1)) := (HV2.out.cell 2).trans rfl
  have v3 : w2.cell? ⟨vb, 3, none⟩ = some (.int .i64 (p : Int)) := (HV2.out.cell 3).trans rfl
  have v4 : w2.cell? ⟨vb, 4, none⟩ = some (.slice E en ec) := (HV2.out.cell 4).trans rfl
  have y0 := HV2.out.free 0
  have y1 := HV2.out.free 1
  have y2 := HV2.out.free 2
  have y3 := HV2.out.free 3
  have y4 := HV2.out.free 4
  rcases hp with hp | hp
  · have t : ((p : Int) == 1) = true := by rw [hp]; rfl
    obtain rfl : P = 2 := by omega
    clear hP hp
    go_upto_region 6 with (fail)
    obtain ⟨hX1, hG1⟩ := set1 HV2.out (.int .i64 2)
    generalize (w2.setCell ⟨vb, 3, none⟩ (.int .i64 2)) = w3 at hX1 hG1 ⊢
    have HV3 := Lib.hid hX1
    have HB3 := Lib.hid (HB2.out.chg hG1 Hvr.out.1.symm)
    have HN3 : Hid (New w w3) := HN2.out.trans hG1 (fun i hi h => by have := Hvr.out; omega)
    clear hX1 hG1 v0 v1 v2 v3 v4 y0 y1 y2 y3 y4
    have v0 : w3.cell? ⟨vb, 0, none⟩ = some (.int .i64 c) := (HV3.out.cell 0).trans rfl
    have v1 : w3.cell? ⟨vb, 1, none⟩ = some (.int .i64 u) := (HV3.out.cell 1).trans rfl
    have v2 : w3.cell? ⟨vb, 2, none⟩ = some (.int .i64 (q + 1)) := (HV3.out.cell 2).trans rfl
    have v3 : w3.cell? ⟨vb, 3, none⟩ = some (.int .i64 2) := (HV3.out.cell 3).trans rfl
    have v4 : w3.cell? ⟨vb, 4, none⟩ = some (.slice E en ec) := (HV3.out.cell 4).trans rfl
    have y0 := HV3.out.free 0
    have y1 := HV3.out.free 1
    have y2 := HV3.out.free 2
    have y3 := HV3.out.free 3
    have y4 := HV3.out.free 4
    have r0 : w3.cell? ⟨rb, 0, none⟩ = some (.int .i64 0) := (HB3.out.cell 0).trans rfl
    have r1 : w3.cell? ⟨rb, 1, none⟩ = some (.int .i64 0) := (HB3.out.cell 1).trans rfl
    have r2 : w3.cell? ⟨rb, 2, none⟩ = some (.int .i64 0) := (HB3.out.cell 2).trans rfl
    have r3 : w3.cell? ⟨rb, 3, none⟩ = some (.int .i64 0) := (HB3.out.cell 3).trans rfl
    have r4 : w3.cell? ⟨rb, 4, none⟩ = some (.slice none 0 0) := (HB3.out.cell 4).trans rfl
    have z0 := HB3.out.free 0
    have z1 := HB3.out.free 1
    have z2 := HB3.out.free 2
    have z3 := HB3.out.free 3
    have z4 := HB3.out.free 4
    go_wp2_with fail
    obtain ⟨hX, hGX⟩ := setV HB3.out (.int .i64 c) (.int .i64 u) (.int .i64 (q + 1)) (.int .i64 2) (.slice E en ec)
    generalize (((((w3.setCell ⟨rb, 0, none⟩ (.int .i64 c)).setCell ⟨rb, 1, none⟩ (.int .i64 u)).setCell ⟨rb, 2, none⟩ (.int .i64 (q + 1))).setCell ⟨rb, 3, none⟩ (.int .i64 2)).setCell ⟨rb, 4, none⟩ (.slice E en ec)) = wX at hX hGX ⊢
    have g0 := (hX.cell 0).trans rfl
    have g1 := (hX.cell 1).trans rfl
    have g2 := (hX.cell 2).trans rfl
    have g3 := (hX.cell 3).trans rfl
    have g4 := (hX.cell 4).trans rfl
    refine bodyPost_ret (v := .agg #[.int .i64 c, .int .i64 u, .int .i64 (q + 1), .int .i64 2, .slice E en ec]) (by simp [results, Try.results54, go_sem, g0, g1, g2, g3, g4]) rfl ?_
    exact ⟨rfl, HN3.out.trans hGX (fun i hi h => by have := Hvr.out; omega)⟩
  · have t : ((p : Int) == 1) = false := by rw [hp]; rfl
    obtain rfl : P = 1 := by omega
    clear hP hp
    go_upto_region 6 with (fail)
    obtain ⟨hX1, hG1⟩ := set1 HV2.out (.int .i64 1)
    generalize (w2.setCell ⟨vb, 3, none⟩ (.int .i64 1)) = w3 at hX1 hG1 ⊢
    have HV3 := Lib.hid hX1
    have HB3 := Lib.hid (HB2.out.chg hG1 Hvr.out.1.symm)
    have HN3 : Hid (New w w3) := HN2.out.trans hG1 (fun i hi h => by have := Hvr.out; omega)
    clear hX1 hG1 v0 v1 v2 v3 v4 y0 y1 y2 y3 y4
    have v0 : w3.cell? ⟨vb, 0, none⟩ = some (.int .i64 c) := (HV3.out.cell 0).trans rfl
    have v1 : w3.cell? ⟨vb, 1, none⟩ = some (.int .i64 u) := (HV3.out.cell 1).trans rfl
    have v2 : w3.cell? ⟨vb, 2, none⟩ = some (.int .i64 (q + 1)) := (HV3.out.cell 2).trans rfl
    have v3 : w3.cell? ⟨vb, 3, none⟩ = some (.int .i64 1) := (HV3.out.cell 3).trans rfl
    have v4 : w3.cell? ⟨vb, 4, none⟩ = some (.slice E en ec) := (HV3.out.cell 4).trans rfl
    have y0 := HV3.out.free 0
    have y1 := HV3.out.free 1
    have y2 := HV3.out.free 2
    have y3 := HV3.out.free 3
    have y4 := HV3.out.free 4
    have r0 : w3.cell? ⟨rb, 0, none⟩ = some (.int .i64 0) := (HB3.out.cell 0).trans rfl
    have r1 : w3.cell? ⟨rb, 1, none⟩ = some (.int .i64 0) := (HB3.out.cell 1).trans rfl
    have r2 : w3.cell? ⟨rb, 2, none⟩ = some (.int .i64 0) := (HB3.out.cell 2).trans rfl
    have r3 : w3.cell? ⟨rb, 3, none⟩ = some (.int .i64 0) := (HB3.out.cell 3).trans rfl
    have r4 : w3.cell? ⟨rb, 4, none⟩ = some (.slice none 0 0) := (HB3.out.cell 4).trans rfl
    have z0 := HB3.out.free 0
    have z1 := HB3.out.free 1
    have z2 := HB3.out.free 2
    have z3 := HB3.out.free 3
    have z4 := HB3.out.free 4
    go_wp2_with fail
    obtain ⟨hX, hGX⟩ := setV HB3.out (.int .i64 c) (.int .i64 u) (.int .i64 (q + 1)) (.int .i64 1) (.slice E en ec)
    generalize (((((w3.setCell ⟨rb, 0, none⟩ (.int .i64 c)).setCell ⟨rb, 1, none⟩ (.int .i64 u)).setCell ⟨rb, 2, none⟩ (.int .i64 (q + 1))).setCell ⟨rb, 3, none⟩ (.int .i64 1)).setCell ⟨rb, 4, none⟩ (.slice E en ec)) = wX at hX hGX ⊢
    have g0 := (hX.cell 0).trans rfl
    have g1 := (hX.cell 1).trans rfl
    have g2 := (hX.cell 2).trans rfl
    have g3 := (hX.cell 3).trans rfl
    have g4 := (hX.cell 4).trans rfl
    refine bodyPost_ret (v := .agg #[.int .i64 c, .int .i64 u, .int .i64 (q + 1), .int .i64 1, .slice E en ec]) (by simp [results, Try.results54, go_sem, g0, g1, g2, g3, g4]) rfl ?_
    exact ⟨rfl, HN3.out.trans hGX (fun i hi h => by have := Hvr.out; omega)⟩
theorem setS {w : World} {g : Nat} {y0 y1 : Value} (h : Has w g 95 #[y0, y1]) (x0 x1 : Value) :
    Has ((w.setCell ⟨g, 0, none⟩ x0).setCell ⟨g, 1, none⟩ x1) g 95 #[x0, x1] ∧ Chg (· = g) w ((w.setCell ⟨g, 0, none⟩ x0).setCell ⟨g, 1, none⟩ x1) := by
  refine ⟨?_, ?_⟩
  · have := (h.set 0 x0).set 1 x1
    simpa using this
  · exact Chg.setCell (S := (· = g)) (Chg.setCell (S := (· = g)) (Chg.refl _ _) (fun _ => rfl) _) (fun _ => rfl) _
set_option maxRecDepth 100000 in
set_option maxHeartbeats 4000000 in
theorem sector_any (c u p : Int) (q : Nat) (A : Option Addr) (n cc : Nat) (F : Nat → Prop) (l : List En) (w : World) (hE : Ents w F A l) (hF : ∀ k, F k → k < w.heap.size) (hl : l.length = n) (hn : n ≤ 5) (hq : q ≤ 65535) (hg : ∀ e ∈ l, e.good) :
    Calls Try.prog 57 #[.agg #[.int .i64 c, .int .i64 u, .int .i64 (q : Int), .int .i64 p, .slice A n cc]] w fun e w' => ∃ S sc, e = .returned (.agg #[.int .i64 p, .slice S 32 sc]) ∧ w'.ownsRow w.heap.size 5 1 (.slice S 32 sc) 32 ((sectorB (listB q l)).map bV) ∧ New w w' := by
  have H : Hid (∀ wx, New w wx → Calls Try.prog 51 #[.int .i64 (q : Int), .slice A n cc] wx fun e w' => ∃ A' c', e = .returned (.slice A' 32 c') ∧ w'.ownsRow w.heap.size 5 1 (.slice A' 32 c') 32 ((sectorB (listB q l)).map bV) ∧ New wx w') := fun wx hx =>
    (laidCopy_any q A n cc F l wx (hE.new hx hF) (fun k hk => Nat.lt_of_lt_of_le (hF k hk) hx.size) hl hn hq hg).mono (by
      rintro e w' ⟨A', c', rfl, hO, hN⟩
      exact ⟨A', c', rfl, own_base hO (fun k hk => Nat.le_trans hx.size (hO.lt k hk).1), hN⟩)
  clear hE hF hl hn hq hg
  obtain ⟨vb, hvb⟩ : ∃ vb, vb = w.heap.size := ⟨_, rfl⟩
  obtain ⟨rb, hrb⟩ : ∃ rb, rb = w.heap.size + 1 := ⟨_, rfl⟩
  go_enter Try.func57, Try.ntmps57
  go_upto_region 1 with (fail)
  obtain ⟨w1, hw1⟩ : ∃ w1, w1 = (w.alloc (.cells #[.int .i64 c, .int .i64 u, .int .i64 (q : Int), .int .i64 p, .slice A n cc] 30)).alloc (.cells #[.int .i64 0, .slice none 0 0] 95) := ⟨_, rfl⟩
  have HV1 : Hid (Has w1 vb 30 #[.int .i64 c, .int .i64 u, .int .i64 (q : Int), .int .i64 p, .slice A n cc]) := by rw [hw1, hvb]; exact (Has.new w 30 _).alloc _
  have HB1 : Hid (Has w1 rb 95 #[.int .i64 0, .slice none 0 0]) := by rw [hw1, hrb]; exact Has.new_at _ 95 _ _ (by simp)
  have HN1 : Hid (New w w1) := by rw [hw1]; exact ((Chg.refl _ _).alloc _).alloc _
  have Hvr : Hid (vb ≠ rb ∧ w.heap.size ≤ rb ∧ w.heap.size ≤ vb) := by show _ ∧ _ ∧ _; omega
  have hvr : vb ≠ rb := by omega
  rw [← hw1, ← hrb]
  clear hw1 hrb
  rw [← hvb]
  clear hvb
  have hdr : New w1 w1.drew := (Chg.refl _ _).drew
  have HVd := Lib.hid (HV1.out.keep hdr)
  have HBd := Lib.hid (HB1.out.keep hdr)
  have HNd := Lib.hid (HN1.out.then_new hdr)
  clear hdr
  have v2 : w1.cell? ⟨vb, 2, none⟩ = some (.int .i64 (q : Int)) := (HV1.out.cell 2).trans rfl
  have v3 : w1.cell? ⟨vb, 3, none⟩ = some (.int .i64 p) := (HV1.out.cell 3).trans rfl
  have v4 : w1.cell? ⟨vb, 4, none⟩ = some (.slice A n cc) := (HV1.out.cell 4).trans rfl
  go_region_held3 (fun w' => w'.cell? ⟨vb, 2, none⟩ = some (.int .i64 (q : Int)) ∧ w'.cell? ⟨vb, 3, none⟩ = some (.int .i64 p) ∧ w'.cell? ⟨vb, 4, none⟩ = some (.slice A n cc))
    (first | exact ⟨g2, g3, g4⟩ | (with_reducible refine HK4.out _ ?_; with_reducible repeat (first | exact Chg.refl _ _ | refine Chg.drew ?_ | refine Chg.setCell (S := (· = rb)) ?_ (fun _ => by dsimp only) _)) | exact ⟨v2, v3, v4⟩)
    (first
      | (go_at_call 51; (with_reducible refine (H.out w1.drew HNd.out).mono ?_); rintro e w7 ⟨A7, c7, rfl, hO7, hN7⟩
         have HO7 := Lib.hid hO7
         have HN7 := Lib.hid (HNd.out.then_new hN7)
         have hV7 := HVd.out.keep hN7
         have g2 : w7.cell? ⟨vb, 2, none⟩ = some (.int .i64 (q : Int)) := (hV7.cell 2).trans rfl
         have g3 : w7.cell? ⟨vb, 3, none⟩ = some (.int .i64 p) := (hV7.cell 3).trans rfl
         have g4 : w7.cell? ⟨vb, 4, none⟩ = some (.slice A n cc) := (hV7.cell 4).trans rfl
         have hB7 := HBd.out.keep hN7
         have r0 : w7.cell? ⟨rb, 0, none⟩ = some (.int .i64 0) := (hB7.cell 0).trans rfl
         have r1 : w7.cell? ⟨rb, 1, none⟩ = some (.slice none 0 0) := (hB7.cell 1).trans rfl
         have z0 := hB7.free 0
         have z1 := hB7.free 1
         have HB7 := Lib.hid hB7
         have HK4 : Hid (∀ wx, Chg (· = rb) w7 wx → wx.cell? ⟨vb, 2, none⟩ = some (.int .i64 (q : Int)) ∧ wx.cell? ⟨vb, 3, none⟩ = some (.int .i64 p) ∧ wx.cell? ⟨vb, 4, none⟩ = some (.slice A n cc)) := fun wx hx => ⟨((hV7.chg hx Hvr.out.1).cell 2).trans rfl, ((hV7.chg hx Hvr.out.1).cell 3).trans rfl, ((hV7.chg hx Hvr.out.1).cell 4).trans rfl⟩
         clear hO7 hN7 hV7 hB7))
  all_goals
    go_wp2_with fail
    obtain ⟨hX, hGX⟩ := setS HB7.out (.int .i64 p) (.slice A7 32 c7)
    generalize ((w7.setCell ⟨rb, 0, none⟩ (.int .i64 p)).setCell ⟨rb, 1, none⟩ (.slice A7 32 c7)) = wX at hX hGX ⊢
    have g0 := (hX.cell 0).trans rfl
    have g1 := (hX.cell 1).trans rfl
    refine bodyPost_ret (v := .agg #[.int .i64 p, .slice A7 32 c7]) (by simp [results, Try.results57, go_sem, g0, g1]) rfl ?_
    exact ⟨A7, c7, rfl, own_chg HO7.out hGX (fun x hx h => own_apart HO7.out HB7.out (by decide) (by rw [hx, h])), HN7.out.trans hGX (fun i hi h => by have := Hvr.out; omega)⟩

end Go.Proofs.Ytjkpijinpfimiaa
