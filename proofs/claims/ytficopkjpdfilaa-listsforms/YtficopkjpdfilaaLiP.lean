/-
  Package lists: takeItems.
-/
import Derived.Test.YtficopkjpdfilaaLiL
namespace Go.Proofs.Ytficopkjpdfilaa
open Go.RowKit
theorem step_push_item {w1 : World} {ops : Array Oper} {o : Oper} {a : Act} {K : Act → World → Prop} {Q : Exit → Act → World → Prop} {E : Prop} (hw : Region.wanted o (yielded ops a.tmps) = true) (s x : Operand)
    (ho : o.op = .call { callee := .builtin .append, args := #[s, x], argTypes := #[26, 26] }) (base : Nat) (v : Value) (n : Nat) (xs : List It) (hs : a.eval s = v) (hown : w1.ownsRow base 44 5 v n (ics xs)) (y : It) (g : Nat) (hx : a.eval x = .slice (some ⟨g, 0, none⟩) 1 1)
    (hg : Has w1 g 44 y.C) (hb : base ≤ w1.heap.size) (hn : n ≤ 3518437208882)
    (h : ∀ A' c' w', w'.ownsRow base 44 5 (.slice A' (n + 1) c') (n + 1) (ics (xs ++ [y])) → Chg (fun k => v.ownBlock = some k) w1 w' → K (a.put o.dst (.slice A' (n + 1) c')) w') :
    if Region.wanted o (yielded ops a.tmps) = true then Oper.wp Try.prog o a w1 K Q else E := by
  rw [if_pos hw]
  obtain ⟨i0, hi, hz0, hz1, hz2⟩ := info_parts Try.infoI
  refine wp_append_src s x 26 ho base 44 i0 (.agg #[.int .i64 0, .int .i64 0, .int .i64 0, .int .i64 0, .int .i64 0]) 5 40 Try.underlying26 hi hz0 hz1 hz2 rfl (by decide) v n _ hs hown _ 1 1 (ics [y]) hx (by intro h; cases h) (by rw [ics_len]; rfl) (Its.one hg).cells (ics_cells _) (by simp only [maxLen]; omega) (by omega) hb ?_
  intro A' c' w' h1 h2 _
  rw [← ics_app] at h1
  exact h A' c' w' h1 h2
theorem jV_cells (bs : List Nat) (j : Nat) (h : j + 20 ≤ bs.length) (h256 : ∀ x ∈ bs, x < 256) : (List.range 5).map (nums bs (8 * j) (fun _ => 32)) = [.int .i64 (num4 bs j : Int), .int .i64 (num4 bs (j + 4) : Int), .int .i64 (num4 bs (j + 8) : Int), .int .i64 (num4 bs (j + 12) : Int), .int .i64 (num4 bs (j + 16) : Int)] := by
  have e : ∀ i, i < 5 → nums bs (8 * j) (fun _ => 32) i = .int .i64 (num4 bs (j + 4 * i) : Int) := fun i hi => by
    have hs : sumN (fun _ => 32) i = 8 * (4 * i) := by
      rcases (show i = 0 ∨ i = 1 ∨ i = 2 ∨ i = 3 ∨ i = 4 by omega) with rfl | rfl | rfl | rfl | rfl <;> rfl
    unfold nums
    rw [hs, ← Nat.mul_add, numAt_four bs _ (by omega) h256]
    rfl
  simp only [List.range, List.range.loop, List.map_cons, List.map_nil]
  rw [e 0 (by omega), e 1 (by omega), e 2 (by omega), e 3 (by omega), e 4 (by omega)]
  rfl
theorem sum5 : sumN (fun _ => 32) 5 = 160 := rfl
theorem step5 (j k : Nat) : 8 * (j + 20 * k) + sumN (fun _ => 32) 5 = 8 * (j + 20 * (k + 1)) := by rw [sum5]; omega
set_option maxRecDepth 100000 in
set_option maxHeartbeats 8000000 in
theorem takeItems_any (b : Nat) (bs : List Nat) (j n : Nat) (w : World) (hR : Rd w b bs (8 * j) 0) (hj : j + 20 * n ≤ bs.length) (hl : bs.length ≤ 140737488351232) (h256 : ∀ x ∈ bs, x < 256) (hn : n ≤ 64) :
    Calls Try.prog 52 #[.pointer (some ⟨b, 0, none⟩), .int .i64 (n : Int)] w fun e w' => ∃ A c, e = .returned (.slice A n c) ∧ w'.ownsRow w.heap.size 44 5 (.slice A n c) n (ics (getIts bs j n)) ∧ Rd w' b bs (8 * (j + 20 * n)) 0 ∧ Chg (· = b) w w' := by
  have hbw : b < w.heap.size := by obtain ⟨cs, hcs⟩ := hR.has; exact hcs.lt
  have HR := Lib.hid hR; clear hR
  have H256 := Lib.hid h256; clear h256
  have Hbw := Lib.hid hbw; clear hbw
  go_enter Try.func52, Try.ntmps52
  go_wp2_with fail
  go_loopg [8, 5] n (fun gk i s5 wr => ∃ (k : Nat), k ≤ n ∧ gk = n - k ∧ i = .int .i64 k ∧ wr.ownsRow w.heap.size 44 5 s5 k (ics (getIts bs j k)) ∧ Rd wr b bs (8 * (j + 20 * k)) 0 ∧ Chg (· = b) w wr)
  case atStart => exact ⟨0, by omega, by omega, rfl, nil_own _ _, HR.out, Chg.refl _ _⟩
  case round =>
    obtain ⟨k, hk, rfl, rfl, hO, hR, hC⟩ := hrel
    have HO := Lib.hid hO; clear hO
    have HR1 := Lib.hid hR; clear hR
    have HC1 := Lib.hid hC; clear hC
    obtain ⟨A5, c5, hu5, hu6⟩ := own_form HO.out
    subst hu5
    clear hu6
    by_cases hlt : k < n
    · have HT := Lib.hid (take_ok b bs (8 * (j + 20 * k)) (wr.alloc (.cells #[.int .i64 32, .int .i64 32, .int .i64 32, .int .i64 32, .int .i64 32] 3)) (HR1.out.new ((Chg.refl _ _).alloc _)) hl H256.out (some ⟨wr.heap.size, 0, none⟩) 5 5 (· = wr.heap.size) (fun _ => 32) (by omega) (fun i hi => by
        obtain ⟨a, ha, hb, hc⟩ := Arr.of_has (Has.new wr 3 #[.int .i64 32, .int .i64 32, .int .i64 32, .int .i64 32, .int .i64 32]) (n := 5) (by simp) i hi
        refine ⟨a, ha, hb, hc.trans ?_⟩
        rcases (show i = 0 ∨ i = 1 ∨ i = 2 ∨ i = 3 ∨ i = 4 by omega) with rfl | rfl | rfl | rfl | rfl <;> rfl) (fun k hk => by subst hk; have := HC1.out.size; have := Hbw.out; exact ⟨by simp, by omega⟩) (fun i _ => ⟨by omega, by omega⟩) (by rw [sum5]; omega))
      rw [jV_cells bs _ (by omega) H256.out, step5] at HT
      have Hg : Hid (getIts bs j (k + 1) = getIts bs j k ++ [getIt bs (j + 20 * k)]) := rfl
      obtain ⟨y, hy⟩ : ∃ y, y = getIt bs (j + 20 * k) := ⟨_, rfl⟩
      rw [← hy] at Hg
      obtain ⟨y0, y1, y2, y3, y4⟩ := y
      simp only [getIt, It.mk.injEq] at hy
      rw [← hy.1, ← hy.2.1, ← hy.2.2.1, ← hy.2.2.2.1, ← hy.2.2.2.2] at HT
      clear hy
      go_wp2_with fail
      with_reducible refine HT.out.mono ?_
      rintro e w2 ⟨A2, c2, rfl, hO2, hR2, hC2⟩
      obtain ⟨g2, hg2, _⟩ := own_some hO2 (show 0 < 5 by omega)
      subst hg2
      have HR2 := Lib.hid hR2; clear hR2
      have HC2 : Hid (Chg (fun x => x = b) w w2) := ((HC1.out.alloc _)).trans hC2 (fun i _ hi => hi)
      have HO2 := Lib.hid (own_chg (own_new HO.out ((Chg.refl _ _).alloc _)) hC2 (fun k hk e => by have h1 := own_ge HO.out k hk; have h2 := Hbw.out; rw [e] at h1; omega))
      have HK : Hid (∀ wy, Chg (fun q => Value.ownBlock (.slice A5 k c5) = some q) w2 wy → wy.cell? ⟨g2, 0, none⟩ = some (.int .i64 y0) ∧ wy.cell? ⟨g2, 1, none⟩ = some (.int .i64 y1) ∧ wy.cell? ⟨g2, 2, none⟩ = some (.int .i64 y2) ∧ wy.cell? ⟨g2, 3, none⟩ = some (.int .i64 y3) ∧ wy.cell? ⟨g2, 4, none⟩ = some (.int .i64 y4)) := fun wy hy => by
        obtain ⟨g3, hg3, hcell⟩ := own_some (own_chg hO2 hy (fun q hq e => own_own_apart hO2 HO2.out (by decide) q hq e)) (show 0 < 5 by omega)
        simp only [Option.some.injEq, Addr.mk.injEq, and_true] at hg3
        subst hg3
        exact ⟨hcell 0 (by omega), hcell 1 (by omega), hcell 2 (by omega), hcell 3 (by omega), hcell 4 (by omega)⟩
      clear hC2 hO2
      have hbs2 := HC2.out.size
      go_wp2_with fail
      go_region_held_law (fun wx => wx.cell? ⟨g2, 0, none⟩ = some (.int .i64 y0) ∧ wx.cell? ⟨g2, 1, none⟩ = some (.int .i64 y1) ∧ wx.cell? ⟨g2, 2, none⟩ = some (.int .i64 y2) ∧ wx.cell? ⟨g2, 3, none⟩ = some (.int .i64 y3) ∧ wx.cell? ⟨g2, 4, none⟩ = some (.int .i64 y4))
        (with_reducible refine HK.out _ ?_; with_reducible repeat (first | exact HC6.out | exact Chg.refl _ _ | refine Chg.alloc ?_ _ | refine Chg.drew ?_))
        (first
        | (refine step_push_item (by kernel_rfl) (.tmp 13) (.tmp 30) rfl w.heap.size (.slice A5 k c5) k _ rfl (own_new HO2.out (by ((with_reducible repeat (first | exact Chg.refl _ _ | refine Chg.alloc ?_ _ | refine Chg.drew ?_)); fail_if_success (have := True.intro)))) ⟨y0, y1, y2, y3, y4⟩ w2.heap.size rfl (by ((with_reducible repeat (first | exact Has.new_at _ _ _ _ rfl | refine Has.drew ?_)); fail_if_success (have := True.intro))) (by simp; omega) (by omega) ?_
           intro A6 c6 w6 hO6 hC6
           have HO6 := Lib.hid hO6
           have HC6 : Hid (Chg (fun q => Value.ownBlock (.slice A5 k c5) = some q) w2 w6) := Chg.new_then (by ((with_reducible repeat (first | exact Chg.refl _ _ | refine Chg.alloc ?_ _ | refine Chg.drew ?_)); fail_if_success (have := True.intro))) hC6
           clear hO6 hC6))
      go_wp2_with fail
      go_roundg (n - (k + 1))
      case measure => omega
      case rel => exact ⟨k + 1, by omega, rfl, by go_num, by rw [Hg.out]; exact HO6.out, HR2.out.beside HO2.out (by decide) (by decide) HC6.out, HC2.out.trans HC6.out (fun i hi hk => by have := own_ge HO2.out i hk; omega)⟩
    · obtain rfl : k = n := by omega
      go_wp2_with fail
      go_ret
      exact ⟨_, _, rfl, HO.out, HR1.out, HC1.out⟩
end Go.Proofs.Ytficopkjpdfilaa
