/-
  What the document's own List comes to.
-/
import Derived.Test.YtjkpijinpfimiaaRefX
namespace Go.Proofs.Ytjkpijinpfimiaa
open Go.RowKit
theorem listB_step (q : Nat) (l : List En) (k : Nat) (e : En) (h : l[k]? = some e) (n : Nat) : [q / 256, q % 256, n] ++ (l.take (k + 1)).flatMap enc = ([q / 256, q % 256, n] ++ (l.take k).flatMap enc) ++ enc e := by
  rw [List.take_add_one, h, Option.toList_some, List.flatMap_append, List.append_assoc]
  simp
theorem arr_five {w : World} {g x0 x1 x2 x3 x4 : Nat} (h : Has w g 5 #[.int .u8 (x0 : Int), .int .u8 (x1 : Int), .int .u8 (x2 : Int), .int .u8 (x3 : Int), .int .u8 (x4 : Int)]) : Arr w (· = g) (some ⟨g, 0, none⟩) 5 (fun i => bV ([x0, x1, x2, x3, x4].getD i 0)) := Row.arr (bs := [x0, x1, x2, x3, x4]) h rfl
theorem small_wrap (x : Nat) (h : x < 256) : IntKind.u8.wrap (x : Int) = (x : Int) := by rw [IntKind.wrap_u8]; omega
set_option maxRecDepth 100000 in
set_option maxHeartbeats 4000000 in
theorem rList_any (q : Nat) (A : Option Addr) (n c : Nat) (F : Nat → Prop) (l : List En) (w : World) (hE : Ents w F A l) (hF : ∀ k, F k → k < w.heap.size) (hl : l.length = n) (hn : n ≤ 5) (hq : q ≤ 65535) (hG : ∀ e ∈ l, e.good) :
    Calls Try.prog 24 #[.int .i64 q, .slice A n c] w fun e w' => ∃ A' c', e = .returned (.slice A' (3 + 5 * n) c') ∧ w'.ownsRow w.heap.size 5 1 (.slice A' (3 + 5 * n) c') (3 + 5 * n) ((listB q l).map bV) ∧ New w w' := by
  have HE := Lib.hid hE; clear hE
  have Hl := Lib.hid hl; clear hl
  have HF := Lib.hid hF; clear hF
  have HG := Lib.hid hG; clear hG
  obtain ⟨qh, hqh⟩ : ∃ x, x = q / 256 := ⟨_, rfl⟩
  obtain ⟨ql, hql⟩ : ∃ x, x = q % 256 := ⟨_, rfl⟩
  have HL : Hid (listB q l = [qh, ql, n] ++ l.flatMap enc) := by show _ = _; rw [hqh, hql, ← Hl.out]; rfl
  have HS : Hid (∀ k e, l[k]? = some e → [qh, ql, n] ++ (l.take (k + 1)).flatMap enc = ([qh, ql, n] ++ (l.take k).flatMap enc) ++ enc e) := by rw [hqh, hql]; exact fun k e h => listB_step q l k e h n
  have f0 : Int.tdiv (q : Int) 256 = (qh : Int) := by rw [Int.tdiv_eq_ediv_of_nonneg (by omega)]; omega
  have f0' : (q : Int) / 256 = (qh : Int) := by omega
  have hh : qh < 256 := by omega
  have f1 := small_wrap qh hh
  have f2 : IntKind.u8.wrap (q : Int) = (ql : Int) := by rw [IntKind.wrap_u8]; omega
  have f5 := small_wrap n (by omega)
  have f3 : wrap64 (qh : Int) = (qh : Int) := w64 _ (Int.natCast_nonneg _) (by clear f0 f0' f1 f2 f5 hqh hql; omega)
  have f4 : (qh : Int) % 256 = (qh : Int) := by clear f0 f0' f1 f2 f3 f5 hqh hql; omega
  clear hqh hql
  go_enter Try.func24, Try.ntmps24
  go_wp2_with fail
  obtain ⟨w1, hw1⟩ : ∃ w1, w1 = w.alloc (.cells #[.int .u8 (qh : Int), .int .u8 (ql : Int), .int .u8 (n : Int)] 5) := ⟨_, rfl⟩
  have HR : Hid (Row w1 w.heap.size [qh, ql, n]) := by rw [hw1]; exact Has.new w 5 _
  have HN1 : Hid (New w w1) := by rw [hw1]; exact (Chg.refl _ _).alloc _
  rw [← hw1]
  clear hw1 f0 f0' f1 f2 f3 f4 f5
  obtain ⟨i0, hi, hz0, hz1, hz2⟩ := info_parts Try.info5
  go_loopg [5, 6] n (fun gk v x wr => ∃ (k : Nat) (B : Option Addr) (m cb : Nat), k ≤ n ∧ gk = n - k ∧ v = .slice B m cb ∧ m = 3 + 5 * k ∧ x = .int .i64 k ∧ wr.ownsRow w.heap.size 5 1 (.slice B m cb) m (([qh, ql, n] ++ (l.take k).flatMap enc).map bV) ∧ New w wr)
  case atStart => exact ⟨0, _, 3, 3, by omega, by omega, rfl, rfl, rfl, by simpa using HR.out.own (base := w.heap.size) (n := 3) rfl (Nat.le_refl _) (by simp only [maxLen]; omega), HN1.out⟩
  case round =>
    clear HR HN1
    obtain ⟨k, B, m, cb, hk, rfl, rfl, hm, rfl, hO, hN⟩ := hrel
    by_cases hlt : k < n
    · obtain ⟨e, he⟩ : ∃ e, l[k]? = some e := ⟨_, List.getElem?_eq_getElem (by rw [Hl.out]; exact hlt)⟩
      obtain ⟨⟨g1, g2, g3, g4, g5, g6⟩, g7, g8⟩ := HG.out e (List.mem_of_getElem? he)
      have Hst := Lib.hid (HS.out k e he)
      have hEk := HE.out k e he
      obtain ⟨x0, hx0⟩ : ∃ x : Nat, e.k = (x : Int) := ⟨e.k.toNat, by omega⟩
      obtain ⟨x1, hx1⟩ : ∃ x : Nat, e.o = (x : Int) := ⟨e.o.toNat, by omega⟩
      obtain ⟨x2, hx2⟩ : ∃ x : Nat, e.i = (x : Int) := ⟨e.i.toNat, by omega⟩
      obtain ⟨x3, hx3⟩ : ∃ x : Nat, e.s = (x : Int) := ⟨e.s.toNat, by omega⟩
      obtain ⟨ih, hih⟩ : ∃ x, x = x2 / 256 := ⟨_, rfl⟩
      obtain ⟨il, hil⟩ : ∃ x, x = x2 % 256 := ⟨_, rfl⟩
      have He : Hid (enc e = [x0, x1, ih, il, x3]) := by
        show _ = _
        unfold enc
        rw [hx0, hx1, hx2, hx3, hih, hil]
        rfl
      have l0 : x0 < 256 := by omega
      have l1 : x1 < 256 := by omega
      have l3 : x3 < 256 := by omega
      have lh : ih < 256 := by omega
      have HK : Hid (∀ wx, New wr wx → EnAt wx F A k e) := fun wx hx => hEk.chg (hN.then_new hx) (fun q hq => ⟨HF.out q hq, fun f => f⟩)
      obtain ⟨a, rfl, hab, _, _, _, _⟩ := hEk
      have HK2 : Hid (∀ wx, New wr wx → wx.cell? (a.add (k * 4)) = some (.int .i64 (x0 : Int)) ∧ wx.cell? ⟨(a.add (k * 4)).block, (a.add (k * 4)).off + 1, none⟩ = some (.int .i64 (x1 : Int)) ∧ wx.cell? ⟨(a.add (k * 4)).block, (a.add (k * 4)).off + 2, none⟩ = some (.int .i64 (x2 : Int)) ∧ wx.cell? ⟨(a.add (k * 4)).block, (a.add (k * 4)).off + 3, none⟩ = some (.int .i64 (x3 : Int))) := by
        intro wx hx
        obtain ⟨a', ha, _, h0, h1, h2, h3⟩ := HK.out wx hx
        cases ha
        rw [hx0] at h0
        rw [hx1] at h1
        rw [hx2] at h2
        rw [hx3] at h3
        exact ⟨h0, h1, h2, h3⟩
      have HK4 : Hid (∀ wx, New w wx → wx.cell? (a.add (k * 4)) = some (.int .i64 (x0 : Int)) ∧ wx.cell? ⟨(a.add (k * 4)).block, (a.add (k * 4)).off + 1, none⟩ = some (.int .i64 (x1 : Int)) ∧ wx.cell? ⟨(a.add (k * 4)).block, (a.add (k * 4)).off + 2, none⟩ = some (.int .i64 (x2 : Int)) ∧ wx.cell? ⟨(a.add (k * 4)).block, (a.add (k * 4)).off + 3, none⟩ = some (.int .i64 (x3 : Int))) := by
        intro wx hx
        obtain ⟨a', ha, _, h0, h1, h2, h3⟩ := (HE.out.new hx HF.out) k e he
        cases ha
        rw [hx0] at h0
        rw [hx1] at h1
        rw [hx2] at h2
        rw [hx3] at h3
        exact ⟨h0, h1, h2, h3⟩
      have f1 := small_wrap x0 l0
      have f2 := small_wrap x1 l1
      have f3 := small_wrap x3 l3
      have f4 := small_wrap ih lh
      have f5 : IntKind.u8.wrap (x2 : Int) = (il : Int) := by rw [IntKind.wrap_u8]; omega
      have f6 : Int.tdiv (x2 : Int) 256 = (ih : Int) := by rw [Int.tdiv_eq_ediv_of_nonneg (by omega)]; omega
      have f6' : (x2 : Int) / 256 = (ih : Int) := by omega
      have f7 : (ih : Int) % 256 = (ih : Int) := by clear f1 f2 f3 f4 f5 f6 f6' hih hil; omega
      have f8 : wrap64 (ih : Int) = (ih : Int) := w64 _ (Int.natCast_nonneg _) (by clear f1 f2 f3 f4 f5 f6 f6' f7 hih hil; omega)
      have f9 : IntKind.i64.wrap (ih : Int) = (ih : Int) := IntWalk.i64_in _ (by clear f1 f2 f3 f4 f5 f6 f6' f7 f8 hih hil; omega)
      have HO := Lib.hid hO
      have HN := Lib.hid hN
      have hm5 : m ≤ 28 := by omega
      have Hm := Lib.hid hm
      clear hO hN he hx0 hx1 hx2 hx3 hih hil g1 g2 g3 g4 g5 g6 g7 g8 hm HK
      go_upto_region 5 with (fail)
      go_region_held_law (fun wx => wx.cell? (a.add (k * 4)) = some (.int .i64 (x0 : Int)) ∧ wx.cell? ⟨(a.add (k * 4)).block, (a.add (k * 4)).off + 1, none⟩ = some (.int .i64 (x1 : Int)) ∧ wx.cell? ⟨(a.add (k * 4)).block, (a.add (k * 4)).off + 2, none⟩ = some (.int .i64 (x2 : Int)) ∧ wx.cell? ⟨(a.add (k * 4)).block, (a.add (k * 4)).off + 3, none⟩ = some (.int .i64 (x3 : Int)))
        (first | (exact HK3.out) | (with_reducible refine HK2.out _ ?_; with_reducible repeat (first | exact Chg.refl _ _ | refine Chg.alloc ?_ _ | refine Chg.drew ?_)))
        (first
          | (refine step_app (wX := w) (by kernel_rfl) (HN.out.then_new (by ((with_reducible repeat (first | exact Chg.refl _ _ | refine Chg.alloc ?_ _ | refine Chg.drew ?_)); fail_if_success (have := True.intro)))) (.tmp 22) (.tmp 54) rfl (.slice B m cb) m ([qh, ql, n] ++ (l.take k).flatMap enc) rfl (own_new HO.out (by ((with_reducible repeat (first | exact Chg.refl _ _ | refine Chg.alloc ?_ _ | refine Chg.drew ?_)); fail_if_success (have := True.intro)))) (some ⟨wr.heap.size, 0, none⟩) 5 5 [x0, x1, ih, il, x3] (· = wr.heap.size) rfl (arr_five (by ((with_reducible repeat (first | exact Has.new_at _ _ _ _ rfl | refine Has.drew ?_ | refine Has.alloc ?_ _)); fail_if_success (have := True.intro)))) rfl (by intro h; cases h) (by omega) ?_
             intro A3 c3 w3 hO3 hN3 hC3
             have HO3 := Lib.hid hO3
             have HN3 := Lib.hid hN3
             have HK3 := Lib.hid (HK4.out w3 hN3)
             clear hO3 hC3 hN3))
      clear f1 f2 f3 f4 f5 f6 f6' f7 f8 f9
      go_wp2_with fail
      go_roundg (n - (k + 1))
      case measure => omega
      case rel =>
        refine ⟨k + 1, A3, m + 5, c3, by omega, rfl, rfl, by rw [Hm.out]; omega, by go_num, ?_, HN3.out⟩
        rw [Hst.out, He.out]
        exact HO3.out
    · obtain rfl : k = n := by omega
      have HO : Hid (wr.ownsRow w.heap.size 5 1 (.slice B m cb) m ((listB q l).map bV)) := by
        have h := hO
        rw [List.take_of_length_le (by rw [Hl.out]; omega), ← HL.out] at h
        exact h
      have Hm := Lib.hid hm
      have HN := Lib.hid hN
      clear hO hm hN
      go_wp2_with fail
      go_ret
      have hm := Hm.out
      subst hm
      exact ⟨B, cb, rfl, HO.out, HN.out⟩
end Go.Proofs.Ytjkpijinpfimiaa
