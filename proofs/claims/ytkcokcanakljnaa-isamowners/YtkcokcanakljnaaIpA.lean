/-
  Products in memory; the document's Numbers and Right.
-/
import Derived.Test.YtkcokcanakljnaaIpN
namespace Go.Proofs.Ytkcokcanakljnaa
open Go.RowKit
def iV (n : Int) : Value := .int .i64 n
def bi (b : Bool) : Int := if b = true then 1 else 0
structure Pd where
  x0 : Int
  x1 : Int
  x2 : Int
  x3 : Int
  x4 : Int
  x5 : Int
  x6 : Int
  x7 : Int
  x8 : Bool
  x9 : Int
  x10 : Int
  x11 : Int
  x12 : Int
  x13 : Bool
abbrev Pd.V (p : Pd) : Value := .agg #[.int .i64 p.x0, .int .i64 p.x1, .int .i64 p.x2, .int .i64 p.x3, .int .i64 p.x4, .int .i64 p.x5, .int .i64 p.x6, .int .i64 p.x7, .bool p.x8, .int .i64 p.x9, .int .i64 p.x10, .int .i64 p.x11, .int .i64 p.x12, .bool p.x13]
/-- its numbers, by their tags from 1 on -/
def Pd.ns (p : Pd) : List Int := [p.x0, p.x1, p.x2, p.x3, p.x4, p.x5, p.x6, p.x7, bi p.x8, p.x9, p.x10, p.x11, p.x12, bi p.x13]
def Pd.of (m : List Int) : Pd := ⟨m.getD 0 0, m.getD 1 0, m.getD 2 0, m.getD 3 0, m.getD 4 0, m.getD 5 0, m.getD 6 0, m.getD 7 0, (m.getD 8 0 == 1), m.getD 9 0, m.getD 10 0, m.getD 11 0, m.getD 12 0, (m.getD 13 0 == 1)⟩
theorem Pd.of_ns (p : Pd) : Pd.of p.ns = p := by
  obtain ⟨x0, x1, x2, x3, x4, x5, x6, x7, x8, x9, x10, x11, x12, x13⟩ := p
  cases x8 <;> cases x13 <;> rfl
theorem Pd.ns_of {m : List Int} (h : RightN m) : (Pd.of m).ns = m := by
  have h8 := h.2 8 (by omega)
  have h13 := h.2 13 (by omega)
  have e8 : bi (m.getD 8 0 == 1) = m.getD 8 0 := by
    have : m.getD 8 0 ≤ 1 := h8.2.1
    rcases (show m.getD 8 0 = 0 ∨ m.getD 8 0 = 1 by omega) with e | e <;> rw [e] <;> rfl
  have e13 : bi (m.getD 13 0 == 1) = m.getD 13 0 := by
    have : m.getD 13 0 ≤ 1 := h13.2.1
    rcases (show m.getD 13 0 = 0 ∨ m.getD 13 0 = 1 by omega) with e | e <;> rw [e] <;> rfl
  unfold Pd.of Pd.ns
  simp only
  rw [e8, e13]
  refine List.ext_getElem (by rw [h.1]; rfl) fun j h1 h2 => ?_
  have hj : j < 14 := by rw [h.1] at h2; exact h2
  have e : m.getD j 0 = m[j] := by simp [List.getD_eq_getElem?_getD, List.getElem?_eq_getElem h2]
  rcases (show j = 0 ∨ j = 1 ∨ j = 2 ∨ j = 3 ∨ j = 4 ∨ j = 5 ∨ j = 6 ∨ j = 7 ∨ j = 8 ∨ j = 9 ∨ j = 10 ∨ j = 11 ∨ j = 12 ∨ j = 13 by omega) with rfl | rfl | rfl | rfl | rfl | rfl | rfl | rfl | rfl | rfl | rfl | rfl | rfl | rfl <;> rw [← e] <;> rfl
theorem Pd.ns_inj {p q : Pd} (h : p.ns = q.ns) : p = q := by rw [← Pd.of_ns p, h, Pd.of_ns q]
def pz : Pd := ⟨0, 0, 0, 0, 0, 0, 0, 0, false, 0, 0, 0, 0, false⟩
set_option maxRecDepth 100000 in
set_option maxHeartbeats 4000000 in
theorem rNumbers_any (p : Pd) (w : World) : Calls Try.prog 40 #[p.V] w fun e w' => ∃ g, e = .returned (.slice (some ⟨g, 0, none⟩) 14 14) ∧ w.heap.size ≤ g ∧ Has w' g 3 (p.ns.map iV).toArray ∧ New w w' := by
  obtain ⟨x0, x1, x2, x3, x4, x5, x6, x7, x8, x9, x10, x11, x12, x13⟩ := p
  go_enter Try.func40, Try.ntmps40
  cases x8 <;> cases x13 <;>
    (go_wp2_with fail
     go_ret
     refine ⟨_, rfl, ?_, ?_, ((Chg.refl _ _).alloc _).alloc _⟩
     · simp
     · exact Has.new_at _ _ _ _ (by simp))
theorem ns_len (p : Pd) : p.ns.length = 14 := rfl
/-- a row of numbers in a block -/
theorem row_at {w : World} {g : Nat} {m : List Int} (h : Has w g 3 (m.map iV).toArray) (i : Nat) (hi : i < m.length) : w.cell? ⟨g, i, none⟩ = some (.int .i64 (m.getD i 0)) := by
  rw [h.cell i]
  simp [List.getD_eq_getElem?_getD, List.getElem?_eq_getElem hi, iV]
theorem mosts_iV : (#[.int .i64 4, .int .i64 4, .int .i64 65535, .int .i64 65535, .int .i64 255, .int .i64 2147483648, .int .i64 65535, .int .i64 255, .int .i64 1, .int .i64 255, .int .i64 65535, .int .i64 65535, .int .i64 65535, .int .i64 1] : Array Value) = (mosts.map iV).toArray := rfl
def okJ (m : List Int) (j : Nat) : Prop := 0 ≤ m.getD j 0 ∧ m.getD j 0 ≤ mosts.getD j 0 ∧ (j < 5 → m.getD j 0 ≠ 0)
set_option maxRecDepth 100000 in
set_option maxHeartbeats 4000000 in
theorem rRight10_any (p : Pd) (w : World) : Calls Try.prog 11 #[p.V] w fun e w' => e = .returned (.bool (rightN p.ns)) ∧ New w w' := by
  have HNm := Lib.hid (rNumbers_any p)
  obtain ⟨m, hm⟩ : ∃ m, m = p.ns := ⟨_, rfl⟩
  have Hm : Hid (m.length = 14) := by rw [hm]; exact ns_len p
  rw [← hm] at HNm ⊢
  clear hm
  obtain ⟨B, hB⟩ : ∃ B, B = rightN m := ⟨_, rfl⟩
  rw [← hB]
  have HB := Lib.hid hB
  clear hB
  obtain ⟨x0, x1, x2, x3, x4, x5, x6, x7, x8, x9, x10, x11, x12, x13⟩ := p
  have HNm : Hid (∀ w, Calls Try.prog 40 #[.agg #[.int .i64 x0, .int .i64 x1, .int .i64 x2, .int .i64 x3, .int .i64 x4, .int .i64 x5, .int .i64 x6, .int .i64 x7, .bool x8, .int .i64 x9, .int .i64 x10, .int .i64 x11, .int .i64 x12, .bool x13]] w fun e w' => ∃ g, e = .returned (.slice (some ⟨g, 0, none⟩) 14 14) ∧ w.heap.size ≤ g ∧ Has w' g 3 (m.map iV).toArray ∧ New w w') := HNm.out
  go_enter Try.func11, Try.ntmps11
  go_wp2_with fail
  with_reducible refine (HNm.out _).mono ?_
  rintro e w1 ⟨g, rfl, hg, hG, hN⟩
  have HG := Lib.hid hG
  have HN := Lib.hid (((Chg.refl (fun _ => False) w).alloc _).then_new hN)
  clear hG hN hg
  go_upto_region 3 with (fail)
  obtain ⟨w2, hw2⟩ : ∃ w2, w2 = w1.alloc (.cells #[.int .i64 4, .int .i64 4, .int .i64 65535, .int .i64 65535, .int .i64 255, .int .i64 2147483648, .int .i64 65535, .int .i64 255, .int .i64 1, .int .i64 255, .int .i64 65535, .int .i64 65535, .int .i64 65535, .int .i64 1] 3) := ⟨_, rfl⟩
  obtain ⟨f, hf⟩ : ∃ f, f = w1.heap.size := ⟨_, rfl⟩
  have HF : Hid (Has w2 f 3 (mosts.map iV).toArray) := by rw [hw2, hf]; exact Has.new w1 3 _
  have HN2 : Hid (New w w2) := by rw [hw2]; exact HN.out.alloc _
  have HG2 : Hid (Has w2 g 3 (m.map iV).toArray) := by rw [hw2]; exact HG.out.alloc _
  rw [← hw2, ← hf]
  clear hw2 hf HG HN HNm
  go_wp2_with fail
  go_loopg [5] 14 (fun gk s5 wr => ∃ i : Nat, i ≤ 14 ∧ gk = 14 - i ∧ s5 = .int .i64 i ∧ (∀ j, j < i → okJ m j) ∧ ∃ q, wr = w2.drewN q)
  case atStart => exact ⟨0, by omega, by omega, rfl, fun j hj => by omega, 0, rfl⟩
  case round =>
    obtain ⟨i, hi, rfl, rfl, hall, hq⟩ := hrel
    have Hall := Lib.hid hall; clear hall
    have HGr : Hid (Has wr g 3 (m.map iV).toArray) := by obtain ⟨q, e⟩ := hq; rw [e]; exact HG2.out.drewN _
    have HFr : Hid (Has wr f 3 (mosts.map iV).toArray) := by obtain ⟨q, e⟩ := hq; rw [e]; exact HF.out.drewN _
    have HNr : Hid (New w wr) := by obtain ⟨q, e⟩ := hq; rw [e]; exact HN2.out.drewN _
    have Hq := Lib.hid hq; clear hq
    by_cases hlt : i < 14
    · have a0 := row_at HGr.out i (by rw [Hm.out]; exact hlt)
      have b0 := row_at HFr.out i hlt
      obtain ⟨v, hv⟩ : ∃ v, m.getD i 0 = v := ⟨_, rfl⟩
      obtain ⟨u, hu⟩ : ∃ u, mosts.getD i 0 = u := ⟨_, rfl⟩
      rw [hv] at a0
      rw [hu] at b0
      have Hv := Lib.hid hv
      have Hu := Lib.hid hu
      clear hv hu
      have Hnot : Hid ((¬ (0 ≤ v ∧ v ≤ u ∧ (i < 5 → v ≠ 0))) → B = false) := fun h => by
        rw [HB.out]
        exact rightN_no fun hr => h (by have := hr.2 i hlt; rw [Hv.out, Hu.out] at this; exact this)
      have g1 : (i : Int) < 14 := by omega
      have t1 : decide ((i : Int) < 14) = true := decide_eq_true g1
      by_cases c1 : v < 0
      · have e1 : decide (v < 0) = true := decide_eq_true c1
        have hBf := Hnot.out (by omega)
        clear c1
        go_upto_region 6 with (fail)
        go_quiet (fail)
        go_wp2_with fail
        go_ret
        exact ⟨by rw [hBf]; rfl, HNr.out.drewN _⟩
      · have e1 : decide (v < 0) = false := decide_eq_false c1
        by_cases c2 : u < v
        · have e2 : decide (u < v) = true := decide_eq_true c2
          have hBf := Hnot.out (by omega)
          clear c1 c2
          go_upto_region 6 with (fail)
          go_quiet (fail)
          go_wp2_with fail
          go_ret
          exact ⟨by rw [hBf]; rfl, HNr.out.drewN _⟩
        · have e2 : decide (u < v) = false := decide_eq_false c2
          by_cases c3 : i < 5
          · have e3 : decide ((i : Int) < 5) = true := decide_eq_true (by omega)
            have e3' : decide (i < 5) = true := decide_eq_true c3
            by_cases c4 : v = 0
            · have e4 : (v == 0) = true := beq_iff_eq.2 c4
              have hBf := Hnot.out (by omega)
              clear c1 c2 c3 c4
              go_upto_region 6 with (fail)
              go_quiet (fail)
              go_wp2_with fail
              go_ret
              exact ⟨by rw [hBf]; rfl, HNr.out.drewN _⟩
            · have e4 : (v == 0) = false := beq_eq_false_iff_ne.2 c4
              have hok : Hid (okJ m i) := by show 0 ≤ _ ∧ _; rw [Hv.out, Hu.out]; omega
              clear c1 c2 c3 c4
              go_upto_region 6 with (fail)
              go_quiet (fail)
              go_wp2_with fail
              go_roundg (14 - (i + 1))
              case measure => omega
              case rel =>
                refine ⟨i + 1, by omega, rfl, by go_num, fun j hj => ?_, ?_⟩
                · rcases Nat.lt_or_ge j i with h | h
                  · exact Hall.out j h
                  · rw [show j = i by omega]; exact hok.out
                · obtain ⟨q, e⟩ := Hq.out
                  exact ⟨q + nq, by rw [e]; simp [World.drewN, Nat.add_assoc]⟩
          · have e3 : decide ((i : Int) < 5) = false := decide_eq_false (by omega)
            have e3' : decide (i < 5) = false := decide_eq_false c3
            have hok : Hid (okJ m i) := by show 0 ≤ _ ∧ _; rw [Hv.out, Hu.out]; omega
            clear c1 c2 c3
            go_upto_region 6 with (fail)
            go_quiet (fail)
            go_wp2_with fail
            go_roundg (14 - (i + 1))
            case measure => omega
            case rel =>
              refine ⟨i + 1, by omega, rfl, by go_num, fun j hj => ?_, ?_⟩
              · rcases Nat.lt_or_ge j i with h | h
                · exact Hall.out j h
                · rw [show j = i by omega]; exact hok.out
              · obtain ⟨q, e⟩ := Hq.out
                exact ⟨q + nq, by rw [e]; simp [World.drewN, Nat.add_assoc]⟩
    · obtain rfl : i = 14 := by omega
      have hB2 : B = true := by rw [HB.out]; exact rightN_yes ⟨Hm.out, Hall.out⟩
      go_wp2_with fail
      go_ret
      exact ⟨by rw [hB2]; rfl, HNr.out⟩
end Go.Proofs.Ytkcokcanakljnaa
