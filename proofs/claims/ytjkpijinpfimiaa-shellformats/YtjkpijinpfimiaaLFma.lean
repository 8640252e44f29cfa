/-
  ShellFormats, walked: Format writes what the document says, as far as power goes.
-/
import Derived.Test.YtjkpijinpfimiaaAw7
namespace Go.Proofs.Ytjkpijinpfimiaa
open Go.RowKit
theorem Rws.monoF {w : World} {F F' : Nat → Prop} {A : Option Addr} {rs : List Wr} (h : Rws w F A rs) (hF : ∀ k, F k → F' k) : Rws w F' A rs := fun j r hr => by
  obtain ⟨a, LA, lc, ha, hb, h0, h1, h2⟩ := h j r hr
  exact ⟨a, LA, lc, ha, hF _ hb, h0, h1, h2.mono hF⟩
/-- the rows that the law lays -/
def FmX (w : World) (id u : Nat) (Z : Array Value) (s : Value) (wx : World) : Prop :=
  ∃ (b f : Nat) (S T : Option Addr) (sc tc : Nat), s = .slice (some ⟨b, 0, none⟩) 3 3 ∧ Has wx b 52 #[.int .i64 1, .slice S 32 sc, .int .i64 2, .slice (some ⟨f, 0, none⟩) 32 32, .int .i64 0, .slice T 32 tc] ∧ Has wx f 5 Z ∧ wx.ownsRow w.heap.size 5 1 (.slice S 32 sc) 32 ((sectorB (listB 1 [])).map bV) ∧ wx.ownsRow w.heap.size 5 1 (.slice T 32 tc) 32 ((sectorB (shellB id u)).map bV) ∧ New w wx
theorem FmX.mk {w wx : World} {id u b f : Nat} {Z : Array Value} {S T : Option Addr} {sc tc : Nat} (h1 : Has wx b 52 #[.int .i64 1, .slice S 32 sc, .int .i64 2, .slice (some ⟨f, 0, none⟩) 32 32, .int .i64 0, .slice T 32 tc]) (h2 : Has wx f 5 Z) (h3 : wx.ownsRow w.heap.size 5 1 (.slice S 32 sc) 32 ((sectorB (listB 1 [])).map bV)) (h4 : wx.ownsRow w.heap.size 5 1 (.slice T 32 tc) 32 ((sectorB (shellB id u)).map bV)) (h5 : New w wx) : FmX w id u Z (.slice (some ⟨b, 0, none⟩) 3 3) wx :=
  ⟨b, f, S, T, sc, tc, rfl, h1, h2, h3, h4, h5⟩
theorem fm_n (pw : Int) : (0 ≤ pw ∧ pw < 3 ∧ wrE pw 3 = 30 ∧ wrN pw 3 = pw.toNat) ∨ (¬ (0 ≤ pw ∧ pw < 3) ∧ wrE pw 3 = 0 ∧ wrN pw 3 = 3) := by
  by_cases h : 0 ≤ pw ∧ pw < 3
  · left
    refine ⟨h.1, h.2, ?_, ?_⟩
    · unfold wrE; rw [if_pos (by omega)]
    · unfold wrN; rw [if_pos (by omega)]
  · right
    refine ⟨h, ?_, ?_⟩
    · unfold wrE; rw [if_neg (by omega)]
    · unfold wrN; rw [if_neg (by omega)]
theorem take_at {Pr : Program} {md : Region.Mode} {ops : Array Oper} {Q : Exit → Act → World → Prop} {i d : Nat} {oi : Oper} {v : Value} {fuel : Nat} {listed : Array Bool} {a : Act} {w : World} (hi : ops[i]? = some oi) (hd : oi.dst = some d)
    (hs : Region.noSelect ops = true) (hf : Region.free md ops listed i = true) (hr : (Region.ready md ops listed).contains i = true)
    (hQ : ∀ c a w, Q (.panic c) (a.put oi.dst v) w → Q (.panic c) a w) (hy : Yields Pr ops oi v a)
    (h : wpAny Pr md ops Q fuel (listed.setIfInBounds i true) { a with tmps := a.tmps.setIfInBounds d v } w) : wpAny Pr md ops Q (fuel + 1) listed a w :=
  wpAny_take hi hs hf hr hQ hy (by rw [hd]; exact h)
set_option maxRecDepth 100000 in
set_option maxHeartbeats 200000000 in
theorem formats_no (A : Option Addr) (n c : Nat) (bs : List Nat) (id u pw : Int) (w : World) (hA : Arr w (· < w.heap.size) A n (fun i => bV (bs.getD i 0))) (hl : bs.length = n) (h256 : ∀ x ∈ bs, x < 256) (_hnil : A = none → n = 0 ∧ c = 0) (_wi : -9223372036854775808 ≤ id ∧ id ≤ 9223372036854775807) (_wu : -9223372036854775808 ≤ u ∧ u ≤ 9223372036854775807) (wp : -9223372036854775808 ≤ pw ∧ pw ≤ 9223372036854775807) (hno : ¬ ((1 ≤ id ∧ id ≤ 65535) ∧ (1 ≤ u ∧ u ≤ 4))) :
    Calls Try.prog 4 #[.agg #[.slice A n c, .int .i64 id, .int .i64 u, .int .i64 pw]] w fun e w' => e = .returned (.bool true) ∧ New w w' := by
  have HNo := Lib.hid hno; clear hno
  have HA := Lib.hid hA; clear hA
  have Hl := Lib.hid hl; clear hl
  have H256 := Lib.hid h256; clear h256
  have Hwp := Lib.hid wp; clear wp
  obtain ⟨P, hP⟩ : ∃ P, P = pad 512 bs := ⟨_, rfl⟩
  have HPl : Hid (P.length = 512) := by rw [hP]; exact pad_len 512 bs
  have HPs : Hid (∀ x ∈ P, x < 256) := by rw [hP]; exact pad_small 512 bs H256.out
  have HIg : Hid (∀ wx, New w wx → Calls Try.prog 12 #[.slice A n c] wx fun e w' => ∃ g, e = .returned (.slice (some ⟨g, 0, none⟩) 512 512) ∧ Row w' g P ∧ New wx w') := fun wx hx => by
    rw [hP]
    exact (image_any A n c _ bs wx (HA.out.new hx (fun _ h => h)) (fun k hk => Nat.lt_of_lt_of_le hk hx.size) Hl.out).mono (by rintro e w' ⟨g, rfl, _, hR, hN⟩; exact ⟨g, rfl, hR, hN⟩)
  have HLd : Hid (∀ wx, New w wx → Calls Try.prog 9 #[.slice A n c] wx fun e w' => ∃ g, e = .returned (.pointer (some ⟨g, 0, none⟩)) ∧ wx.heap.size ≤ g ∧ Cd w' g P (-1) ∧ New wx w') := fun wx hx => by
    rw [hP]
    exact (loaded_any A n c _ bs wx (HA.out.new hx (fun _ h => h)) (fun k hk => Nat.lt_of_lt_of_le hk hx.size) Hl.out H256.out).mono (by rintro e w' ⟨g, rfl, hg, hR, hN⟩; exact ⟨g, rfl, hg.out, hR, hN⟩)
  clear hP HA Hl H256
  obtain ⟨lb, hlb⟩ : ∃ lb, lb = w.heap.size := ⟨_, rfl⟩
  go_enter Try.func4, Try.ntmps4
  go_upto_region 1 with (fail)
  obtain ⟨w1, hw1⟩ : ∃ w1, w1 = w.alloc (.cells #[.slice A n c, .int .i64 id, .int .i64 u, .int .i64 pw] 47) := ⟨_, rfl⟩
  have HB1 : Hid (Has w1 lb 47 #[.slice A n c, .int .i64 id, .int .i64 u, .int .i64 pw]) := by rw [hw1, hlb]; exact Has.new w 47 _
  have HN1 : Hid (New w w1) := by rw [hw1]; exact (Chg.refl _ _).alloc _
  rw [← hw1, ← hlb]
  clear hw1 hlb
  have l0 : w1.cell? ⟨lb, 0, none⟩ = some (.slice A n c) := (HB1.out.cell 0).trans rfl
  have l1 : w1.cell? ⟨lb, 1, none⟩ = some (.int .i64 id) := (HB1.out.cell 1).trans rfl
  have l2 : w1.cell? ⟨lb, 2, none⟩ = some (.int .i64 u) := (HB1.out.cell 2).trans rfl
  have l3 : w1.cell? ⟨lb, 3, none⟩ = some (.int .i64 pw) := (HB1.out.cell 3).trans rfl
  go_quiet (fail)
  obtain ⟨w2, hw2⟩ : ∃ w2, w2 = w1.drewN nq := ⟨_, rfl⟩
  have HN2 : Hid (New w w2) := by rw [hw2]; exact HN1.out.drewN _
  rw [← hw2]
  clear hw2 l0 l1 l2 l3 HB1
  go_wp2_with fail
  with_reducible refine (awake_any w2).mono ?_
  rintro e w3 ⟨rfl, hN3⟩
  have HN3 := Lib.hid (HN2.out.then_new hN3); clear hN3
  go_wp2_with fail
  with_reducible refine (HLd.out w3 HN3.out).mono ?_
  rintro e w4 ⟨g, rfl, hg4, hC4, hN4⟩
  have Hgw : Hid (w.heap.size ≤ g) := Nat.le_trans HN3.out.size hg4
  have HC4 := Lib.hid hC4
  have HN4 := Lib.hid (HN3.out.then_new hN4)
  clear hC4 hN4 hg4
  go_wp2_with fail
  with_reducible refine (Power_any g P (-1) pw w4 HC4.out Hwp.out).mono ?_
  rintro e w5 ⟨rfl, hC5, hG5⟩
  have HC5 := Lib.hid hC5
  have HN5 : Hid (New w w5) := HN4.out.trans hG5 (fun i hi h => by have := Hgw.out; omega)
  clear hC5 hG5
  by_cases hval : (1 ≤ id ∧ id ≤ 65535) ∧ (1 ≤ u ∧ u ≤ 4)
  case neg =>
    go_wp2_with fail
    with_reducible refine (Format_no g id u w5 hval).mono ?_
    rintro e w6 ⟨rfl, hw6⟩
    obtain rfl : w5 = w6 := hw6.symm
    clear hw6
    have HIm : Hid (∀ wx, New w5 wx → Calls Try.prog 20 #[.pointer (some ⟨g, 0, none⟩)] wx fun e w' => ∃ A c, e = .returned (.slice A 512 c) ∧ w'.ownsRow wx.heap.size 5 1 (.slice A 512 c) 512 (P.map bV) ∧ New wx w') := fun wx hx => Image_any g P pw wx (HC5.out.new hx)
    go_upto_region 9 with (fail)
    go_cut [47] (fun s47 wx => s47 = .bool true ∧ w5 = wx)
    case first =>
      by_cases a1 : id < 1
      · have t1 : decide (id < 1) = true := decide_eq_true a1
        clear hval
        go_wp2_with fail
        go_meet
        case rel => exact ⟨rfl, rfl⟩
      · have t1 : decide (id < 1) = false := decide_eq_false a1
        by_cases a2 : 65535 < id
        · have t2 : decide (65535 < id) = true := decide_eq_true a2
          clear hval
          go_wp2_with fail
          go_meet
          case rel => exact ⟨rfl, rfl⟩
        · have t2 : decide (65535 < id) = false := decide_eq_false a2
          by_cases a3 : u < 1
          · have t3 : decide (u < 1) = true := decide_eq_true a3
            clear hval
            go_wp2_with fail
            go_meet
            case rel => exact ⟨rfl, rfl⟩
          · have t3 : decide (u < 1) = false := decide_eq_false a3
            have t4 : decide (4 < u) = true := decide_eq_true (by omega)
            clear hval
            go_wp2_with fail
            go_meet
            case rel => exact ⟨rfl, rfl⟩
    case rest =>
    obtain ⟨rfl, rfl⟩ := hcut
    clear hval
    go_upto_region 10 with (fail)
    go_region_held_law (fun _ => True)
      (trivial)
      (first
        | (go_at_call 20; (with_reducible refine (HIm.out _ (by ((with_reducible repeat (first | exact Chg.refl _ _ | refine Chg.drew ?_ | refine Chg.alloc ?_ _ | refine Chg.then_new ?_ HN_D.out | refine Chg.then_new ?_ HN_I.out | refine Chg.then_new ?_ HN_G.out)); fail_if_success (have := True.intro)))).mono ?_); rintro e wG ⟨AG, cG, rfl, hOG, hNG⟩
           have hsG := own_str hOG
           have hsJ := (HRI.out.new hNG).string HPl.out HPs.out (c := 512)
           have HOG := Lib.hid hOG
           have HN_G := Lib.hid hNG
           clear hOG hNG)
        | (go_at_call 20; (with_reducible refine (HIm.out _ (by ((with_reducible repeat (first | exact Chg.refl _ _ | refine Chg.drew ?_ | refine Chg.alloc ?_ _ | refine Chg.then_new ?_ HN_D.out | refine Chg.then_new ?_ HN_I.out | refine Chg.then_new ?_ HN_G.out)); fail_if_success (have := True.intro)))).mono ?_); rintro e wG ⟨AG, cG, rfl, hOG, hNG⟩
           have hsG := own_str hOG
           have HOG := Lib.hid hOG
           have HN_G := Lib.hid hNG
           clear hOG hNG)
        | (go_at_call 12; (with_reducible refine (HIg.out _ (HN5.out.then_new (by ((with_reducible repeat (first | exact Chg.refl _ _ | refine Chg.drew ?_ | refine Chg.alloc ?_ _ | refine Chg.then_new ?_ HN_D.out | refine Chg.then_new ?_ HN_I.out | refine Chg.then_new ?_ HN_G.out)); fail_if_success (have := True.intro))))).mono ?_); rintro e wI ⟨bI, rfl, hRI, hNI⟩
           have hsI := hRI.string HPl.out HPs.out (c := 512)
           have hsK := own_str (own_new HOG.out hNI)
           have HRI := Lib.hid hRI
           have HN_I := Lib.hid hNI
           clear hRI hNI)
        | (go_at_call 12; (with_reducible refine (HIg.out _ (HN5.out.then_new (by ((with_reducible repeat (first | exact Chg.refl _ _ | refine Chg.drew ?_ | refine Chg.alloc ?_ _ | refine Chg.then_new ?_ HN_D.out | refine Chg.then_new ?_ HN_I.out | refine Chg.then_new ?_ HN_G.out)); fail_if_success (have := True.intro))))).mono ?_); rintro e wI ⟨bI, rfl, hRI, hNI⟩
           have hsI := hRI.string HPl.out HPs.out (c := 512)
           have HRI := Lib.hid hRI
           have HN_I := Lib.hid hNI
           clear hRI hNI))
    all_goals
      go_wp2_with fail
      go_ret
      exact ⟨by simp, HN5.out.then_new (by ((with_reducible repeat (first | exact Chg.refl _ _ | refine Chg.drew ?_ | refine Chg.alloc ?_ _ | refine Chg.then_new ?_ HN_D.out | refine Chg.then_new ?_ HN_I.out | refine Chg.then_new ?_ HN_G.out)); fail_if_success (have := True.intro)))⟩
  exact absurd hval HNo.out
end Go.Proofs.Ytjkpijinpfimiaa
