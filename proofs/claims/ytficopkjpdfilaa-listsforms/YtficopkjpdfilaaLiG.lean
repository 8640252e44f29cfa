/-
  Package lists: apply, and what both lists make of it.
-/
import Derived.Test.YtficopkjpdfilaaLiF
namespace Go.Proofs.Ytficopkjpdfilaa
open Go.RowKit
theorem app_wrong {act : Bool} {xs : List It} : (xs.any fun x => !rightI act x) = !(xs.all (rightI act)) := by
  induction xs with
  | nil => rfl
  | cons x xs ih => simp only [List.any_cons, List.all_cons, ih]; cases rightI act x <;> simp
theorem appE_old {act : Bool} {ver : Int} {L : List It} {tv : Int} {add off : List It} (h : tv ≤ ver) : appE act ver L tv add off = 31 := by unfold appE; rw [if_pos h]
theorem appE_state {act : Bool} {ver : Int} {L : List It} {tv : Int} {add off : List It} (h : ¬ tv ≤ ver) (h1 : ¬ tv = ver + 1) : appE act ver L tv add off = 28 := by unfold appE; rw [if_neg h, if_pos h1]
theorem appE_at {act : Bool} {ver : Int} {L : List It} {tv : Int} {add off : List It} (h1 : tv = ver + 1) : appE act ver L tv add off = if !(add.all (rightI act)) || !(off.all (rightI act)) then 2 else if 64 < (nextI L add off).length then 20 else 0 := by unfold appE; rw [if_neg (by omega), if_neg (by omega)]
theorem set2 {w : World} {g : Nat} {t : TypeId} {y0 y1 : Value} (h : Has w g t #[y0, y1]) (x0 x1 : Value) :
    Has ((w.setCell ⟨g, 0, none⟩ x0).setCell ⟨g, 1, none⟩ x1) g t #[x0, x1] ∧ Chg (· = g) w ((w.setCell ⟨g, 0, none⟩ x0).setCell ⟨g, 1, none⟩ x1) :=
  ⟨(h.set 0 x0).set 1 x1, Chg.setCell (S := (· = g)) (p := ⟨g, 1, none⟩) (Chg.setCell (S := (· = g)) (p := ⟨g, 0, none⟩) (Chg.refl _ _) (fun _ => rfl) _) (fun _ => rfl) _⟩
def ApplyR (act : Bool) (base g : Nat) (t : TypeId) (ver : Int) (L : List It) (tv : Int) (add off : List It) (w : World) (e : Ending) (w' : World) : Prop :=
  e = .returned (.int .i64 (appE act ver L tv add off)) ∧ Lst w' base g t (appV act ver L tv add off) (appL act ver L tv add off) ∧ Chg (· = g) w w'
theorem ApplyR.no {act : Bool} {base g : Nat} {t : TypeId} {ver : Int} {L : List It} {tv : Int} {add off : List It} {w w' : World} {x : Int} (hE : appE act ver L tv add off = x) (hx : x ≠ 0) (hL : Lst w base g t ver L) (hN : New w w') : ApplyR act base g t ver L tv add off w (.returned (.int .i64 x)) w' := by
  obtain ⟨h1, h2⟩ := @app_none act ver L tv add off (by rw [hE]; exact hx)
  refine ⟨by rw [hE], ?_, Chg.of_new hN⟩
  rw [h1, h2]
  exact hL.new hN
theorem ApplyR.yes {act : Bool} {base b' g : Nat} {t : TypeId} {ver : Int} {L : List It} {tv : Int} {add off : List It} {w w1 : World} {v y0 y1 : Value} (hE : appE act ver L tv add off = 0) (hb : base ≤ b') (hH : Has w1 g t #[y0, y1]) (ht : 44 ≠ t) (hO : w1.ownsRow b' 44 5 v (nextI L add off).length (ics (nextI L add off))) (hN : New w w1) : ApplyR act base g t ver L tv add off w (.returned (.int .i64 0)) ((w1.setCell ⟨g, 0, none⟩ (.int .i64 tv)).setCell ⟨g, 1, none⟩ v) := by
  obtain ⟨h1, h2, _⟩ := app_some hE
  obtain ⟨s1, s2⟩ := set2 hH (.int .i64 tv) v
  refine ⟨by rw [hE], ?_, hN.new_then s2⟩
  rw [h1, h2]
  exact ⟨v, s1, own_base (own_chg hO s2 (fun k hk e => own_apart hO hH ht (by rw [hk, e]))) (fun k hk => Nat.le_trans hb (own_ge hO k hk))⟩
theorem ChgdR.form {w w' : World} {N : List It} {e : Ending} (h : ChgdR w N e w') : ∃ (sl : Value) (er : Int), e = .returned (.tuple #[sl, .int .i64 er]) ∧ ((er = 20 ∧ 64 < N.length) ∨ (er = 0 ∧ N.length ≤ 64 ∧ w'.ownsRow w.heap.size 44 5 sl N.length (ics N))) := by
  rcases h with ⟨h1, rfl⟩ | ⟨h1, v, rfl, h2⟩
  · exact ⟨_, _, rfl, Or.inl ⟨rfl, h1⟩⟩
  · exact ⟨_, _, rfl, Or.inr ⟨rfl, h1, h2⟩⟩
set_option maxRecDepth 100000 in
set_option maxHeartbeats 8000000 in
theorem apply_any (act : Bool) (base g : Nat) (t : TypeId) (ver : Int) (L add off : List It) (B D : Option Addr) (m p ca co : Nat) (tv : Int) (F : Nat → Prop) (w : World) (hL : Lst w base g t ver L) (h64 : L.length ≤ 64) (ht : 44 ≠ t) (hbs : base ≤ w.heap.size) (hv0 : 0 ≤ ver) (hv1 : ver ≤ 4611686018427387904)
    (hB : Its w F B add) (hD : Its w F D off) (hF : ∀ k, F k → k < w.heap.size) (hm : add.length = m) (hp : off.length = p) (hmb : m ≤ 3518437208880) (hpb : p ≤ 3518437208880) :
    Calls Try.prog 26 #[.pointer (some ⟨g, 0, none⟩), .agg #[.int .i64 tv, .slice B m ca, .slice D p co], valF act] w fun e w' => ApplyR act base g t ver L tv add off w e w' := by
  obtain ⟨v, h1, h2⟩ := hL.ex
  have HL := Lib.hid hL; clear hL
  have c0 := (h1.cell 0).trans rfl
  have c1 := (h1.cell 1).trans rfl
  simp only [List.getElem?_toArray, List.getElem?_cons_zero, List.getElem?_cons_succ] at c0 c1
  have hlg := h1.lt
  have hlg1 : g < w.heap.size + 1 := by omega
  obtain ⟨A, cl, rfl, hn⟩ := own_form h2
  have hN1 : New w ((w.alloc (.cells #[.int .i64 tv, .slice B m ca, .slice D p co] 37)).alloc (.cells #[valF act] 73)) := ((Chg.refl _ _).alloc _).alloc _
  have b1 := (Has.new w 37 #[.int .i64 tv, .slice B m ca, .slice D p co]).alloc (.cells #[valF act] 73)
  have b2 := Has.new_at (w.alloc (.cells #[.int .i64 tv, .slice B m ca, .slice D p co] 37)) 73 #[valF act] (w.heap.size + 1) (by simp)
  have HO := Lib.hid h2; clear h2
  have H1 := Lib.hid h1; clear h1
  have Hn := Lib.hid hn; clear hn
  have HB := Lib.hid hB; clear hB
  have HD := Lib.hid hD; clear hD
  have HF := Lib.hid hF; clear hF
  obtain ⟨vf, hvf⟩ : ∃ x, x = valF act := ⟨_, rfl⟩
  rw [← hvf] at hN1 b1 b2 ⊢
  have Hvf := Lib.hid hvf; clear hvf
  have HN1 := Lib.hid hN1; clear hN1
  have Hb1 := Lib.hid b1; clear b1
  have Hb2 := Lib.hid b2; clear b2
  go_enter Try.func26, Try.ntmps26
  by_cases q1 : tv ≤ ver
  · have e1 : decide (tv ≤ ver) = true := decide_eq_true q1
    have HE := Lib.hid (appE_old (act := act) (L := L) (add := add) (off := off) q1)
    clear q1
    go_wp2_with fail
    go_region
    all_goals
      go_wp2_with fail
      go_ret
      exact ApplyR.no HE.out (by decide) HL.out HN1.out.drew
  · have e1 : decide (tv ≤ ver) = false := decide_eq_false q1
    by_cases q2 : tv = ver + 1
    · have HE := Lib.hid (appE_at (act := act) (L := L) (add := add) (off := off) q2)
      have e2 : (tv != ver + 1) = false := by rw [q2]; exact bne_self_eq_false' ..
      clear q1 q2
      have HCa := Lib.hid (fun w1 (hN : New ((w.alloc (.cells #[.int .i64 tv, .slice B m ca, .slice D p co] 37)).alloc (.cells #[vf] 73)) w1) => contains_app (fun x => !rightI act x) add B m ca (.pointer (some ⟨w.heap.size + 1, 0, none⟩)) w1 F hm (by omega) (HB.out.new (HN1.out.then_new hN) HF.out) (fun k hk => Nat.lt_of_lt_of_le (HF.out k hk) (HN1.out.then_new hN).size) (fun x w2 hN2 => app1_any act x (w.heap.size + 1) w2 (by rw [← Hvf.out]; exact Hb2.out.keep (hN.then_new hN2))))
      have HCo := Lib.hid (fun w1 (hN : New ((w.alloc (.cells #[.int .i64 tv, .slice B m ca, .slice D p co] 37)).alloc (.cells #[vf] 73)) w1) => contains_app (fun x => !rightI act x) off D p co (.pointer (some ⟨w.heap.size + 1, 0, none⟩)) w1 F hp (by omega) (HD.out.new (HN1.out.then_new hN) HF.out) (fun k hk => Nat.lt_of_lt_of_le (HF.out k hk) (HN1.out.then_new hN).size) (fun x w2 hN2 => app1_any act x (w.heap.size + 1) w2 (by rw [← Hvf.out]; exact Hb2.out.keep (hN.then_new hN2))))
      have HCh := Lib.hid (fun w1 (hN : New w w1) => changed_any L add off A B D L.length m p cl ca co tv (fun k => F k ∨ Value.ownBlock (.slice A L.length cl) = some k) w1 (((Its.of_own HO.out).new hN (own_lt HO.out)).mono fun k hk => Or.inr hk) ((HB.out.new hN HF.out).mono fun k hk => Or.inl hk) ((HD.out.new hN HF.out).mono fun k hk => Or.inl hk) (fun k hk => Nat.lt_of_lt_of_le (hk.elim (HF.out k) (own_lt HO.out k)) hN.size) rfl hm hp h64 hmb hpb)
      obtain ⟨ba, hba⟩ : ∃ b, b = add.all (rightI act) := ⟨_, rfl⟩
      obtain ⟨bo, hbo⟩ : ∃ b, b = off.all (rightI act) := ⟨_, rfl⟩
      rw [app_wrong, ← hba] at HCa
      rw [app_wrong, ← hbo] at HCo
      rw [← hba, ← hbo] at HE
      clear hba hbo
      obtain ⟨W, hW⟩ : ∃ W, W = (w.alloc (.cells #[.int .i64 tv, .slice B m ca, .slice D p co] 37)).alloc (.cells #[vf] 73) := ⟨_, rfl⟩
      go_wp2_with fail
      go_region
      all_goals
        go_wp2_with fail
        go_region
        all_goals
          rw [← hW] at HCa HCo Hb1 HN1
          go_wp2_with fail
          rw [← hW]
          with_reducible refine (HCa.out _ (Chg.drew (Chg.drew (Chg.refl _ _)))).mono ?_
          rintro e w1 ⟨rfl, hN⟩
          have HN2 := Lib.hid (Chg.trans (Chg.drew (Chg.drew (Chg.refl (fun _ => False) W))) hN fun _ _ f => f); clear hN
          have hb := Hb1.out.keep HN2.out
          have hlb := hb.lt
          have d1 : w1.cell? ⟨w.heap.size, 1, none⟩ = some (.slice B m ca) := (hb.cell 1).trans rfl
          have d2 : w1.cell? ⟨w.heap.size, 2, none⟩ = some (.slice D p co) := (hb.cell 2).trans rfl
          clear hb
          cases ba with
          | false =>
            go_wp2_with fail
            go_ret
            exact ApplyR.no HE.out (by decide) HL.out (HN1.out.then_new HN2.out)
          | true =>
            go_wp2_with fail
            with_reducible refine (HCo.out _ HN2.out).mono ?_
            rintro e w2 ⟨rfl, hN⟩
            have HN3 := Lib.hid (HN2.out.then_new hN); clear hN d1 d2 hlb
            cases bo with
            | false =>
              go_wp2_with fail
              go_ret
              exact ApplyR.no HE.out (by decide) HL.out (HN1.out.then_new HN3.out)
            | true =>
              have HN4 := Lib.hid (HN1.out.then_new HN3.out)
              have hb := Hb1.out.keep HN3.out
              have hlb := hb.lt
              have d0 : w2.cell? ⟨w.heap.size, 0, none⟩ = some (.int .i64 tv) := (hb.cell 0).trans rfl
              have d1 : w2.cell? ⟨w.heap.size, 1, none⟩ = some (.slice B m ca) := (hb.cell 1).trans rfl
              have d2 : w2.cell? ⟨w.heap.size, 2, none⟩ = some (.slice D p co) := (hb.cell 2).trans rfl
              have Hb3 := Lib.hid hb; clear hb
              have H5 := Lib.hid (H1.out.keep HN4.out)
              have hlg5 := H5.out.lt
              have g1 : w2.cell? ⟨g, 1, none⟩ = some (.slice A L.length cl) := (H5.out.cell 1).trans rfl
              have HCx := Lib.hid (HCh.out w2.drew HN4.out.drew)
              clear HCh
              go_wp2_with fail
              go_region_with (go_at_call 55; with_reducible refine HCx.out.mono ?_; rintro e w3 ⟨hR, hN⟩; obtain ⟨sl, er, rfl, hR2⟩ := hR.form; have HR := Lib.hid hR2; clear hR hR2; have HN5 := Lib.hid (HN4.out.drew.then_new hN); have HN6 := Lib.hid (Chg.trans (Chg.drew (Chg.refl (fun _ => False) w2)) hN fun _ _ f => f); clear hN)
              all_goals
                have hb := Hb3.out.keep HN6.out
                have hlb3 := hb.lt
                have k0 : w3.cell? ⟨w.heap.size, 0, none⟩ = some (.int .i64 tv) := (hb.cell 0).trans rfl
                have hg := H5.out.keep HN6.out
                have hlg6 := hg.lt
                have z0 := hg.free 0
                have z1 := hg.free 1
                clear g1
                have g0 : w3.cell? ⟨g, 0, none⟩ = some (.int .i64 ver) := (hg.cell 0).trans rfl
                have g1 : w3.cell? ⟨g, 1, none⟩ = some (.slice A L.length cl) := (hg.cell 1).trans rfl
                have H6 := Lib.hid hg; clear hg hb d0 d1 d2 hlb
                rcases HR.out with ⟨rfl, hl⟩ | ⟨rfl, hl, hO3⟩
                · have HE2 : Hid (appE act ver L tv add off = 20) := HE.out.trans (by simp [hl])
                  clear hl
                  go_wp2_with fail
                  go_ret
                  exact ApplyR.no HE2.out (by decide) HL.out HN5.out
                · have HE2 : Hid (appE act ver L tv add off = 0) := HE.out.trans (by simp; omega)
                  have HO3 := Lib.hid hO3
                  clear hl
                  obtain ⟨A3, c3, rfl, hO4⟩ := own_form hO3
                  clear hO3 hO4
                  go_wp2_with fail
                  go_ret
                  exact ApplyR.yes HE2.out (Nat.le_trans hbs HN4.out.size) H6.out ht HO3.out HN5.out
    · have HE := Lib.hid (appE_state (act := act) (L := L) (add := add) (off := off) q1 q2)
      have e2 : (tv != ver + 1) = true := bne_iff_ne.2 q2
      clear q1
      go_wp2_with fail
      go_region
      all_goals
        go_wp2_with fail
        go_region
        all_goals
          go_wp2_with fail
          go_ret
          exact ApplyR.no HE.out (by decide) HL.out HN1.out.drew.drew
end Go.Proofs.Ytficopkjpdfilaa
