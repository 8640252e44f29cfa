/-
  The document's List.Apply.
-/
import Derived.Test.YtficopkjpdfilaaLiH
import Derived.Test.YtficopkjpdfilaaLiG
namespace Go.Proofs.Ytficopkjpdfilaa
open Go.RowKit
theorem kp_all (L off : List It) : keepI (L.take L.length) off = keepI L off := by rw [List.take_length]
theorem nx_len (K add : List It) (k : Nat) : (addI K (add.take k)).length ≤ K.length + add.length := by
  have h1 := (addI_len (add.take k) K).2
  rw [List.length_take] at h1
  omega
set_option maxRecDepth 100000 in
set_option maxHeartbeats 8000000 in
theorem docApply_any (act : Bool) (base g : Nat) (ver : Int) (L add off : List It) (B D : Option Addr) (m p ca co : Nat) (tv : Int) (F : Nat → Prop) (w : World) (hL : Lst w base g 35 ver L) (h64 : L.length ≤ 64) (hbs : base ≤ w.heap.size) (hv0 : 0 ≤ ver) (hv1 : ver ≤ 4611686018427387904)
    (hB : Its w F B add) (hD : Its w F D off) (hF : ∀ k, F k → k < w.heap.size) (hm : add.length = m) (hp : off.length = p) (hmb : m ≤ 3518437208800) (hpb : p ≤ 3518437208800) :
    Calls Try.prog 12 #[.pointer (some ⟨g, 0, none⟩), .int .i64 tv, .slice B m ca, .slice D p co, .bool act] w fun e w' => ApplyR act base g 35 ver L tv add off w e w' := by
  obtain ⟨v, h1, h2⟩ := hL.ex
  have HL := Lib.hid hL; clear hL
  have c0 := (h1.cell 0).trans rfl
  simp only [List.getElem?_toArray, List.getElem?_cons_zero] at c0
  have hlg := h1.lt
  obtain ⟨A, cl, rfl, hn⟩ := own_form h2
  have HO := Lib.hid h2; clear h2
  have H1 := Lib.hid h1; clear h1
  clear hn
  have HB := Lib.hid hB; clear hB
  have HD := Lib.hid hD; clear hD
  have HF := Lib.hid hF; clear hF
  have Hm := Lib.hid hm; clear hm
  have Hp := Lib.hid hp; clear hp
  have H64 := Lib.hid h64; clear h64
  go_enter Try.func12, Try.ntmps12
  by_cases q1 : tv ≤ ver
  · have e1 : decide (tv ≤ ver) = true := decide_eq_true q1
    have HE := Lib.hid (appE_old (act := act) (L := L) (add := add) (off := off) q1)
    clear q1
    go_wp2_with fail
    go_ret
    exact ApplyR.no HE.out (by decide) HL.out (Chg.refl _ _)
  · have e1 : decide (tv ≤ ver) = false := decide_eq_false q1
    by_cases q2 : tv = ver + 1
    · have HE := Lib.hid (appE_at (act := act) (L := L) (add := add) (off := off) q2)
      have e2 : (tv != ver + 1) = false := by rw [q2]; exact bne_self_eq_false' ..
      clear q1 q2
      go_upto_block 0 with (fail)
      go_cut [] (fun wc => add.all (rightI act) = true ∧ New w wc)
      case first =>
        go_wp2_with fail
        go_loopg [11] m (fun gk i wr => ∃ k : Nat, k ≤ m ∧ gk = m - k ∧ i = .int .i64 k ∧ (add.take k).all (rightI act) = true ∧ New w wr)
        case atStart => exact ⟨0, by omega, by omega, rfl, by simp, Chg.refl _ _⟩
        case round =>
          obtain ⟨k, hk, rfl, rfl, hp, hN⟩ := hrel
          have HP := Lib.hid hp; clear hp
          have HN := Lib.hid hN; clear hN
          by_cases hlt : k < m
          · obtain ⟨x, hx⟩ : ∃ x, add[k]? = some x := ⟨_, List.getElem?_eq_getElem (by rw [Hm.out]; exact hlt)⟩
            obtain ⟨a, rfl, hab, a0, a1, a2, a3, a4⟩ := (HB.out.new HN.out HF.out) k x hx
            obtain ⟨h1, h2⟩ := all_split hx HP.out
            have HC := Lib.hid (docRight_any act x wr)
            obtain ⟨b, hb⟩ : ∃ b, b = rightI act x := ⟨_, rfl⟩
            rw [← hb] at HC h1 h2
            have HS1 := Lib.hid h1; clear h1
            have HS2 := Lib.hid h2; clear h2
            clear hb hx hab
            obtain ⟨xc, xo, xi, xn, xa⟩ := x
            go_wp2_with fail
            with_reducible refine HC.out.mono ?_
            rintro e w2 ⟨rfl, hN2⟩
            have HN2 := Lib.hid (HN.out.then_new hN2); clear hN2
            cases b with
            | true =>
              go_wp2_with fail
              go_roundg (m - (k + 1))
              case measure => omega
              case rel => exact ⟨k + 1, by omega, rfl, by go_num, HS1.out, HN2.out⟩
            | false =>
              have HW : Hid (add.all (rightI act) = false) := HS2.out (by trivial)
              have HE2 : Hid (appE act ver L tv add off = 2) := HE.out.trans (by rw [HW.out]; simp)
              go_wp2_with fail
              go_ret
              exact ApplyR.no HE2.out (by decide) HL.out HN2.out
          · obtain rfl : k = m := by omega
            have HW : Hid (add.all (rightI act) = true) := by have h := HP.out; rwa [show add.take k = add from by rw [← Hm.out, List.take_length]] at h
            go_wp2_with fail
            go_meet
            exact ⟨HW.out, HN.out⟩
      case rest =>
        obtain ⟨hv, hN⟩ := hcut
        have HV1 := Lib.hid hv; clear hv
        have HNa := Lib.hid hN; clear hN
        go_upto_block 2 with (fail)
        go_cut [] (fun wc => off.all (rightI act) = true ∧ New w wc)
        case first =>
          go_wp2_with fail
          go_loopg [12] p (fun gk i wr => ∃ k : Nat, k ≤ p ∧ gk = p - k ∧ i = .int .i64 k ∧ (off.take k).all (rightI act) = true ∧ New w wr)
          case atStart => exact ⟨0, by omega, by omega, rfl, by simp, HNa.out⟩
          case round =>
            obtain ⟨k, hk, rfl, rfl, hp, hN⟩ := hrel
            have HP := Lib.hid hp; clear hp
            have HN := Lib.hid hN; clear hN
            by_cases hlt : k < p
            · obtain ⟨x, hx⟩ : ∃ x, off[k]? = some x := ⟨_, List.getElem?_eq_getElem (by rw [Hp.out]; exact hlt)⟩
              obtain ⟨a, rfl, hab, a0, a1, a2, a3, a4⟩ := (HD.out.new HN.out HF.out) k x hx
              obtain ⟨h1, h2⟩ := all_split hx HP.out
              have HC := Lib.hid (docRight_any act x wr)
              obtain ⟨b, hb⟩ : ∃ b, b = rightI act x := ⟨_, rfl⟩
              rw [← hb] at HC h1 h2
              have HS1 := Lib.hid h1; clear h1
              have HS2 := Lib.hid h2; clear h2
              clear hb hx hab
              obtain ⟨xc, xo, xi, xn, xa⟩ := x
              go_wp2_with fail
              with_reducible refine HC.out.mono ?_
              rintro e w2 ⟨rfl, hN2⟩
              have HN2 := Lib.hid (HN.out.then_new hN2); clear hN2
              cases b with
              | true =>
                go_wp2_with fail
                go_roundg (p - (k + 1))
                case measure => omega
                case rel => exact ⟨k + 1, by omega, rfl, by go_num, HS1.out, HN2.out⟩
              | false =>
                have HW : Hid (off.all (rightI act) = false) := HS2.out (by trivial)
                have HE2 : Hid (appE act ver L tv add off = 2) := HE.out.trans (by rw [HW.out]; simp)
                go_wp2_with fail
                go_ret
                exact ApplyR.no HE2.out (by decide) HL.out HN2.out
            · obtain rfl : k = p := by omega
              have HW : Hid (off.all (rightI act) = true) := by have h := HP.out; rwa [show off.take k = off from by rw [← Hp.out, List.take_length]] at h
              go_wp2_with fail
              go_meet
              exact ⟨HW.out, HN.out⟩
        case rest =>
          obtain ⟨hv, hN⟩ := hcut
          have HV2 := Lib.hid hv; clear hv
          have HNb := Lib.hid hN; clear hN HNa
          obtain ⟨K, hK⟩ : ∃ K, K = keepI L off := ⟨_, rfl⟩
          have hE3 : appE act ver L tv add off = if 64 < (addI K add).length then 20 else 0 := by rw [HE.out, HV1.out, HV2.out, hK]; rfl
          have HE3 := Lib.hid hE3; clear hE3
          have hN3 : nextI L add off = addI K add := by rw [hK]; rfl
          have HN3 := Lib.hid hN3; clear hN3
          have HK := Lib.hid hK; clear hK
          have hK64 : K.length ≤ 64 := by rw [HK.out]; exact Nat.le_trans (keepI_len L off) H64.out
          have HK64 := Lib.hid hK64; clear hK64 HE HV1 HV2
          have Hnl := Lib.hid (fun k => nx_len K add k)
          go_upto_block 4 with (fail)
          go_cut [13] (fun s13 wc => ∃ q, wc.ownsRow w.heap.size 44 5 s13 q (ics K) ∧ New w wc)
          case first =>
            obtain ⟨n, hn⟩ : ∃ n, n = L.length := ⟨_, rfl⟩
            have Hn := Lib.hid hn.symm
            have hn64 : n ≤ 64 := by rw [hn]; exact H64.out
            have hlgn := Nat.lt_of_lt_of_le hlg HNb.out.size
            have d1n : wc.cell? ⟨g, 1, none⟩ = some (.slice A L.length cl) := ((H1.out.keep HNb.out).cell 1).trans rfl
            rw [← hn] at d1n
            clear hn
            go_wp2_with fail
            go_loopg [14, 13] n (fun gk i s6 wr => ∃ k q : Nat, k ≤ n ∧ gk = n - k ∧ i = .int .i64 k ∧ wr.ownsRow w.heap.size 44 5 s6 q (ics (keepI (L.take k) off)) ∧ New w wr)
            case atStart => exact ⟨0, 0, by omega, by omega, rfl, nil_own _ _, HNb.out⟩
            case round =>
              clear d1n hlgn HNb
              obtain ⟨k, q, hk, rfl, rfl, hO, hN⟩ := hrel
              have HO1 := Lib.hid hO; clear hO
              have HN := Lib.hid hN; clear hN
              have hg := H1.out.keep HN.out
              have hlg2 := hg.lt
              have d1 : wr.cell? ⟨g, 1, none⟩ = some (.slice A L.length cl) := (hg.cell 1).trans rfl
              rw [Hn.out] at d1
              clear hg
              by_cases hlt : k < n
              · obtain ⟨x, hx⟩ : ∃ x, L[k]? = some x := ⟨_, List.getElem?_eq_getElem (by rw [Hn.out]; exact hlt)⟩
                obtain ⟨a, hA, hab, a0, a1, a2, a3, a4⟩ := ((Its.of_own HO.out).new HN.out (own_lt HO.out)) k x hx
                subst hA
                have Hst := Lib.hid (kp_step (off := off) hx)
                have HC := Lib.hid (docIn_any off x D p co wr F Hp.out (by omega) (HD.out.new HN.out HF.out) (fun k hk => Nat.lt_of_lt_of_le (HF.out k hk) HN.out.size))
                obtain ⟨b, hb⟩ : ∃ b, b = off.contains x := ⟨_, rfl⟩
                rw [← hb] at HC Hst
                have HX := Lib.hid (fun w2 (hN : New w w2) => ((Its.of_own HO.out).new hN (own_lt HO.out)) k x hx)
                clear hb hx hab
                obtain ⟨xc, xo, xi, xn, xa⟩ := x
                go_wp2_with fail
                with_reducible refine HC.out.mono ?_
                rintro e w2 ⟨rfl, hN2⟩
                have HN2 := Lib.hid (HN.out.then_new hN2)
                have HO2 := Lib.hid (own_new HO1.out hN2)
                clear hN2 d1 hlg2 a0 a1 a2 a3 a4
                cases b with
                | true =>
                  go_wp2_with fail
                  go_roundg (n - (k + 1))
                  case measure => omega
                  case rel => exact ⟨k + 1, q, by omega, rfl, by go_num, by rw [Hst.out.1 (by trivial)]; exact HO2.out, HN2.out⟩
                | false =>
                  obtain ⟨a', ha', hab, a0, a1, a2, a3, a4⟩ := HX.out w2 HN2.out
                  simp only [Option.some.injEq] at ha'
                  subst ha'
                  have hg := H1.out.keep HN2.out
                  have hlg2 := hg.lt
                  have d1 : w2.cell? ⟨g, 1, none⟩ = some (.slice (some a) L.length cl) := (hg.cell 1).trans rfl
                  rw [Hn.out] at d1
                  clear hg hab
                  have hq : q ≤ 3518437208882 := by have h1 := own_items HO2.out; have h2 := kp_len L off k H64.out; omega
                  have hbs2 := HN2.out.size
                  go_wp2_with (at_builtin; refine wpList_push_item rfl w.heap.size hbs2 (.tmp 74) (.tmp 82) rfl u13 q _ rfl HO2.out ⟨xc, xo, xi, xn, xa⟩ rfl hq ?_; intro A' c' w' hO hC hf; have HO3 := Lib.hid hO; clear hO; have HC3 := Lib.hid hC; clear hC; clear hf)
                  go_roundg (n - (k + 1))
                  case measure => omega
                  case rel => exact ⟨k + 1, q + 1, by omega, rfl, by go_num, by rw [Hst.out.2 (by trivial)]; exact HO3.out, New.own HN2.out HO2.out HC3.out⟩
              · obtain rfl : k = n := by omega
                have HO2 : Hid (wr.ownsRow w.heap.size 44 5 u13 q (ics K)) := by
                  have h := HO1.out
                  rw [show L.take k = L from by rw [← Hn.out, List.take_length], ← HK.out] at h
                  exact h
                go_wp2_with fail
                go_meet
                exact ⟨q, HO2.out, HN.out⟩
          case rest =>
            obtain ⟨q0, hO, hN⟩ := hcut
            have HO0 := Lib.hid hO; clear hO
            have HNc := Lib.hid hN; clear hN HNb
            go_upto_block 6 with (fail)
            go_cut [13] (fun s13 wc => ∃ q, wc.ownsRow w.heap.size 44 5 s13 q (ics (addI K add)) ∧ New w wc)
            case first =>
              go_wp2_with fail
              go_loopg [15, 13] m (fun gk i s6 wr => ∃ k q : Nat, k ≤ m ∧ gk = m - k ∧ i = .int .i64 k ∧ wr.ownsRow w.heap.size 44 5 s6 q (ics (addI K (add.take k))) ∧ New w wr)
              case atStart => exact ⟨0, q0, by omega, by omega, rfl, HO0.out, HNc.out⟩
              case round =>
                clear HO0 HNc
                obtain ⟨k, q, hk, rfl, rfl, hO, hN⟩ := hrel
                have HO1 := Lib.hid hO; clear hO
                have HN := Lib.hid hN; clear hN
                have hql := own_items HO1.out
                have hq : q ≤ 3518437208882 := by have h1 := Hnl.out k; have h2 := HK64.out; have h3 := Hm.out; omega
                clear hql
                obtain ⟨A6, c6, hu6, hu7⟩ := own_form HO1.out
                subst hu6
                clear hu7
                by_cases hlt : k < m
                · obtain ⟨x, hx⟩ : ∃ x, add[k]? = some x := ⟨_, List.getElem?_eq_getElem (by rw [Hm.out]; exact hlt)⟩
                  obtain ⟨a, hA, hab, a0, a1, a2, a3, a4⟩ := (HB.out.new HN.out HF.out) k x hx
                  subst hA
                  have Hst := Lib.hid (nx_step (K := K) hx)
                  have HC := Lib.hid (docIn_any (addI K (add.take k)) x A6 q c6 wr _ (own_items HO1.out) (by omega) (Its.of_own HO1.out) (own_lt HO1.out))
                  obtain ⟨b, hb⟩ : ∃ b, b = (addI K (add.take k)).contains x := ⟨_, rfl⟩
                  rw [← hb] at HC Hst
                  have HX := Lib.hid (fun w2 (hN : New w w2) => (HB.out.new hN HF.out) k x hx)
                  clear hb hx hab
                  obtain ⟨xc, xo, xi, xn, xa⟩ := x
                  go_wp2_with fail
                  with_reducible refine HC.out.mono ?_
                  rintro e w2 ⟨rfl, hN2⟩
                  have HN2 := Lib.hid (HN.out.then_new hN2)
                  have HO2 := Lib.hid (own_new HO1.out hN2)
                  clear hN2 a0 a1 a2 a3 a4
                  cases b with
                  | true =>
                    go_wp2_with fail
                    go_roundg (m - (k + 1))
                    case measure => omega
                    case rel => exact ⟨k + 1, q, by omega, rfl, by go_num, by rw [Hst.out.1 (by trivial)]; exact HO2.out, HN2.out⟩
                  | false =>
                    obtain ⟨a', ha', hab, a0, a1, a2, a3, a4⟩ := HX.out w2 HN2.out
                    simp only [Option.some.injEq] at ha'
                    subst ha'
                    clear hab
                    have hbs2 := HN2.out.size
                    go_wp2_with (at_builtin; refine wpList_push_item rfl w.heap.size hbs2 (.tmp 97) (.tmp 102) rfl (.slice A6 q c6) q _ rfl HO2.out ⟨xc, xo, xi, xn, xa⟩ rfl hq ?_; intro A' c' w' hO hC hf; have HO3 := Lib.hid hO; clear hO; have HC3 := Lib.hid hC; clear hC; clear hf)
                    go_roundg (m - (k + 1))
                    case measure => omega
                    case rel => exact ⟨k + 1, q + 1, by omega, rfl, by go_num, by rw [Hst.out.2 (by trivial)]; exact HO3.out, New.own HN2.out HO2.out HC3.out⟩
                · obtain rfl : k = m := by omega
                  have HO2 : Hid (wr.ownsRow w.heap.size 44 5 (.slice A6 q c6) q (ics (addI K add))) := by
                    have h := HO1.out
                    rw [show add.take k = add from by rw [← Hm.out, List.take_length]] at h
                    exact h
                  go_wp2_with fail
                  go_meet
                  exact ⟨q, HO2.out, HN.out⟩
            case rest =>
              obtain ⟨q, hO, hN⟩ := hcut
              have HO1 := Lib.hid hO; clear hO
              have HN := Lib.hid hN; clear hN HO0 HNc
              have hql := own_items HO1.out
              obtain ⟨A6, c6, hu6, hu7⟩ := own_form HO1.out
              subst hu6
              clear hu7
              by_cases hq : 64 < q
              · have HE2 : Hid (appE act ver L tv add off = 20) := HE3.out.trans (if_pos (by omega))
                clear hql
                go_wp2_with fail
                go_ret
                exact ApplyR.no HE2.out (by decide) HL.out HN.out
              · have HE2 : Hid (appE act ver L tv add off = 0) := HE3.out.trans (if_neg (by omega))
                have HO2 : Hid (wc.ownsRow w.heap.size 44 5 (.slice A6 q c6) (nextI L add off).length (ics (nextI L add off))) := by
                  have h := HO1.out
                  rw [HN3.out, hql]; exact h
                clear hql
                have hg := H1.out.keep HN.out
                have hlg2 := hg.lt
                have z0 := hg.free 0
                have z1 := hg.free 1
                have d0 : wc.cell? ⟨g, 0, none⟩ = some (.int .i64 ver) := (hg.cell 0).trans rfl
                have d1 : wc.cell? ⟨g, 1, none⟩ = some (.slice A L.length cl) := (hg.cell 1).trans rfl
                have H2 := Lib.hid hg; clear hg
                go_wp2_with fail
                go_ret
                exact ApplyR.yes HE2.out hbs H2.out (by decide) HO2.out HN.out
    · have HE := Lib.hid (appE_state (act := act) (L := L) (add := add) (off := off) q1 q2)
      have e2 : (tv != ver + 1) = true := bne_iff_ne.2 q2
      clear q1
      go_wp2_with fail
      go_ret
      exact ApplyR.no HE.out (by decide) HL.out (Chg.refl _ _)
end Go.Proofs.Ytficopkjpdfilaa
