/-
  What the law BitsBack does: it returns true and turns nothing that was there.
-/
import Derived.Test.YtemhcfbdpplcgaaLawA
namespace Go.Proofs.Ytemhcfbdpplcgaa
open Go.RowKit

theorem own_arr_ints {w : World} {base n c : Nat} {A : Option Addr} {f : Nat → Int} (h : w.ownsRow base 3 1 (.slice A n c) n ((List.range n).map (fun i => .int .i64 (f i)))) (h0 : ∀ i, i < n → 0 ≤ f i) : Arr w (fun k => Value.ownBlock (.slice A n c) = some k) A n (fun i => iV (f i).toNat) := by
  intro i hi
  obtain ⟨a, ha, hb, hc⟩ := Arr.of_own h i hi
  refine ⟨a, ha, hb, ?_⟩
  rw [hc]
  have := h0 i hi
  simp [hi, iV, Int.toNat_of_nonneg this]
theorem own_some {w : World} {base e n c i : Nat} {A : Option Addr} {xs : List Value} (h : w.ownsRow base e 1 (.slice A n c) n xs) (hi : i < n) : ∃ g, A = some ⟨g, 0, none⟩ ∧ ∀ j, j < n → w.cell? ⟨g, j, none⟩ = xs[j]? := by
  rcases h.2 with ⟨_, hn⟩ | ⟨g, cap, cur, hv, _⟩
  · omega
  · simp only [Value.slice.injEq] at hv
    obtain ⟨rfl, _, rfl⟩ := hv
    exact ⟨g, rfl, fun j hj => h.cellAt j (by omega)⟩
set_option maxHeartbeats 4000000 in
theorem back_walk (A : Option Addr) (n c : Nat) (fw fv : Nat → Int) (w : World) (hA : Flds w (· < w.heap.size) A n fw fv) :
    Calls Try.prog 5 #[.slice A n c] w fun e w' => e = .returned (.bool true) ∧ New w w' := by
  have HA := Lib.hid hA; clear hA
  by_cases h200 : n ≤ 200
  · have hd2 : decide ((200 : Int) < (n : Int)) = false := by simp; omega
    by_cases hok : ∀ j, j < n → okF (fw j) (fv j) = true
    · have Hok := Lib.hid hok; clear hok
      obtain ⟨i0, hi, hz0, hz1, hz2⟩ := info_parts Try.info3
      have hLl := fbits_len fw fv n Hok.out
      have hLs := fbits_sum fw fv n
      obtain ⟨L, hL⟩ : ∃ L, L = fbits fw fv n := ⟨_, rfl⟩
      rw [← hL] at hLl hLs
      have HL := Lib.hid hL; clear hL
      have HLs := Lib.hid hLs; clear hLs
      go_enter Try.func5, Try.ntmps5
      go_wp2_with fail
      refine (awake_any _).mono ?_
      rintro e w1 ⟨rfl, hN1⟩
      have HN1 := Lib.hid hN1; clear hN1
      go_wp2_with fail
      refine (Put_ok _ _ _ _ A n c fw fv _ (Wr_zero w1) (HA.out.chg (HN1.out.alloc _) (fun k hk => ⟨hk, fun f => f⟩)) (fun k hk => ?_) (by simp; omega) Hok.out).mono ?_
      · have h1 := (HN1.out.alloc (.cells #[.slice none 0 0, .int .i64 0] 26)).size
        have h2 := HN1.out.size
        exact ⟨by omega, by omega, by simp [Value.ownBlock]⟩
      rintro e w2 ⟨rfl, vw, hW2, hX2⟩
      have hN2 : New w w2 := (HN1.out.alloc _).trans hX2.1 fun i hi hk => by
        have := HN1.out.size
        rcases hk with rfl | hk
        · omega
        · simp [Value.ownBlock] at hk
      rw [List.nil_append, ← HL.out] at hW2
      have HW2 := Lib.hid hW2; clear hW2
      have HN2 := Lib.hid hN2; clear hN2 hX2 HN1
      obtain ⟨bw, hbw⟩ : ∃ bw, bw = w1.heap.size := ⟨_, rfl⟩
      rw [← hbw] at HW2 ⊢
      clear hbw
      go_wp2_with fail
      go_loopg [4, 5] n (fun gk v i wr => ∃ (k : Nat) (A' : Option Addr) (c' : Nat), k ≤ n ∧ gk = n - k ∧ i = .int .i64 k ∧ v = .slice A' k c' ∧ wr.ownsRow w.heap.size 3 1 (.slice A' k c') k ((List.range k).map (fun i => .int .i64 (fw i))) ∧ Wr wr bw vw L ∧ New w wr)
      case atStart => exact ⟨0, _, _, by omega, by omega, rfl, rfl, World.ownsRow_nil _ _ _ _, HW2.out, HN2.out⟩
      case round =>
        clear HW2 HN2
        obtain ⟨k, A', c', hk, rfl, rfl, rfl, hO, hW, hN⟩ := hrel
        by_cases hlt : k < n
        · obtain ⟨a, rfl, hab, h1, h2⟩ := (HA.out.chg hN (fun k hk => ⟨hk, fun f => f⟩)) k hlt
          clear h2
          obtain ⟨x, hx⟩ : ∃ x, x = fw k := ⟨_, rfl⟩
          rw [← hx] at h1
          have Hx := Lib.hid hx; clear hx
          have HO := Lib.hid hO; clear hO
          have HW := Lib.hid hW; clear hW
          have HN := Lib.hid hN; clear hN
          go_wp2_with (at_builtin; refine wpList_append_one rfl _ _ 42 rfl w.heap.size 3 i0 (.int .i64 0) 1 8 Try.underlying42 hi hz0 hz1 hz2 rfl (by decide) _ k ((List.range k).map (fun i => .int .i64 (fw i))) rfl HO.out #[_] rfl rfl ?a1 ?a2 ?a3 ?a4 ?_)
          case a1 => first | rfl | (intro u hu; simp at hu; subst hu; rfl)
          case a2 => simp only [maxLen]; omega
          case a3 => omega
          case a4 => exact HN.out.size
          intro A2 c2 w3 hO2 hC2 hF2
          have HW3 := Lib.hid (HW.out.beside HO.out (by decide) (by decide) hC2)
          have HN3 : Hid (New w w3) := HN.out.trans hC2 (fun i hi hk => by have := (HO.out.lt i hk).1; omega)
          have HO3 : Hid (w3.ownsRow w.heap.size 3 1 (.slice A2 (k + 1) c2) (k + 1) ((List.range (k + 1)).map (fun i => .int .i64 (fw i)))) := by
            rw [range_snoc, ← Hx.out]; exact hO2
          clear hO2 hC2 hF2 HW HO HN
          go_wp2
          go_roundg (n - (k + 1))
          case measure => omega
          case rel => exact ⟨k + 1, A2, c2, by omega, rfl, by go_num, rfl, HO3.out, HW3.out, HN3.out⟩
        · obtain rfl : n = k := by omega
          have HO := Lib.hid hO; clear hO
          have HW := Lib.hid hW; clear hW
          have HN := Lib.hid hN; clear hN
          have hpl : (pack L).length ≤ 1000 := by simp; omega
          have hpl2 : L.length ≤ 8 * (pack L).length := by simp; omega
          have hpl3 : 8 * (pack L).length < L.length + 8 := by simp; omega
          have hpm := pack_mem L
          have HPm := Lib.hid hpm; clear hpm
          obtain ⟨bs, hbs⟩ : ∃ bs, bs = pack L := ⟨_, rfl⟩
          rw [← hbs] at hpl hpl2 hpl3 HPm
          have HB := fun wx (h : Wr wx bw vw L) => Bytes_any bw vw L wx h (by omega)
          rw [← hbs] at HB
          have HBs := Lib.hid hbs; clear hbs
          have HB := Lib.hid HB
          go_wp2_with fail
          refine (HB.out wr HW.out).mono ?_
          rintro e w3 ⟨A3, c3, rfl, hO3, hN3⟩
          have HO3 := Lib.hid hO3; clear hO3
          have HN3 := Lib.hid hN3; clear hN3
          go_wp2_with fail
          refine (Read_any A3 _ c3 _ bs w3 (own_arr_bytes HO3.out) rfl (own_nil HO3.out) (by omega)).mono ?_
          rintro e w4 ⟨br, rfl, hR4, hN4, hbr⟩
          have HR4 := Lib.hid hR4; clear hR4
          have HN4 := Lib.hid hN4; clear hN4
          go_wp2_with fail
          refine (HB.out w4 (HW.out.new (HN3.out.then_new HN4.out))).mono ?_
          rintro e w5 ⟨A5, c5, rfl, hO5, hN5⟩
          have HO5 := Lib.hid hO5; clear hO5
          have HN5 := Lib.hid hN5; clear hN5
          go_wp2_with fail
          refine (Read_any A5 _ c5 _ bs w5 (own_arr_bytes HO5.out) rfl (own_nil HO5.out) (by omega)).mono ?_
          rintro e w6 ⟨bq, rfl, hR6, hN6, hbq⟩
          have hlt4 : br < w4.heap.size := by obtain ⟨cs, hcs⟩ := HR4.out.has; exact hcs.lt
          have hne : br ≠ bq := by have := HN5.out.size; omega
          have hR6r := HR4.out.new (HN5.out.then_new hN6)
          have hO6 := own_new HO.out (HN3.out.then_new (HN4.out.then_new (HN5.out.then_new hN6)))
          have HN' := Lib.hid (HN.out.then_new (HN3.out.then_new (HN4.out.then_new (HN5.out.then_new hN6))))
          have hbrw : w.heap.size ≤ br := by have := (HN.out.then_new HN3.out).size; omega
          have hbqw : w.heap.size ≤ bq := by have := (HN.out.then_new (HN3.out.then_new (HN4.out.then_new HN5.out))).size; omega
          clear HN3 HN4 HN5 hN6 HO3 HO5 HR4 hbr hbq hlt4 HO HW HN HB
          have HN := HN'; clear HN'
          have HRq := Lib.hid hR6; clear hR6
          have HRr := Lib.hid hR6r; clear hR6r
          have HO := Lib.hid hO6; clear hO6
          have hT := take_ok br bs 0 w6 HRr.out (by omega) HPm.out A' n c' _ (fun i => (fw i).toNat) (by omega) (own_arr_ints HO.out (fun i hi => by have := (okF_bounds (Hok.out i hi)).1; omega))
            (fun k hk => ⟨(HO.out.lt k hk).2, fun e => by obtain ⟨cs, hcs⟩ := HRr.out.has; exact own_apart HO.out hcs (by decide) (e ▸ hk)⟩)
            (fun i hi => by have := okF_bounds (Hok.out i hi); omega) (by have := HLs.out; omega)
          rw [Nat.zero_add, ← HLs.out] at hT
          have HT := Lib.hid hT; clear hT
          go_wp2_with fail
          refine HT.out.mono ?_
          rintro e w7 ⟨A7, c7, rfl, hO7, hR7, hC7⟩
          have hRq7 := HRq.out.other HRr.out hne.symm hC7
          have hO7w : w7.ownsRow w.heap.size 3 1 (.slice A' n c') n ((List.range n).map (fun i => .int .i64 (fw i))) := own_chg HO.out hC7 (fun k hk e => by obtain ⟨cs, hcs⟩ := HRr.out.has; exact own_apart HO.out hcs (by decide) (e ▸ hk))
          have hN7 : New w w7 := HN.out.trans hC7 (fun i hi e => by omega)
          clear HT HRq HRr HO HN
          have HO7 := Lib.hid hO7; clear hO7
          have HOw := Lib.hid hO7w; clear hO7w
          have HRr := Lib.hid hR7; clear hR7
          have HRq := Lib.hid hRq7; clear hRq7
          have HN := Lib.hid hN7; clear hN7 hC7
          go_wp2_with fail
          refine (err_any br bs _ 0 w7 HRr.out).mono ?_
          rintro e w' ⟨rfl, rfl⟩
          go_wp2_with fail
          refine (rd_left br bs _ 0 w7 HRr.out (by omega) hpl2).mono ?_
          rintro e w' ⟨rfl, kk, rfl⟩
          have hd8 : decide ((8 : Int) ≤ 8 * (bs.length : Int) - (L.length : Int)) = false := by simp; omega
          go_wp2_with fail
          go_loopg [9] n (fun gk i wr => ∃ k : Nat, k ≤ n ∧ gk = n - k ∧ i = .int .i64 k ∧ Rd wr bq bs (sumN (fun i => (fw i).toNat) k) 0 ∧ Chg (· = bq) w7 wr)
          case atStart => exact ⟨0, by omega, by omega, rfl, HRq.out, (Chg.refl _ _).drewN _⟩
          case round =>
            obtain ⟨k, hk, rfl, rfl, hR, hC⟩ := hrel
            obtain ⟨csq, hcsq⟩ := HRq.out.has
            have Hcsq := Lib.hid hcsq; clear hcsq
            have hrow : ∀ wx, Chg (· = bq) w7 wx → wx.ownsRow w.heap.size 3 1 (.slice A' n c') n ((List.range n).map (fun i => .int .i64 (fw i))) := fun wx hx => own_chg HOw.out hx (fun k hk e => own_apart HOw.out Hcsq.out (by decide) (e ▸ hk))
            have hrow7 : ∀ wx, Chg (· = bq) w7 wx → wx.ownsRow w6.heap.size 3 1 (.slice A7 n c7) n ((List.range n).map (nums bs 0 (fun i => (fw i).toNat))) := fun wx hx => own_chg HO7.out hx (fun k hk e => own_apart HO7.out Hcsq.out (by decide) (e ▸ hk))
            have Hrow := Lib.hid hrow; clear hrow
            have Hrow7 := Lib.hid hrow7; clear hrow7
            by_cases hlt : k < n
            · obtain ⟨gw, rfl, hcw⟩ := own_some (Hrow.out wr hC) hlt
              replace hcw := hcw k hlt
              have hokk := okF_bounds (Hok.out k hlt)
              obtain ⟨x, hx⟩ : ∃ x : Nat, (x : Int) = fw k := ⟨(fw k).toNat, by omega⟩
              have hxn : (fw k).toNat = x := by omega
              simp [hlt] at hcw
              rw [← hx] at hcw hokk
              have hsm := sumN_mono (fun i => (fw i).toNat) (show k + 1 ≤ n by omega)
              have hs1 : sumN (fun i => (fw i).toNat) (k + 1) = sumN (fun i => (fw i).toNat) k + x := by rw [← hxn]; rfl
              rw [← HLs.out, hs1] at hsm
              have hnum := numAt_fbits fw fv n k hlt (Hok.out k hlt)
              rw [← HL.out, ← HBs.out, hxn] at hnum
              have Hnum := Lib.hid hnum; clear hnum
              have Hs1 := Lib.hid hs1; clear hs1
              obtain ⟨p, hp⟩ : ∃ p, p = sumN (fun i => (fw i).toNat) k := ⟨_, rfl⟩
              rw [← hp] at hR hsm Hs1 Hnum
              have Hp := Lib.hid hp; clear hp
              have hT := take_ok bq bs p (wr.alloc (.cells #[.int .i64 (x : Int)] 3)) (hR.new ((Chg.refl _ _).alloc _)) (by omega) HPm.out (some ⟨wr.heap.size, 0, none⟩) 1 1 (· = wr.heap.size) (fun _ => x) (by omega)
                (fun i hi => by
                  obtain ⟨a, ha, hb, hc⟩ := Arr.of_has (Has.new wr 3 #[.int .i64 (x : Int)]) (n := 1) (by simp) i hi
                  refine ⟨a, ha, hb, ?_⟩
                  rw [hc]
                  match i, hi with
                  | 0, _ => rfl)
                (fun k hk => by subst hk; exact ⟨by simp, by obtain ⟨cs, hcs⟩ := hR.has; have := hcs.lt; omega⟩)
                (fun i hi => by omega) (by simp only [sumN]; omega)
              have HT := Lib.hid hT; clear hT
              have HR := Lib.hid hR; clear hR
              have HC := Lib.hid hC; clear hC
              have Hx := Lib.hid hx; clear hx
              have Hxn := Lib.hid hxn; clear hxn
              clear hokk
              go_wp2_with fail
              refine HT.out.mono ?_
              rintro e w8 ⟨A8, c8, rfl, hO8, hR8, hC8⟩
              have hC8' : Chg (· = bq) w7 w8 := (HC.out.alloc _).trans hC8 (fun _ _ e => e)
              obtain ⟨g8, rfl, hc8⟩ := own_some hO8 (show 0 < 1 by omega)
              replace hc8 := hc8 0 (by omega)
              obtain ⟨g7, rfl, hc7⟩ := own_some (Hrow7.out w8 hC8') hlt
              replace hc7 := hc7 k hlt
              have e0 : (fw k).toNat = x := Hxn.out
              have hb0 := (okF_bounds (Hok.out k hlt)).2.2.1
              obtain ⟨y, hy⟩ : ∃ y : Nat, fv k = (y : Int) := ⟨(fv k).toNat, by omega⟩
              have e1 : numAt bs p x = y := by have := Hnum.out; omega
              have e2 : p = sumN (fun i => (fw i).toNat) k := Hp.out
              simp [hlt, nums, iV, e0, ← e2, e1, sumN] at hc8 hc7
              obtain ⟨a, rfl, hab, h1, h2⟩ := (HA.out.chg (HN.out.trans hC8' (fun i hi e => by omega)) (fun k hk => ⟨hk, fun f => f⟩)) k hlt
              rw [hy] at h2
              have HR8 : Hid (Rd w8 bq bs (sumN (fun i => (fw i).toNat) (k + 1)) 0) := by
                rw [Hs1.out]
                have := hR8
                simp only [sumN, Nat.zero_add] at this
                exact this
              have HC8 := Lib.hid hC8'
              clear hR8 hC8 hC8' hO8 e0 e1 e2 hy hb0 h1 HT HC HR hcw
              go_wp2_with fail
              go_quiet (fail)
              go_wp2
              go_roundg (n - (k + 1))
              case measure => omega
              case rel => exact ⟨k + 1, by omega, rfl, by go_num, HR8.out, HC8.out.drewN _⟩
            · obtain rfl : n = k := by omega
              have hRr := HRr.out.other HRq.out hne hC
              rw [← HLs.out] at hR
              have HRr' := Lib.hid (fun kk => rd_left br bs _ 0 (wr.drewN kk) (hRr.chg (S := fun _ => False) ((Chg.refl _ _).drewN kk) (fun _ _ f => f)) (by omega) hpl2)
              have HRq' := Lib.hid (rd_left bq bs _ 0 wr hR (by omega) hpl2)
              have HC := Lib.hid hC
              clear hR hRr hC
              go_wp2_with fail
              refine HRq'.out.mono ?_
              rintro e w' ⟨rfl, k1, rfl⟩
              go_wp2_with fail
              refine (HRr'.out k1).mono ?_
              rintro e w' ⟨rfl, k2, rfl⟩
              go_wp2_with fail
              go_ret
              exact ⟨by simp, ((HN.out.trans HC.out (fun i hi e => by omega)).drewN _)⟩
    · obtain ⟨j, hj, hbad⟩ : ∃ j, j < n ∧ okF (fw j) (fv j) = false := by
        apply Classical.byContradiction
        intro hno
        apply hok
        intro j hj
        cases h : okF (fw j) (fv j) with
        | true => rfl
        | false => exact absurd ⟨j, hj, h⟩ hno
      have Hbad := Lib.hid hbad; clear hbad hok
      go_enter Try.func5, Try.ntmps5
      go_wp2_with fail
      refine (awake_any _).mono ?_
      rintro e w1 ⟨rfl, hN1⟩
      have HN1 := Lib.hid hN1; clear hN1
      go_wp2_with fail
      refine (Put_no _ _ A n c fw fv _ (HA.out.chg (HN1.out.alloc _) (fun k hk => ⟨hk, fun f => f⟩)) (fun k hk => ?_) (by omega) j hj Hbad.out).mono ?_
      · have := (HN1.out.alloc (.cells #[.slice none 0 0, .int .i64 0] 26)).size; omega
      rintro e w2 ⟨rfl, hN2⟩
      have hW2 := (Wr_zero w1).new hN2
      have HN2 := Lib.hid hN2; clear hN2
      have HL := Lib.hid (Len_any _ _ _ _ hW2); clear hW2
      go_wp2_with (go_at_call 11; refine HL.out.mono ?_; rintro e w' ⟨rfl, rfl⟩)
      go_ret
      exact ⟨rfl, (HN1.out.alloc _).then_new HN2.out⟩
  · go_enter Try.func5, Try.ntmps5
    go_wp2_with fail
    refine (awake_any _).mono ?_
    rintro e w1 ⟨rfl, hN1⟩
    have HN1 := Lib.hid hN1; clear hN1
    go_wp2_with fail
    refine (awake_any _).mono ?_
    rintro e w2 ⟨rfl, hN2⟩
    have HN2 := Lib.hid hN2; clear hN2
    go_wp2_with fail
    go_ret
    exact ⟨rfl, HN1.out.then_new HN2.out⟩
theorem back_law {W : World} (A : Option Addr) (n c : Nat) (h : ∃ fw fv, Flds W (· < W.heap.size) A n fw fv ∧ n ≤ c ∧ c ≤ maxLen ∧ (A = none → n = 0 ∧ c = 0)) :
    Calls Try.prog 5 #[.slice A n c] W fun e w' => e = .returned (.bool true) ∧ New W w' := by
  obtain ⟨fw, fv, h1, _⟩ := h
  exact back_walk A n c fw fv W h1
end Go.Proofs.Ytemhcfbdpplcgaa
