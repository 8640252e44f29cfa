/-
  What the law BitsJoins does: it returns true and turns nothing that was there.
-/
import Derived.Test.YtemhcfbdpplcgaaLawB
namespace Go.Proofs.Ytemhcfbdpplcgaa
open Go.RowKit
theorem Try.info31 : (Try.prog.info? 31).map (fun i => (i.zero, i.size, i.bytes)) = some (some (.agg #[.int .i64 0, .int .i64 0]), 2, 16) := by kernel_rfl
theorem bad_or (fw fv : Nat → Int) (n : Nat) : (∀ j, j < n → okF (fw j) (fv j) = true) ∨ ∃ j, j < n ∧ okF (fw j) (fv j) = false := by
  by_cases hok : ∀ j, j < n → okF (fw j) (fv j) = true
  · exact Or.inl hok
  · refine Or.inr (Classical.byContradiction fun hno => hok fun j hj => ?_)
    cases h : okF (fw j) (fv j) with
    | true => rfl
    | false => exact absurd ⟨j, hj, h⟩ hno
set_option maxRecDepth 100000 in
set_option maxHeartbeats 4000000 in
theorem joins_walk (A : Option Addr) (n c : Nat) (fw fv : Nat → Int) (B : Option Addr) (m d : Nat) (gw gv : Nat → Int) (w : World) (hA : Flds w (· < w.heap.size) A n fw fv) (hnA : A = none → n = 0 ∧ c = 0) (hB : Flds w (· < w.heap.size) B m gw gv) (hnB : B = none → m = 0 ∧ d = 0) :
    Calls Try.prog 6 #[.slice A n c, .slice B m d] w fun e w' => e = .returned (.bool true) ∧ New w w' := by
  have HA := Lib.hid hA; clear hA
  have HB := Lib.hid hB; clear hB
  have HnA := Lib.hid hnA; clear hnA
  have HnB := Lib.hid hnB; clear hnB
  by_cases h200 : n ≤ 200 ∧ m ≤ 200
  · obtain ⟨hn2, hm2⟩ := h200
    have hd1 : decide ((200 : Int) < (n : Int)) = false := by simp; omega
    have hd2 : decide ((200 : Int) < (m : Int)) = false := by simp; omega
    have hW0 : ∀ w1 : World, Wr ((w1.alloc (.cells #[.slice none 0 0, .int .i64 0] 26)).alloc (.cells #[.slice none 0 0, .int .i64 0] 26)) w1.heap.size (.slice none 0 0) [] := fun w1 => (Wr_zero w1).new ((Chg.refl _ _).alloc _)
    have HW0 := Lib.hid hW0; clear hW0
    rcases bad_or fw fv n with hok | ⟨j, hj, hbad⟩
    · rcases bad_or gw gv m with hok2 | ⟨j, hj, hbad⟩
      · have Hok := Lib.hid hok; clear hok
        have Hok2 := Lib.hid hok2; clear hok2
        obtain ⟨i0, hi, hz0, hz1, hz2⟩ := info_parts Try.info31
        go_enter Try.func6, Try.ntmps6
        go_wp2_with fail
        refine (awake_any _).mono ?_
        rintro e w1 ⟨rfl, hN1⟩
        have HN1 := Lib.hid hN1; clear hN1
        go_wp2_with fail
        have hsz := HN1.out.size
        refine (Put_ok _ _ _ _ A n c fw fv _ (HW0.out w1) (HA.out.chg ((HN1.out.alloc _).alloc _) (fun k hk => ⟨hk, fun f => f⟩)) (fun k hk => ⟨by simp; omega, by omega, by simp [Value.ownBlock]⟩) (by simp; omega) Hok.out).mono ?_
        rintro e w2 ⟨rfl, v2, hW2, hX2⟩
        rw [List.nil_append] at hW2
        have hs2 := hX2.1.size
        simp only [World.size_alloc] at hs2
        have hy2 : Has w2 (w1.heap.size + 1) 26 #[.slice none 0 0, .int .i64 0] := by
          have h0 := Has.new (w1.alloc (.cells #[.slice none 0 0, .int .i64 0] 26)) 26 #[.slice none 0 0, .int .i64 0]
          rw [World.size_alloc] at h0
          refine h0.chg hX2.1 ?_
          rintro (e | e)
          · omega
          · simp [Value.ownBlock] at e
        have hN2 : New w w2 := ((HN1.out.alloc _).alloc _).trans hX2.1 fun i hi hk => by
          rcases hk with rfl | hk
          · omega
          · simp [Value.ownBlock] at hk
        have hF2 : ∀ k, v2.ownBlock = some k → w1.heap.size + 2 ≤ k := by
          rcases hX2.2 with e | e
          · intro k hk; rw [e] at hk; simp [Value.ownBlock] at hk
          · intro k hk; have := e k hk; simp only [World.size_alloc] at this; omega
        have HW2 := Lib.hid hW2; clear hW2 hX2
        have HY2 := Lib.hid hy2; clear hy2
        have HN2 := Lib.hid hN2; clear hN2
        have HF2 := Lib.hid hF2; clear hF2
        go_wp2_with fail
        refine (Put_ok _ _ _ _ B m d gw gv _ HW2.out (HB.out.chg HN2.out (fun k hk => ⟨hk, fun f => f⟩)) (fun k hk => ⟨by omega, by omega, fun e => by have := HF2.out k e; omega⟩) (by have := fbits_len fw fv n Hok.out; omega) Hok2.out).mono ?_
        rintro e w3 ⟨rfl, v3, hW3, hX3⟩
        have hs3 := hX3.1.size
        have hY3 : Wr w3 (w1.heap.size + 1) (.slice none 0 0) [] := by
          refine ⟨HY2.out.chg hX3.1 ?_, World.ownsRow_nil _ _ _ _⟩
          rintro (e | e)
          · omega
          · have := HF2.out _ e; omega
        have hN3 : New w w3 := HN2.out.trans hX3.1 fun i hi hk => by
          rcases hk with rfl | hk
          · omega
          · have := HF2.out i hk; omega
        have hF3 : ∀ k, v3.ownBlock = some k → w1.heap.size + 2 ≤ k := by
          rcases hX3.2 with e | e
          · intro k hk; rw [e] at hk; exact HF2.out k hk
          · intro k hk; have := e k hk; omega
        have HW3 := Lib.hid hW3; clear hW3 hX3
        have HY3 := Lib.hid hY3; clear hY3
        have HN3 := Lib.hid hN3; clear hN3
        have HF3 := Lib.hid hF3; clear hF3
        obtain ⟨bx, hbx⟩ : ∃ bx, bx = w1.heap.size := ⟨_, rfl⟩
        rw [← hbx] at HW3 HY3 HF3 hs2 hsz ⊢
        clear hbx HW2 HN2 HF2 HY2 HN1 HW0
        go_wp2_with fail
        have hs3' : w.heap.size ≤ w3.heap.size := HN3.out.size
        have hll : (fbits fw fv n ++ fbits gw gv m).length ≤ 12800 := by
          have h1 := fbits_len fw fv n Hok.out
          have h2 := fbits_len gw gv m Hok2.out
          rw [List.length_append]; omega
        have hokc : ∀ j, j < n + m → okF (fcat n fw gw j) (fcat n fv gv j) = true := by
          intro j hj
          unfold fcat
          by_cases h : j < n
          · rw [if_pos h, if_pos h]; exact Hok.out j h
          · rw [if_neg h, if_neg h]; exact Hok2.out _ (by omega)
        have Hokc := Lib.hid hokc; clear hokc
        obtain ⟨L, hL⟩ : ∃ L, L = fbits fw fv n ++ fbits gw gv m := ⟨_, rfl⟩
        have hLc := fbits_cat fw fv gw gv n m
        rw [← hL] at HW3 hll hLc
        have HL := Lib.hid hL; clear hL
        have HLc := Lib.hid hLc; clear hLc
        have hxlt : bx + 1 < w3.heap.size := by omega
        obtain ⟨pl, hpl⟩ : ∃ pl, pl = (pack L).length := ⟨_, rfl⟩
        have hBy : ∀ b v wx, Wr wx b v L → Calls Try.prog 12 #[.pointer (some ⟨b, 0, none⟩)] wx fun e w' => ∃ A' c', e = .returned (.slice A' pl c') ∧ w'.ownsRow wx.heap.size 5 1 (.slice A' pl c') pl ((pack L).map bV) ∧ New wx w' := by
          rw [hpl]; exact fun b v wx h => Bytes_any b v L wx h (by omega)
        have HBy := Lib.hid hBy; clear hBy
        have Hpl := Lib.hid hpl; clear hpl
        obtain ⟨st, hst⟩ : ∃ st, st = bstr (pack L) := ⟨_, rfl⟩
        have hcv : ∀ (wx : World) A' c' base, wx.ownsRow base 5 1 (.slice A' pl c') pl ((pack L).map bV) → (convert 24 9 (.slice A' pl c')).run Try.prog wx = .ok (.string st) wx := by
          rw [hst]; exact fun wx A' c' base h => own_string Try.underlying24 Try.underlying5 Try.underlying9 h
        have Hcv := Lib.hid hcv; clear hcv hst
        obtain ⟨ll, hll'⟩ : ∃ ll, ll = L.length := ⟨_, rfl⟩
        have hLe : ∀ b v wx, Wr wx b v L → Calls Try.prog 11 #[.pointer (some ⟨b, 0, none⟩)] wx fun e w' => e = .returned (.int .i64 ll) ∧ wx = w' := by
          rw [hll']; exact fun b v wx h => Len_any b v L wx h
        have HLe := Lib.hid hLe; clear hLe
        have Hll := Lib.hid hll'; clear hll'
        go_cut [50] (fun s50 wc => s50 = .bool false ∧ Wr wc bx v3 L ∧ New w wc)
        case first =>
          go_region_law (first
            | (refine step_append_src rfl (.tmp 32) (.tmp 33) 27 rfl w3.heap.size 31 i0 (.agg #[.int .i64 0, .int .i64 0]) 2 16 Try.underlying27 hi hz0 hz1 hz2 rfl (by decide) (.slice (some ⟨w3.heap.size, 0, none⟩) 0 0) 0 [] (by simp [Act.eval]) (World.ownsRow_made w3 #[] 0 (Nat.le_refl _) (by decide) rfl) A n c (fcells fw fv n) (by simp [Act.eval]) HnA.out (fcells_len _ _ _) (HA.out.chg ((HN3.out.alloc _).drew) (fun k hk => ⟨hk, fun f => f⟩)).cells (fcells_one _ _ _) (by simp only [maxLen]; omega) (by omega) (by simp) ?_
               intro A4 c4 w4 hO4 hC4 hF4
               have HN4 : Hid (New w3 w4) := (((Chg.refl _ _).alloc _).drew).trans hC4 (fun i hi hk => by simp [Value.ownBlock] at hk; omega)
               have HO4 := Lib.hid hO4
               clear hO4 hC4 hF4)
            | (refine step_append_src rfl (.tmp 34) (.tmp 35) 27 rfl w3.heap.size 31 i0 (.agg #[.int .i64 0, .int .i64 0]) 2 16 Try.underlying27 hi hz0 hz1 hz2 rfl (by decide) (.slice A4 (0 + n) c4) (0 + n) ([] ++ fcells fw fv n) (by simp [Act.eval]) HO4.out B m d (fcells gw gv m) (by simp [Act.eval]) HnB.out (fcells_len _ _ _) (HB.out.chg (HN3.out.then_new HN4.out) (fun k hk => ⟨hk, fun f => f⟩)).cells (fcells_one _ _ _) (by simp only [maxLen]; omega) (by omega) HN4.out.size ?_
               intro A5 c5 w5 hO5 hC5 hF5
               have HN5 : Hid (New w3 w5) := HN4.out.trans hC5 (fun i hi hk => by have := (HO4.out.lt i hk).1; omega)
               simp only [Nat.zero_add, List.nil_append] at hO5 ⊢
               rw [← fcells_cat] at hO5
               have HO5 := Lib.hid hO5
               clear hO5 hC5 hF5)
            | (go_simp; go_at_call 10
               refine (Put_ok (bx + 1) _ (.slice none 0 0) [] A5 (n + m) c5 (fcat n fw gw) (fcat n fv gv) w5 (HY3.out.new HN5.out) (Flds.of_own HO5.out) (fun k hk => ?_) (by simp; omega) Hokc.out).mono ?_
               · have h1 := HO5.out.lt k hk; exact ⟨h1.2, by omega, by simp [Value.ownBlock]⟩
               rintro e w6 ⟨rfl, v6, hW6, hX6⟩
               rw [List.nil_append, HLc.out] at hW6
               have HC6 : Hid (Chg (· = bx + 1) w5 w6) := hX6.1.mono (fun i hi hk => by
                 rcases hk with hk | hk
                 · exact hk
                 · simp [Value.ownBlock] at hk)
               have HX6 : Hid (Wr w6 bx v3 L) := (HW3.out.new HN5.out).chg HC6.out (by omega) (fun k hk e => by have := HF3.out k hk; omega)
               have HW6 := Lib.hid hW6
               clear hW6 hX6)
            | (go_simp; go_at_call 12
               with_reducible refine (HBy.out bx v3 w6 HX6.out).mono ?_
               rintro e w7 ⟨A7, c7, rfl, hO7, hN7⟩
               have hcv7 := Hcv.out w7 A7 c7 _ hO7
               have HX7 := Lib.hid (HX6.out.new hN7)
               have HW7 := Lib.hid (HW6.out.new hN7)
               have HN7 := Lib.hid hN7
               have HO7 := Lib.hid hO7
               clear hN7 hO7)
            | (go_simp; go_at_call 12
               with_reducible refine (HBy.out (bx + 1) v6 w7 HW7.out).mono ?_
               rintro e w8 ⟨A8, c8, rfl, hO8, hN8⟩
               have hcv7' := Hcv.out w8 A7 c7 _ (own_new HO7.out hN8)
               have hcv8 := Hcv.out w8 A8 c8 _ hO8
               have HX8 := Lib.hid (HX7.out.new hN8)
               have HW8 := Lib.hid (HW7.out.new hN8)
               have HN8 := Lib.hid hN8
               clear hN8 hO8)
            | (go_simp; go_at_call 11
               with_reducible refine (HLe.out bx v3 w8 HX8.out).mono ?_
               rintro e w9 ⟨rfl, rfl⟩)
            | (go_simp; go_at_call 11
               with_reducible refine (HLe.out (bx + 1) v6 w8 HW8.out).mono ?_
               rintro e w9 ⟨rfl, rfl⟩)
            | fail)
          all_goals
            go_wp2_with fail
            go_meet
            case rel =>
              refine ⟨by simp, HX8.out, ?_⟩
              exact (((HN3.out.then_new HN5.out).trans HC6.out (fun i hi e => by omega)).then_new HN7.out).then_new HN8.out
        case rest =>
          obtain ⟨rfl, hW, hN⟩ := hcut
          clear HW3 HY3 HN3
          have HW := Lib.hid hW; clear hW
          have HN := Lib.hid hN; clear hN
          have hpl2 : L.length ≤ 8 * (pack L).length := by simp; omega
          have hpl3 : (pack L).length ≤ 2000 := by simp; omega
          have hLs := fbits_sum (fcat n fw gw) (fcat n fv gv) (n + m)
          rw [HLc.out] at hLs
          have HLs := Lib.hid hLs; clear hLs
          have HPm := Lib.hid (pack_mem L)
          obtain ⟨bs, hbs⟩ : ∃ bs, bs = pack L := ⟨_, rfl⟩
          rw [← hbs] at hpl2 hpl3 HPm Hpl HBy
          have HBs := Lib.hid hbs; clear hbs
          go_wp2_with fail
          refine (HBy.out bx v3 wc HW.out).mono ?_
          rintro e w9 ⟨A9, c9, rfl, hO9, hN9⟩
          have HN9 := Lib.hid hN9; clear hN9
          have HO9 := Lib.hid hO9; clear hO9
          have hpl4 : bs.length = pl := Hpl.out.symm
          subst hpl4
          go_wp2_with fail
          refine (Read_any A9 _ c9 _ bs w9 (own_arr_bytes HO9.out) rfl (own_nil HO9.out) (by omega)).mono ?_
          rintro e w10 ⟨br, rfl, hR, hN10, hbr⟩
          have hbrw : w.heap.size ≤ br := by have := (HN.out.then_new HN9.out).size; omega
          have hNw := HN.out.then_new (HN9.out.then_new hN10)
          clear HN HN9 hN10 HO9 HW HBy Hcv HLe hbr
          have HN := Lib.hid hNw; clear hNw
          have HR := Lib.hid hR; clear hR
          go_wp2_with fail
          go_loopg [8] (n + m) (fun gk i wr => ∃ k : Nat, k ≤ n + m ∧ gk = n + m - k ∧ i = .int .i64 k ∧ Rd wr br bs (sumN (fun i => (fcat n fw gw i).toNat) k) 0 ∧ Chg (· = br) w10 wr)
          case atStart => exact ⟨0, by omega, by omega, rfl, HR.out, Chg.refl _ _⟩
          case round =>
            obtain ⟨k, hk, rfl, rfl, hR', hC⟩ := hrel
            by_cases hlt : k < n + m
            · have hokk := okF_bounds (Hokc.out k hlt)
              obtain ⟨x, hx⟩ : ∃ x : Nat, (x : Int) = fcat n fw gw k := ⟨(fcat n fw gw k).toNat, by omega⟩
              obtain ⟨y, hy⟩ : ∃ y : Nat, (y : Int) = fcat n fv gv k := ⟨(fcat n fv gv k).toNat, by omega⟩
              have hxn : (fcat n fw gw k).toNat = x := by omega
              have hyn : (fcat n fv gv k).toNat = y := by omega
              rw [← hx] at hokk
              have hsm := sumN_mono (fun i => (fcat n fw gw i).toNat) (show k + 1 ≤ n + m by omega)
              have hs1 : sumN (fun i => (fcat n fw gw i).toNat) (k + 1) = sumN (fun i => (fcat n fw gw i).toNat) k + x := by rw [← hxn]; rfl
              rw [← HLs.out, hs1] at hsm
              have hnum := numAt_fbits (fcat n fw gw) (fcat n fv gv) (n + m) k hlt (Hokc.out k hlt)
              rw [HLc.out, ← HBs.out, hxn, hyn] at hnum
              have Hnum := Lib.hid hnum; clear hnum
              have Hs1 := Lib.hid hs1; clear hs1
              obtain ⟨p, hp⟩ : ∃ p, p = sumN (fun i => (fcat n fw gw i).toNat) k := ⟨_, rfl⟩
              rw [← hp] at hR' hsm Hs1 Hnum
              clear hp hxn hyn
              have HR' := Lib.hid hR'; clear hR'
              obtain ⟨hx1, hx2, _⟩ := hokk
              have HC := Lib.hid hC; clear hC
              have Hx := Lib.hid hx; clear hx
              have Hy := Lib.hid hy; clear hy
              have hT : ∀ wy hh, New wr wy → wy.heap.size = hh → Calls Try.prog 16 #[.pointer (some ⟨br, 0, none⟩), .slice (some ⟨hh, 0, none⟩) 1 1] (wy.alloc (.cells #[.int .i64 (x : Int)] 3)) fun e w' =>
                  ∃ g c', e = .returned (.slice (some ⟨g, 0, none⟩) 1 c') ∧ w'.cell? ⟨g, 0, none⟩ = some (.int .i64 (y : Int)) ∧ Rd w' br bs (p + x) 0 ∧ Chg (· = br) wy w' := by
                intro wy hh hwy hhh
                subst hhh
                refine (take_ok br bs p (wy.alloc (.cells #[.int .i64 (x : Int)] 3)) (HR'.out.new (hwy.alloc _)) (by omega) HPm.out (some ⟨wy.heap.size, 0, none⟩) 1 1 (· = wy.heap.size) (fun _ => x) (by omega)
                  (fun i hi => by
                    obtain ⟨a, ha, hb, hc⟩ := Arr.of_has (Has.new wy 3 #[.int .i64 (x : Int)]) (n := 1) (by simp) i hi
                    refine ⟨a, ha, hb, ?_⟩
                    rw [hc]
                    match i, hi with
                    | 0, _ => rfl)
                  (fun k hk => by subst hk; exact ⟨by simp, by obtain ⟨cs, hcs⟩ := HR'.out.has; have := hcs.lt; have := hwy.size; omega⟩)
                  (fun i hi => by omega) (by simp only [sumN]; omega)).mono ?_
                rintro e w' ⟨A', c', rfl, hO, hR2, hC2⟩
                obtain ⟨g, rfl, hc⟩ := own_some hO (show 0 < 1 by omega)
                refine ⟨g, c', rfl, ?_, ?_, Chg.new_then ((Chg.refl _ _).alloc _) hC2⟩
                · rw [hc 0 (by omega)]
                  simp [nums, iV, sumN, Hnum.out]
                · simpa [sumN] using hR2
              have HT := Lib.hid hT; clear hT
              by_cases hkn : k < n
              · obtain ⟨a, rfl, hab, h1, h2⟩ := (HA.out.chg (HN.out.trans HC.out (fun i hi e => by omega)) (fun k hk => ⟨hk, fun f => f⟩)) k hkn
                have ex := Hx.out
                have ey := Hy.out
                simp only [fcat, hkn, if_true] at ex ey
                rw [← ex] at h1
                rw [← ey] at h2
                clear ex ey
                have h1' : ∀ o, (wr.alloc o).cell? (a.add (k * 2)) = some (.int .i64 (x : Int)) := fun o => by rw [World.cell?_alloc_lt _ _ _ (World.block_lt_of_cell? _ _ h1)]; exact h1
                have h2' : ∀ o, (wr.alloc o).cell? ⟨(a.add (k * 2)).block, (a.add (k * 2)).off + 1, none⟩ = some (.int .i64 (y : Int)) := fun o => by rw [World.cell?_alloc_lt _ _ _ (World.block_lt_of_cell? _ _ h2)]; exact h2
                clear h1 h2
                go_wp2_with fail
                with_reducible refine (HT.out _ _ ((Chg.refl _ _).alloc _) (World.size_alloc _ _)).mono ?_
                rintro e w11 ⟨g, c', rfl, hc, hR2, hC2⟩
                have hbl : br < wr.heap.size := by obtain ⟨cs, hcs⟩ := HR'.out.has; exact hcs.lt
                have hfc := ((Has.new wr 31 #[.int .i64 (x : Int), .int .i64 (y : Int)]).chg hC2 (by omega)).cell 1
                simp at hfc
                have HR2 := Lib.hid hR2; clear hR2
                have HC2 : Hid (Chg (· = br) w10 w11) := (HC.out.alloc _).trans hC2 (fun _ _ e => e)
                clear hC2 HT h1' h2'
                go_wp2_with fail
                go_quiet (fail)
                go_wp2
                go_roundg (n + m - (k + 1))
                case measure => omega
                case rel => exact ⟨k + 1, by omega, rfl, by go_num, by rw [Hs1.out]; exact HR2.out, HC2.out.drewN _⟩
              · have hkm : k - n < m := by omega
                obtain ⟨a, rfl, hab, h1, h2⟩ := (HB.out.chg (HN.out.trans HC.out (fun i hi e => by omega)) (fun k hk => ⟨hk, fun f => f⟩)) (k - n) hkm
                have ex := Hx.out
                have ey := Hy.out
                simp only [fcat, hkn, if_false] at ex ey
                rw [← ex] at h1
                rw [← ey] at h2
                clear ex ey
                have hd0 : 0 ≤ (k : Int) - (n : Int) := by omega
                have hd1 : (k : Int) - (n : Int) < (m : Int) := by omega
                have hdn : ((k : Int) - (n : Int)).toNat = k - n := by omega
                have h1' : ∀ o, (wr.alloc o).cell? (a.add ((k - n) * 2)) = some (.int .i64 (x : Int)) := fun o => by rw [World.cell?_alloc_lt _ _ _ (World.block_lt_of_cell? _ _ h1)]; exact h1
                have h2' : ∀ o, (wr.alloc o).cell? ⟨(a.add ((k - n) * 2)).block, (a.add ((k - n) * 2)).off + 1, none⟩ = some (.int .i64 (y : Int)) := fun o => by rw [World.cell?_alloc_lt _ _ _ (World.block_lt_of_cell? _ _ h2)]; exact h2
                clear h1 h2
                go_wp2_with fail
                with_reducible refine (HT.out _ _ ((Chg.refl _ _).alloc _) (World.size_alloc _ _)).mono ?_
                rintro e w11 ⟨g, c', rfl, hc, hR2, hC2⟩
                have hbl : br < wr.heap.size := by obtain ⟨cs, hcs⟩ := HR'.out.has; exact hcs.lt
                have hfc := ((Has.new wr 31 #[.int .i64 (x : Int), .int .i64 (y : Int)]).chg hC2 (by omega)).cell 1
                simp at hfc
                have HR2 := Lib.hid hR2; clear hR2
                have HC2 : Hid (Chg (· = br) w10 w11) := (HC.out.alloc _).trans hC2 (fun _ _ e => e)
                clear hC2 HT h1' h2'
                go_wp2_with fail
                go_quiet (fail)
                go_wp2
                go_roundg (n + m - (k + 1))
                case measure => omega
                case rel => exact ⟨k + 1, by omega, rfl, by go_num, by rw [Hs1.out]; exact HR2.out, HC2.out.drewN _⟩
            · obtain rfl : k = n + m := by omega
              have HE := Lib.hid (err_any br bs _ 0 wr hR'); clear hR'
              have HC := Lib.hid hC; clear hC
              go_wp2_with fail
              refine HE.out.mono ?_
              rintro e w' ⟨rfl, rfl⟩
              go_wp2_with fail
              go_ret
              exact ⟨rfl, HN.out.trans HC.out (fun i hi e => by omega)⟩
      · have Hok := Lib.hid hok; clear hok
        have Hbad := Lib.hid hbad; clear hbad
        go_enter Try.func6, Try.ntmps6
        go_wp2_with fail
        refine (awake_any _).mono ?_
        rintro e w1 ⟨rfl, hN1⟩
        have HN1 := Lib.hid hN1; clear hN1
        go_wp2_with fail
        have hsz := HN1.out.size
        refine (Put_ok _ _ _ _ A n c fw fv _ (HW0.out w1) (HA.out.chg ((HN1.out.alloc _).alloc _) (fun k hk => ⟨hk, fun f => f⟩)) (fun k hk => ⟨by simp; omega, by omega, by simp [Value.ownBlock]⟩) (by simp; omega) Hok.out).mono ?_
        rintro e w2 ⟨rfl, v2, hW2, hX2⟩
        have hs2 := hX2.1.size
        simp only [World.size_alloc] at hs2
        have hN2 : New w w2 := ((HN1.out.alloc _).alloc _).trans hX2.1 fun i hi hk => by
          rcases hk with rfl | hk
          · omega
          · simp [Value.ownBlock] at hk
        have HN2 := Lib.hid hN2; clear hN2 hW2 hX2
        go_wp2_with fail
        refine (Put_no _ _ B m d gw gv _ (HB.out.chg HN2.out (fun k hk => ⟨hk, fun f => f⟩)) (fun k hk => by omega) (by omega) j hj Hbad.out).mono ?_
        rintro e w3 ⟨rfl, hN3⟩
        have HN3 := Lib.hid hN3; clear hN3
        go_wp2_with fail
        go_ret
        exact ⟨rfl, HN2.out.then_new HN3.out⟩
    · have Hbad := Lib.hid hbad; clear hbad
      go_enter Try.func6, Try.ntmps6
      go_wp2_with fail
      refine (awake_any _).mono ?_
      rintro e w1 ⟨rfl, hN1⟩
      have HN1 := Lib.hid hN1; clear hN1
      have hsz := HN1.out.size
      go_wp2_with fail
      refine (Put_no _ _ A n c fw fv _ (HA.out.chg ((HN1.out.alloc _).alloc _) (fun k hk => ⟨hk, fun f => f⟩)) (fun k hk => by simp; omega) (by omega) j hj Hbad.out).mono ?_
      rintro e w3 ⟨rfl, hN3⟩
      have HN3 := Lib.hid hN3; clear hN3
      go_wp2_with fail
      go_ret
      exact ⟨rfl, ((HN1.out.alloc _).alloc _).then_new HN3.out⟩
  · by_cases hn2 : n ≤ 200
    · have hm2 : 200 < m := by omega
      have hd1 : decide ((200 : Int) < (n : Int)) = false := by simp; omega
      have hd2 : decide ((200 : Int) < (m : Int)) = true := by simp; omega
      clear h200
      go_enter Try.func6, Try.ntmps6
      go_wp2_with fail
      refine (awake_any _).mono ?_
      rintro e w1 ⟨rfl, hN1⟩
      have HN1 := Lib.hid hN1; clear hN1
      go_wp2_with fail
      refine (awake_any _).mono ?_
      rintro e w2 ⟨rfl, hN2⟩
      have HN2 := Lib.hid hN2; clear hN2
      go_wp2_with fail
      go_ret
      exact ⟨rfl, HN1.out.then_new HN2.out⟩
    · have hd1 : decide ((200 : Int) < (n : Int)) = true := by simp; omega
      clear h200
      go_enter Try.func6, Try.ntmps6
      go_wp2_with fail
      refine (awake_any _).mono ?_
      rintro e w1 ⟨rfl, hN1⟩
      have HN1 := Lib.hid hN1; clear hN1
      go_wp2_with fail
      refine (awake_any _).mono ?_
      rintro e w2 ⟨rfl, hN2⟩
      have HN2 := Lib.hid hN2; clear hN2
      go_wp2_with fail
      go_ret
      exact ⟨rfl, HN1.out.then_new HN2.out⟩
theorem joins_law {W : World} (A : Option Addr) (n c : Nat) (h : ∃ fw fv, Flds W (· < W.heap.size) A n fw fv ∧ n ≤ c ∧ c ≤ maxLen ∧ (A = none → n = 0 ∧ c = 0)) (B : Option Addr) (m d : Nat) (h' : ∃ fw fv, Flds W (· < W.heap.size) B m fw fv ∧ m ≤ d ∧ d ≤ maxLen ∧ (B = none → m = 0 ∧ d = 0)) :
    Calls Try.prog 6 #[.slice A n c, .slice B m d] W fun e w' => e = .returned (.bool true) ∧ New W w' := by
  obtain ⟨fw, fv, h1, _, _, h2⟩ := h
  obtain ⟨gw, gv, g1, _, _, g2⟩ := h'
  exact joins_walk A n c fw fv B m d gw gv W h1 h2 g1 g2
end Go.Proofs.Ytemhcfbdpplcgaa
