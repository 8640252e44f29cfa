/-
  What the law CardPlays does: it returns true and turns nothing that was there.
-/
import Derived.Test.YtkecgfgeajkmmaaAwake
import Derived.Test.YtkecgfgeajkmmaaRefW
import Derived.Test.YtkecgfgeajkmmaaOpenS
namespace Go.Proofs.Ytkecgfgeajkmmaa
open Go.RowKit
/-- one call of a script, in a later world -/
theorem Opr.get {W : World} {A : Option Addr} {i : Nat} {k m : Int} {bs : List Nat} (h : Opr W A i k m bs) : ∃ a LA ln lc, A = some a ∧ a.block < W.heap.size ∧ bs.length = ln ∧ (∀ x ∈ bs, x < 256) ∧ (LA = none → ln = 0 ∧ lc = 0) ∧ ln ≤ 140737488351232 ∧ (-9223372036854775808 ≤ m ∧ m ≤ 9223372036854775807) ∧
    (∀ wx, New W wx → wx.cell? (a.add (i * 3)) = some (.int .i64 k) ∧ wx.cell? ⟨(a.add (i * 3)).block, (a.add (i * 3)).off + 1, none⟩ = some (.int .i64 m) ∧ wx.cell? ⟨(a.add (i * 3)).block, (a.add (i * 3)).off + 2, none⟩ = some (.slice LA ln lc) ∧ Arr wx (· < W.heap.size) LA ln (fun j => bV (bs.getD j 0))) := by
  obtain ⟨a, v, rfl, hb, h0, h1, h2, ⟨⟨LA, lc, rfl, hA, hnil, hs, _⟩, hr⟩, hm⟩ := h
  have hb' : (a.add (i * 3)).block < W.heap.size := by rw [add_block]; exact hb
  exact ⟨a, LA, _, lc, rfl, hb, rfl, hs, hnil, hr, hm, fun wx hx => ⟨(hx.cell hb' (fun f => f)).trans h0, (hx.cell (p := ⟨(a.add (i * 3)).block, _, none⟩) hb' (fun f => f)).trans h1, (hx.cell (p := ⟨(a.add (i * 3)).block, _, none⟩) hb' (fun f => f)).trans h2, hA.new hx (fun k hk => hk)⟩⟩
theorem op_cells {w : World} {ob : Nat} {x y z : Value} (h : Has w ob 30 #[x, y, z]) : w.cell? ⟨ob, 1, none⟩ = some y ∧ w.cell? ⟨ob, 2, none⟩ = some z := ⟨(h.cell 1).trans rfl, (h.cell 2).trans rfl⟩
theorem op_kind {w : World} {ob : Nat} {x y z : Value} (h : Has w ob 30 #[x, y, z]) : w.cell? ⟨ob, 0, none⟩ = some x := (h.cell 0).trans rfl
/-- a byte of which all bits are turned is a byte -/
theorem turn_byte (y : Nat) (hy : y < 256) : ∃ z : Nat, bits .xor .u8 (y : Int) 255 = (z : Int) ∧ z < 256 := by
  have h := u8_xor_nat y 255 hy (by decide)
  exact ⟨y ^^^ 255, h, Nat.xor_lt_two_pow (n := 8) hy (by decide)⟩
theorem map_set_bV (ys : List Nat) (t z : Nat) : (ys.map bV).set t (.int .u8 (z : Int)) = (ys.set t z).map bV := by rw [List.map_set]; rfl
theorem set_small {ys : List Nat} {t z : Nat} (h : ∀ x ∈ ys, x < 256) (hz : z < 256) : ∀ x ∈ ys.set t z, x < 256 := by
  intro x hx
  rcases List.mem_or_eq_of_mem_set hx with h1 | h1
  · exact h x h1
  · omega
theorem own_byte {w : World} {base q c n t : Nat} {ys : List Nat} (h : w.ownsRow base 5 1 (.slice (some ⟨q, 0, none⟩) n c) n (ys.map bV)) (hy : ∀ y ∈ ys, y < 256) (ht : t < n) : ∃ y : Nat, w.cell? ⟨q, t, none⟩ = some (.int .u8 (y : Int)) ∧ y < 256 ∧ w.frozen? ⟨q, t, none⟩ = false := by
  have hl := own_length h
  refine ⟨ys.getD t 0, ?_, getD_lt ys hy t, own_free h t⟩
  have := h.cellAt t (by omega)
  rw [this, List.getElem?_map, List.getElem?_eq_getElem (by omega)]
  simp [bV, List.getElem?_eq_getElem (show t < ys.length by omega)]
theorem own_turn {w : World} {base q c n t z : Nat} {ys : List Nat} (h : w.ownsRow base 5 1 (.slice (some ⟨q, 0, none⟩) n c) n (ys.map bV)) : (w.setCell ⟨q, t, none⟩ (.int .u8 (z : Int))).ownsRow base 5 1 (.slice (some ⟨q, 0, none⟩) n c) n ((ys.set t z).map bV) ∧ Chg (· = q) w (w.setCell ⟨q, t, none⟩ (.int .u8 (z : Int))) := by
  refine ⟨?_, Chg.setCell (S := (· = q)) (Chg.refl _ _) (fun _ => rfl) _⟩
  rw [← map_set_bV]
  exact own_put h t _
set_option maxRecDepth 100000 in
set_option maxHeartbeats 8000000 in
theorem plays_walk (A : Option Addr) (n c : Nat) (w : World) (hL : Oprs w A n) (hn : n ≤ maxLen) :
    Calls Try.prog 3 #[.slice A n c] w fun e w' => e = .returned (.bool true) ∧ New w w' := by
  have HL := Lib.hid hL; clear hL
  simp only [maxLen] at hn
  obtain ⟨N, hN⟩ : ∃ N, N = min n 200 := ⟨_, rfl⟩
  have hN1 : N ≤ n := by omega
  have hN2 : N ≤ 200 := by omega
  have HNd : Hid (n ≤ N ∨ 200 ≤ N) := by show _ ∨ _; omega
  clear hN
  go_enter Try.func3, Try.ntmps3
  go_wp2_with fail
  with_reducible refine (awake_any _).mono ?_
  rintro e w1 ⟨rfl, hN1⟩
  have HN1 := Lib.hid hN1; clear hN1
  go_wp2_with fail
  with_reducible refine (NewC w1).mono ?_
  rintro e w2 ⟨g, rfl, Hg, hC2, hN2⟩
  have HC2 := Lib.hid hC2; clear hC2
  have HN2 := Lib.hid (HN1.out.then_new hN2); clear hN2
  have Hsg : Hid (w.heap.size ≤ g) := by have := Hg.out; have := HN1.out.size; show _ ≤ _; omega
  go_wp2_with fail
  with_reducible refine (RNew_any w2).mono ?_
  rintro e w3 ⟨r, rfl, Hr, hD3, hN3⟩
  have HD3 := Lib.hid hD3; clear hD3
  have HC3 := Lib.hid (HC2.out.new hN3)
  have Hsr : Hid (w.heap.size ≤ r) := by have := Hr.out; have := HN2.out.size; show _ ≤ _; omega
  have Hgr : Hid (g ≠ r) := by have := HC2.out.lt; have := Hr.out; show g ≠ r; omega
  have HN3 := Lib.hid (HN2.out.then_new hN3); clear hN3
  clear HC2 HN2 Hr Hg HN1
  go_wp2_with fail
  go_loopg [5] N (fun gk x wr => ∃ (k : Nat) (B : List Nat) (p : Int), k ≤ N ∧ gk = N - k ∧ x = .int .i64 k ∧ Cd wr g B p ∧ Rc wr r B p ∧ New w wr)
  case atStart => exact ⟨0, _, _, by omega, by omega, rfl, HC3.out, HD3.out, HN3.out⟩
  case round =>
    clear HC3 HD3 HN3
    obtain ⟨k, B, p, hk, rfl, rfl, hC, hD, hN⟩ := hrel
    have HC := Lib.hid hC; clear hC
    have HD := Lib.hid hD; clear hD
    have HN := Lib.hid hN; clear hN
    by_cases hlt : k < N
    · obtain ⟨κ, m, bs, hop⟩ := HL.out k (by omega)
      obtain ⟨a, LA, ln, lc, rfl, hab, hll, h256, hnil, hln, hm, hat⟩ := hop.get
      obtain ⟨hc0, hc1, hc2, hA⟩ := hat _ HN.out
      have Hll := Lib.hid hll; clear hll hop
      have H256 := Lib.hid h256; clear h256
      have Hnil := Lib.hid hnil; clear hnil
      have HA := Lib.hid hA; clear hA
      have Hat := Lib.hid hat; clear hat
      go_upto_region 11 with (fail)
      obtain ⟨ob, hob⟩ : ∃ ob, ob = wr.heap.size := ⟨_, rfl⟩
      obtain ⟨w4, hw4⟩ : ∃ w4, w4 = wr.alloc (.cells #[.int .i64 κ, .int .i64 m, .slice LA ln lc] 30) := ⟨_, rfl⟩
      have HH4 : Hid (Has w4 ob 30 #[.int .i64 κ, .int .i64 m, .slice LA ln lc]) := by rw [hw4, hob]; exact Has.new wr 30 _
      have HM4 : Hid (New wr w4) := by rw [hw4]; exact (Chg.refl _ _).alloc _
      rw [← hw4, ← hob]
      have Hob := Lib.hid hob; clear hob hw4 hc0 hc1 hc2
      have HA4 := Lib.hid (HA.out.new HM4.out (fun _ h => Nat.lt_of_lt_of_le h HN.out.size))
      have HN4 := Lib.hid (HN.out.then_new HM4.out)
      have hq0 := HH4.out.cell 0
      have hq1 := HH4.out.cell 1
      have hq2 := HH4.out.cell 2
      simp at hq0 hq1 hq2
      have hq := HH4.out.lt
      go_upto_block 2 with (at_builtin; refine wpList_copy rfl _ _ rfl rfl LA ln lc bs _ rfl HA4.out (fun k hk => Nat.lt_of_lt_of_le hk HN4.out.size) Hll.out Hnil.out (by omega) ?_; intro A5 c5 w5 hO5 hN5; have hH5 := HH4.out.keep hN5; have hq5 := op_kind hH5; have HH5 := Lib.hid hH5; have HO5 := Lib.hid hO5; have HN5 := Lib.hid hN5; clear hO5 hN5 hH5)
      have HC5 := Lib.hid (HC.out.new (HM4.out.then_new HN5.out))
      have HD5 := Lib.hid (HD.out.new (HM4.out.then_new HN5.out))
      have HA5 := Lib.hid (HA4.out.new HN5.out (fun _ h => Nat.lt_of_lt_of_le h HN4.out.size))
      have HN6 := Lib.hid (HN4.out.then_new HN5.out)
      have Hog : Hid (g < ob ∧ r < ob ∧ ob < w4.heap.size) := by have := Hob.out; have := HC.out.lt; have := HD.out.lt; have := HH4.out.lt; show _ ∧ _ ∧ _; omega
      have Hown : Hid (∀ q, Value.ownBlock (.slice A5 ln c5) = some q → w4.heap.size ≤ q ∧ q < w5.heap.size) := fun q hq => HO5.out.lt q hq
      clear hq0 hq1 hq2 hq HA4 HM4 HH4 HC HD HN HA
      go_cut [8] (fun s8 wc => s8 = .bool true ∧ ∃ (B' : List Nat) (p' : Int), Cd wc g B' p' ∧ Rc wc r B' p' ∧ wc.ownsRow w4.heap.size 5 1 (.slice A5 ln c5) ln (bs.map bV) ∧ Has wc ob 30 #[.int .i64 κ, .int .i64 m, .slice LA ln lc] ∧ New w wc)
      case first =>
        have hs5 : Hid (New w5 w5.drew) := (Chg.refl _ _).drew
        by_cases k0 : κ = 0
        · subst k0
          have HCd := Lib.hid (HC5.out.new hs5.out)
          have HDd := Lib.hid (HD5.out.new hs5.out)
          have HHd := Lib.hid (HH5.out.keep hs5.out)
          have HOd := Lib.hid (own_new HO5.out hs5.out)
          have HAd := Lib.hid (HA5.out.new hs5.out (fun _ h => Nat.lt_of_lt_of_le h HN6.out.size))
          have HNd := Lib.hid (HN6.out.then_new hs5.out)
          go_upto_region 22 with (fail)
          go_region_held3 (fun w' => w'.cell? ⟨ob, 1, none⟩ = some (.int .i64 m) ∧ w'.cell? ⟨ob, 2, none⟩ = some (.slice LA ln lc))
            (first | exact op_cells HH7.out | exact op_cells HH6.out | exact op_cells HHd.out)
            (first
              | (go_at_call 11; (with_reducible refine (RWrite_any r m B bs p LA ln lc _ w6 HD6.out HA6.out (fun k hk => ⟨fun h => by have := Hsr.out; omega, Nat.lt_of_lt_of_le hk HNe.out.size⟩) Hnil.out Hll.out H256.out).mono ?_); rintro e w7 ⟨rfl, hD7, hG7⟩
                 have HD7 := Lib.hid hD7
                 have HC7 := Lib.hid (HC6.out.chg hG7 Hgr.out)
                 have HH7 := Lib.hid (HH6.out.chg hG7 (fun h => by have := Hog.out; omega))
                 have HO7 := Lib.hid (own_chg HO6.out hG7 (fun q hq h => by have := Hog.out; have := (Hown.out q hq).1; omega))
                 have HN7 : Hid (New w w7) := HNe.out.trans hG7 (fun i hi h => by have := Hsr.out; omega)
                 clear hD7 hG7)
              | (go_at_call 10; (with_reducible refine (Write_any g m B bs p A5 ln c5 _ _ HCd.out (own_arr_bs Hll.out HOd.out) (fun q hq => ⟨fun h => by have := Hog.out; have := (Hown.out q hq).1; omega, (HOd.out.lt q hq).2⟩) Hll.out H256.out).mono ?_); rintro e w6 ⟨rfl, hC6, hG6⟩
                 have HC6 := Lib.hid hC6
                 have HD6 := Lib.hid (HDd.out.chg hG6 (fun h => Hgr.out h.symm))
                 have HH6 := Lib.hid (HHd.out.chg hG6 (fun h => by have := Hog.out; omega))
                 have HO6 := Lib.hid (own_chg HOd.out hG6 (fun q hq h => by have := Hog.out; have := (Hown.out q hq).1; omega))
                 have HA6 := Lib.hid (HAd.out.chg hG6 (fun q hq => ⟨Nat.lt_of_lt_of_le hq HNd.out.size, fun h => by have := Hsg.out; omega⟩))
                 have HNe : Hid (New w w6) := HNd.out.trans hG6 (fun i hi h => by have := Hsg.out; omega)
                 clear hC6 hG6))
          all_goals
            go_wp2_with fail
            go_meet
            case rel => exact ⟨by simp, _, _, HC7.out, HD7.out, HO7.out, HH7.out, HN7.out⟩
        have t0 : (κ == 0) = false := by simpa using k0
        clear k0
        by_cases k1 : κ = 1
        · subst k1
          obtain ⟨hm0, hm1⟩ := hm
          have hc1 := (op_cells HH5.out).1
          go_wp2_with fail
          with_reducible refine (Power_any g B p m w5 HC5.out ⟨hm0, hm1⟩).mono ?_
          rintro e w6 ⟨rfl, hC6, hG6⟩
          have HC6 := Lib.hid hC6
          have HD6 := Lib.hid (HD5.out.chg hG6 (fun h => Hgr.out h.symm))
          have hH6 := HH5.out.chg hG6 (fun h => by have := Hog.out; omega)
          have hc1' := (op_cells hH6).1
          have HH6 := Lib.hid hH6
          have HO6 := Lib.hid (own_chg HO5.out hG6 (fun q hq h => by have := Hog.out; have := (Hown.out q hq).1; omega))
          have HNe : Hid (New w w6) := HN6.out.trans hG6 (fun i hi h => by have := Hsg.out; omega)
          have hp1 := HD6.out.pow
          have hf1 := HD6.out.free 1
          clear hC6 hG6 hH6 hc1 t0
          go_wp2_with fail
          go_meet
          case rel =>
            have hG7 : Chg (· = r) w6 (w6.setCell ⟨r, 1, none⟩ (.int .i64 m)) := Chg.setCell (S := (· = r)) (Chg.refl _ _) (fun _ => rfl) _
            exact ⟨rfl, B, m, HC6.out.chg hG7 Hgr.out, ⟨HD6.out.has.set 1 _, HD6.out.len, HD6.out.small, hm0, hm1⟩, own_chg HO6.out hG7 (fun q hq h => by have := Hog.out; have := (Hown.out q hq).1; omega), HH6.out.chg hG7 (fun h => by have := Hog.out; omega), HNe.out.trans hG7 (fun i hi h => by have := Hsr.out; omega)⟩
        have t1 : (κ == 1) = false := by simpa using k1
        clear k1
        by_cases k2 : κ = 2
        · subst k2
          clear t0 t1
          have HCd := Lib.hid (HC5.out.new hs5.out)
          have HDd := Lib.hid (HD5.out.new hs5.out)
          have HHd := Lib.hid (HH5.out.keep hs5.out)
          have HOd := Lib.hid (own_new HO5.out hs5.out)
          have HAd := Lib.hid (HA5.out.new hs5.out (fun _ h => Nat.lt_of_lt_of_le h HN6.out.size))
          have HNd := Lib.hid (HN6.out.then_new hs5.out)
          go_upto_region 27 with (fail)
          go_region_held3 (fun w' => w'.cell? ⟨ob, 1, none⟩ = some (.int .i64 m) ∧ w'.cell? ⟨ob, 2, none⟩ = some (.slice LA ln lc))
            (first | exact op_cells HH7.out | exact op_cells HH6.out | exact op_cells HHd.out)
            (first
              | (go_at_call 14; (with_reducible refine (RLoad_any r B bs p LA ln lc _ w6 HD6.out HA6.out Hnil.out Hll.out H256.out).mono ?_); rintro e w7 ⟨rfl, hD7, hG7⟩
                 have HD7 := Lib.hid hD7
                 have HC7 := Lib.hid (HC6.out.chg hG7 Hgr.out)
                 have HH7 := Lib.hid (HH6.out.chg hG7 (fun h => by have := Hog.out; omega))
                 have HO7 := Lib.hid (own_chg HO6.out hG7 (fun q hq h => by have := Hog.out; have := (Hown.out q hq).1; omega))
                 have HN7 : Hid (New w w7) := HNe.out.trans hG7 (fun i hi h => by have := Hsr.out; omega)
                 clear hD7 hG7)
              | (go_at_call 13; (with_reducible refine (Load_any g B bs p A5 ln c5 _ _ HCd.out (own_arr_bs Hll.out HOd.out) Hll.out H256.out).mono ?_); rintro e w6 ⟨rfl, hC6, hG6⟩
                 have HC6 := Lib.hid hC6
                 have HD6 := Lib.hid (HDd.out.chg hG6 (fun h => Hgr.out h.symm))
                 have HH6 := Lib.hid (HHd.out.chg hG6 (fun h => by have := Hog.out; omega))
                 have HO6 := Lib.hid (own_chg HOd.out hG6 (fun q hq h => by have := Hog.out; have := (Hown.out q hq).1; omega))
                 have HA6 := Lib.hid (HAd.out.chg hG6 (fun q hq => ⟨Nat.lt_of_lt_of_le hq HNd.out.size, fun h => by have := Hsg.out; omega⟩))
                 have HNe : Hid (New w w6) := HNd.out.trans hG6 (fun i hi h => by have := Hsg.out; omega)
                 clear hC6 hG6))
          all_goals
            go_wp2_with fail
            go_meet
            case rel => exact ⟨by simp, _, _, HC7.out, HD7.out, HO7.out, HH7.out, HN7.out⟩
        have t2 : (κ == 2) = false := by simpa using k2
        clear k2
        by_cases k3 : κ = 3
        · subst k3
          clear t0 t1 t2
          go_wp2_with fail
          with_reducible refine (Image_any g B p w5 HC5.out).mono ?_
          rintro e w6 ⟨A6, c6, rfl, hO6, hN6⟩
          have Hd : Hid (New w5 w6.drew) := hN6.drew
          have HCd := Lib.hid (HC5.out.new Hd.out)
          have HDd := Lib.hid (HD5.out.new Hd.out)
          have HHd := Lib.hid (HH5.out.keep Hd.out)
          have HOd := Lib.hid (own_new HO5.out Hd.out)
          have HNd := Lib.hid (HN6.out.then_new Hd.out)
          have HPd := Lib.hid (own_new hO6 (Chg.refl _ _).drew)
          have hs6 := own_str HPd.out
          have hst := HDd.out.str
          clear hO6 hN6
          go_upto_region 30 with (fail)
          go_region
          go_wp2_with fail
          obtain ⟨q, rfl, hqq⟩ := own_some HPd.out (i := 0) (by omega)
          clear hqq hs6 hst
          have Hq : Hid (w5.heap.size ≤ q) := (HPd.out.lt q rfl).1
          go_loopg [10] 512 (fun gk x wy => ∃ (t : Nat) (ys : List Nat), t ≤ 512 ∧ gk = 512 - t ∧ x = .int .i64 t ∧ (∀ y ∈ ys, y < 256) ∧ wy.ownsRow w5.heap.size 5 1 (.slice (some ⟨q, 0, none⟩) 512 c6) 512 (ys.map bV) ∧ Cd wy g B p ∧ Rc wy r B p ∧ wy.ownsRow w4.heap.size 5 1 (.slice A5 ln c5) ln (bs.map bV) ∧ Has wy ob 30 #[.int .i64 3, .int .i64 m, .slice LA ln lc] ∧ New w wy)
          case atStart => exact ⟨0, B, by omega, by omega, rfl, HCd.out.small, HPd.out, HCd.out, HDd.out, HOd.out, HHd.out, HNd.out⟩
          case round =>
            clear HPd HCd HDd HOd HHd HNd Hd
            obtain ⟨t, ys, ht, rfl, rfl, hys, hP, hCy, hDy, hOy, hHy, hNy⟩ := hrel
            by_cases htl : t < 512
            · obtain ⟨y, hyc, hy, hyf⟩ := own_byte hP hys htl
              obtain ⟨z, hxz, hz⟩ := turn_byte y hy
              have HP := Lib.hid (own_turn (t := t) (z := z) hP)
              have Hys := Lib.hid (set_small (t := t) hys hz)
              have HCy := Lib.hid hCy
              have HDy := Lib.hid hDy
              have HOy := Lib.hid hOy
              have HHy := Lib.hid hHy
              have HNy := Lib.hid hNy
              clear hP hys hCy hDy hOy hHy hNy
              go_wp2_with fail
              go_roundg (512 - (t + 1))
              case measure => omega
              case rel => exact ⟨t + 1, _, by omega, rfl, by go_num, Hys.out, HP.out.1, HCy.out.chg HP.out.2 (fun h => by have := Hog.out; have := HN5.out.size; have := Hq.out; omega), HDy.out.chg HP.out.2 (fun h => by have := Hog.out; have := HN5.out.size; have := Hq.out; omega), own_chg HOy.out HP.out.2 (fun x hx h => by have := (Hown.out x hx).2; have := Hq.out; omega), HHy.out.chg HP.out.2 (fun h => by have := Hog.out; have := HN5.out.size; have := Hq.out; omega), HNy.out.trans HP.out.2 (fun i hi h => by have := HN6.out.size; have := Hq.out; omega)⟩
            · obtain rfl : t = 512 := by omega
              have HCy := Lib.hid hCy
              have HDy := Lib.hid hDy
              have HOy := Lib.hid hOy
              have HHy := Lib.hid hHy
              have HNy := Lib.hid hNy
              clear hP hys hCy hDy hOy hHy hNy
              go_wp2_with fail
              go_meet
              case rel => exact ⟨rfl, B, p, HCy.out, HDy.out, HOy.out, HHy.out, HNy.out⟩
        have t3 : (κ == 3) = false := by simpa using k3
        clear k3
        have hc1 := (op_cells HH5.out).1
        by_cases hmi : 0 ≤ m ∧ m < 16
        · obtain ⟨j, rfl⟩ : ∃ j : Nat, m = (j : Int) := ⟨m.toNat, by omega⟩
          have hj : j < 16 := by omega
          clear hmi hm
          go_wp2_with fail
          with_reducible refine (Read_in g j B p w5 HC5.out hj).mono ?_
          rintro e w6 ⟨A6, c6, rfl, hO6, hN6⟩
          have Hd : Hid (New w5 w6) := hN6
          have HCd := Lib.hid (HC5.out.new Hd.out)
          have HDd := Lib.hid (HD5.out.new Hd.out)
          have HHd := Lib.hid (HH5.out.keep Hd.out)
          have HOd := Lib.hid (own_new HO5.out Hd.out)
          have HNd := Lib.hid (HN6.out.then_new Hd.out)
          have HPd := Lib.hid hO6
          have hs6 := own_str HPd.out
          have hc6 := (op_cells HHd.out).1
          clear hO6 hN6
          go_wp2_with fail
          with_reducible refine (RRead_in r j B p w6 HDd.out hj).mono ?_
          rintro e w7 ⟨rfl, hw7⟩
          obtain rfl : w6 = w7 := hw7.symm
          clear hw7
          go_wp2_with fail
          obtain ⟨q, rfl, hqq⟩ := own_some HPd.out (i := 0) (by omega)
          clear hqq hs6
          have Hq : Hid (w5.heap.size ≤ q) := (HPd.out.lt q rfl).1
          go_loopg [15] 32 (fun gk x wy => ∃ (t : Nat) (ys : List Nat), t ≤ 32 ∧ gk = 32 - t ∧ x = .int .i64 t ∧ (∀ y ∈ ys, y < 256) ∧ wy.ownsRow w5.heap.size 5 1 (.slice (some ⟨q, 0, none⟩) 32 c6) 32 (ys.map bV) ∧ Cd wy g B p ∧ Rc wy r B p ∧ wy.ownsRow w4.heap.size 5 1 (.slice A5 ln c5) ln (bs.map bV) ∧ Has wy ob 30 #[.int .i64 κ, .int .i64 (j : Int), .slice LA ln lc] ∧ New w wy)
          case atStart => exact ⟨0, sec B j, by omega, by omega, rfl, sec_small HCd.out.small, HPd.out, HCd.out, HDd.out, HOd.out, HHd.out, HNd.out⟩
          case round =>
            clear HPd HCd HDd HOd HHd HNd Hd
            obtain ⟨t, ys, ht, rfl, rfl, hys, hP, hCy, hDy, hOy, hHy, hNy⟩ := hrel
            by_cases htl : t < 32
            · obtain ⟨y, hyc, hy, hyf⟩ := own_byte hP hys htl
              obtain ⟨z, hxz, hz⟩ := turn_byte y hy
              have HP := Lib.hid (own_turn (t := t) (z := z) hP)
              have Hys := Lib.hid (set_small (t := t) hys hz)
              have HCy := Lib.hid hCy
              have HDy := Lib.hid hDy
              have HOy := Lib.hid hOy
              have HHy := Lib.hid hHy
              have HNy := Lib.hid hNy
              clear hP hys hCy hDy hOy hHy hNy
              go_wp2_with fail
              go_roundg (32 - (t + 1))
              case measure => omega
              case rel => exact ⟨t + 1, _, by omega, rfl, by go_num, Hys.out, HP.out.1, HCy.out.chg HP.out.2 (fun h => by have := Hog.out; have := HN5.out.size; have := Hq.out; omega), HDy.out.chg HP.out.2 (fun h => by have := Hog.out; have := HN5.out.size; have := Hq.out; omega), own_chg HOy.out HP.out.2 (fun x hx h => by have := (Hown.out x hx).2; have := Hq.out; omega), HHy.out.chg HP.out.2 (fun h => by have := Hog.out; have := HN5.out.size; have := Hq.out; omega), HNy.out.trans HP.out.2 (fun i hi h => by have := HN6.out.size; have := Hq.out; omega)⟩
            · obtain rfl : t = 32 := by omega
              have HCy := Lib.hid hCy
              have HDy := Lib.hid hDy
              have HOy := Lib.hid hOy
              have HHy := Lib.hid hHy
              have HNy := Lib.hid hNy
              clear hP hys hCy hDy hOy hHy hNy
              go_wp2_with fail
              go_meet
              case rel => exact ⟨rfl, B, p, HCy.out, HDy.out, HOy.out, HHy.out, HNy.out⟩
        · clear hm
          go_wp2_with fail
          with_reducible refine (Read_out g m w5 hmi).mono ?_
          rintro e w6 ⟨rfl, hw6⟩
          obtain rfl : w5 = w6 := hw6.symm
          clear hw6
          go_wp2_with fail
          with_reducible refine (RRead_out r m w5 hmi).mono ?_
          rintro e w7 ⟨rfl, hw7⟩
          obtain rfl : w5 = w7 := hw7.symm
          clear hw7
          have hs5' : (convert 28 9 (.slice none 0 0)).run Try.prog w5 = .ok (.string ⟨#[]⟩) w5 := own_str (bs := []) (World.ownsRow_nil w5 0 5 1)
          go_wp2_with fail
          go_loopg [15] 0 (fun gk x wy => gk = 0 ∧ x = .int .i64 0 ∧ w5 = wy)
          case atStart => exact ⟨rfl, rfl, rfl⟩
          case round =>
            obtain ⟨rfl, rfl, rfl⟩ := hrel
            go_wp2_with fail
            go_meet
            case rel => exact ⟨rfl, B, p, HC5.out, HD5.out, HO5.out, HH5.out, HN6.out⟩
      case rest =>
        obtain ⟨rfl, B', p', hCc, hDc, hOc, hHc, hNc⟩ := hcut
        clear HC5 HD5 HO5 HH5 HA5 hq5 hm
        have hq2 := (op_cells hHc).2
        have hsi := own_str hOc
        have hso : (convert 28 9 (.slice LA ln lc)).run Try.prog wc = .ok (.string (bstr bs)) wc := arr_string Try.underlying28 Try.underlying5 Try.underlying9 (Hat.out wc hNc).2.2.2 Hll.out H256.out Hnil.out
        have HCc := Lib.hid hCc; clear hCc
        have HDc := Lib.hid hDc; clear hDc
        have HOc := Lib.hid hOc; clear hOc
        have HNc := Lib.hid hNc; clear hNc hHc
        go_wp2_with fail
        clear hq2 hsi hso
        go_loopg [16] ln (fun gk x wy => ∃ (t : Nat) (ys : List Nat), t ≤ ln ∧ gk = ln - t ∧ x = .int .i64 t ∧ (∀ y ∈ ys, y < 256) ∧ wy.ownsRow w4.heap.size 5 1 (.slice A5 ln c5) ln (ys.map bV) ∧ Cd wy g B' p' ∧ Rc wy r B' p' ∧ New w wy)
        case atStart => exact ⟨0, bs, by omega, by omega, rfl, H256.out, HOc.out, HCc.out, HDc.out, HNc.out⟩
        case round =>
          clear HOc HCc HDc HNc
          obtain ⟨t, ys, ht, rfl, rfl, hys, hP, hCy, hDy, hNy⟩ := hrel
          by_cases htl : t < ln
          · obtain ⟨q, rfl, hqq⟩ := own_some hP (i := t) htl
            clear hqq
            have Hq : Hid (w4.heap.size ≤ q) := (hP.lt q rfl).1
            obtain ⟨y, hyc, hy, hyf⟩ := own_byte hP hys htl
            obtain ⟨z, hxz, hz⟩ := turn_byte y hy
            have HP := Lib.hid (own_turn (t := t) (z := z) hP)
            have Hys := Lib.hid (set_small (t := t) hys hz)
            have HCy := Lib.hid hCy
            have HDy := Lib.hid hDy
            have HNy := Lib.hid hNy
            clear hP hys hCy hDy hNy
            go_wp2_with fail
            go_roundg (ln - (t + 1))
            case measure => omega
            case rel => exact ⟨t + 1, _, by omega, rfl, by go_num, Hys.out, HP.out.1, HCy.out.chg HP.out.2 (fun h => by have := Hog.out; have := Hq.out; omega), HDy.out.chg HP.out.2 (fun h => by have := Hog.out; have := Hq.out; omega), HNy.out.trans HP.out.2 (fun i hi h => by have := HN4.out.size; have := Hq.out; omega)⟩
          · obtain rfl : t = ln := by omega
            have HCy := Lib.hid hCy
            have HDy := Lib.hid hDy
            have HNy := Lib.hid hNy
            clear hP hys hCy hDy hNy
            go_wp2_with fail
            go_roundg (N - (k + 1))
            case measure => omega
            case rel => exact ⟨k + 1, B', p', by omega, rfl, by go_num, HCy.out, HDy.out, HNy.out⟩
    · obtain rfl : k = N := by omega
      have Hd : Hid (New wr wr.drew) := (Chg.refl _ _).drew
      have HCd := Lib.hid (HC.out.new Hd.out)
      have HDd := Lib.hid (HD.out.new Hd.out)
      have HN6 := Lib.hid (HN.out.then_new Hd.out)
      have hst := HDd.out.str
      clear Hd HC HD HN hlt
      have hall : decide ((k : Int) < n) = false ∨ (decide ((k : Int) < n) = true ∧ decide ((k : Int) < 200) = false) := by
        have := HNd.out
        simp only [decide_eq_false_iff_not, decide_eq_true_eq]
        omega
      clear HNd
      rcases hall with t0 | ⟨t0, t1⟩
      · have t2 : ¬ (k < n) := by simp only [decide_eq_false_iff_not] at t0; omega
        go_upto_region 41 with (fail)
        go_region_law (first
          | (go_simp; go_at_call 15; (with_reducible refine (Image_any g B p _ HCd.out).mono ?_); rintro e w6 ⟨A6, c6, rfl, hO6, hN6⟩
             have hs6 := own_str hO6
             have hst6 := (HDd.out.new hN6).str
             have HN7 := Lib.hid (HN6.out.then_new hN6)
             clear hO6 hN6))
        all_goals
          go_wp2_with fail
          go_ret
          exact ⟨rfl, HN7.out⟩
      · have t2 : k < n := by simp only [decide_eq_true_eq] at t0; omega
        have t3 : ¬ ((k : Int) < 200) := by simpa using t1
        go_upto_region 41 with (fail)
        go_region_law (first
          | (go_simp; go_at_call 15; (with_reducible refine (Image_any g B p _ HCd.out).mono ?_); rintro e w6 ⟨A6, c6, rfl, hO6, hN6⟩
             have hs6 := own_str hO6
             have hst6 := (HDd.out.new hN6).str
             have HN7 := Lib.hid (HN6.out.then_new hN6)
             clear hO6 hN6))
        all_goals
          go_wp2_with fail
          go_ret
          exact ⟨rfl, HN7.out⟩
theorem plays_law {w : World} (A : Option Addr) (n c : Nat) (z : Oprs w A n ∧ n ≤ maxLen) :
    Calls Try.prog 3 #[.slice A n c] w fun e w' => e = .returned (.bool true) ∧ New w w' := plays_walk A n c w z.1 z.2
end Go.Proofs.Ytkecgfgeajkmmaa
