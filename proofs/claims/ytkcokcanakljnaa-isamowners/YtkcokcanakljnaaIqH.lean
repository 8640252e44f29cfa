/-
  Package ipe's Parse of bytes.
-/
import Derived.Test.YtkcokcanakljnaaIqG
namespace Go.Proofs.Ytkcokcanakljnaa
open Go.RowKit
theorem say_12 {T : Tr} {z : Nat} (h : sayN T = .inl z) : z = 12 := by
  unfold sayN at h
  split at h
  · split at h
    · split at h
      · split at h
        · cases h
        · cases h; rfl
      · cases h; rfl
    · cases h; rfl
  · cases h; rfl
theorem parse_tell {bs : List Nat} {T : Tr} {q : Pd} (hb : ∀ x ∈ bs, x < 256) (hd : decd 4 0 bs = .ok T) (hq : q = Pd.tell (fun t => (fld t (fldS 224 T) : Int))) :
    ((rightN q.ns = true ∧ formN q.ns = bs) → parZ bs = 0 ∧ parP bs = q) ∧ (¬ (rightN q.ns = true ∧ formN q.ns = bs) → parZ bs = 12 ∧ parP bs = pz) := by
  cases hp : parseN bs with
  | inr m =>
    obtain ⟨hR, hf⟩ := form_parse hb hp
    have hT : T = formT m := by
      have := form_dec hR
      rw [← hf, hd] at this
      cases this; rfl
    have hqm : q = Pd.of m := by
      rw [hq, hT]
      have e : fldS 224 (formT m) = numT 1 m := by unfold formT fldS; rw [if_pos rfl]
      rw [e]
      exact tell_form hR
    have hns : q.ns = m := by rw [hqm]; exact Pd.ns_of hR
    refine ⟨fun _ => ?_, fun h => absurd ⟨by rw [hns]; exact rightN_yes hR, by rw [hns]; exact hf.symm⟩ h⟩
    unfold parZ parP
    rw [hp]
    exact ⟨rfl, hqm.symm⟩
  | inl z =>
    have hz : z = 12 := by
      have h := hp
      unfold parseN at h
      rw [hd] at h
      exact say_12 h
    refine ⟨fun h => ?_, fun _ => ?_⟩
    · have := parse_form (rightN_of h.1)
      rw [h.2, hp] at this
      cases this
    · unfold parZ parP
      rw [hp, hz]
      exact ⟨rfl, rfl⟩
theorem innerB_lt : ∀ (l : List Int) (i : Nat), i + l.length ≤ 256 → (∀ n ∈ l, (be n.toNat).length ≤ 255) → ∀ x ∈ innerB i l, x < 256
  | [], _, _, _, x, hx => by cases hx
  | n :: r, i, hi, hb, x, hx => by
    simp only [List.length_cons] at hi
    have ih := innerB_lt r (i + 1) (by omega) (fun y hy => hb y (List.mem_cons_of_mem _ hy))
    simp only [innerB] at hx
    split at hx
    · exact ih x hx
    · simp only [List.mem_cons, List.mem_append] at hx
      rcases hx with rfl | rfl | h | h
      · omega
      · have := hb n (List.mem_cons_self ..); omega
      · exact be_lt _ x h
      · exact ih x h
theorem form_small {m : List Int} (h : RightN m) : ∀ x ∈ formN m, x < 256 := by
  intro x hx
  simp only [formN, List.mem_cons] at hx
  rcases hx with rfl | rfl | hx
  · omega
  · have := right_inner h; omega
  · exact innerB_lt m 1 (by rw [h.1]; omega) (right_be h) x hx
set_option maxRecDepth 100000 in
set_option maxHeartbeats 4000000 in
theorem iParse_any (bs : List Nat) (n c : Nat) (A : Option Addr) (w : World) (F : Nat → Prop) (hB : Byts w F (.slice A n c) bs) (hnc : n ≤ c) (hcm : c ≤ maxLen) (hF : ∀ k, F k → k < w.heap.size) :
    Calls Try.prog 16 #[.slice A n c] w fun e w' => e = .returned (.tuple #[(parP bs).V, .int .i64 (parZ bs)]) ∧ New w w' := by
  have HG : Hid (∀ wx, New w wx → Calls Try.prog 44 #[.slice A n c] wx fun e w' => AnsR wx (decd 4 0 bs) e w' ∧ New wx w') := fun wx hx => Get_any bs n A c wx F (hB.new hx hF) hnc hcm (fun k hk => Nat.lt_of_lt_of_le (hF k hk) hx.size)
  have HBy := Lib.hid hB
  have HF := Lib.hid hF
  obtain ⟨E, hE⟩ : ∃ E, E = parZ bs := ⟨_, rfl⟩
  obtain ⟨R, hR⟩ : ∃ R, R = parP bs := ⟨_, rfl⟩
  rw [← hE, ← hR]
  have HE := Lib.hid hE
  have HR := Lib.hid hR
  have Hsm := Lib.hid hB.len.2.2
  clear hE hR hB hF hnc hcm
  go_enter Try.func16, Try.ntmps16
  go_wp2_with fail
  with_reducible refine (HG.out _ ((Chg.refl _ _).alloc _)).mono ?_
  rintro e w1 ⟨hA, hN⟩
  have HB := Lib.hid ((Has.new w 24 #[.int .i64 0, .int .i64 0, .int .i64 0, .int .i64 0, .int .i64 0, .int .i64 0, .int .i64 0, .int .i64 0, .bool false, .int .i64 0, .int .i64 0, .int .i64 0, .int .i64 0, .bool false]).keep hN)
  have HN := Lib.hid (((Chg.refl (fun _ => False) w).alloc (.cells #[.int .i64 0, .int .i64 0, .int .i64 0, .int .i64 0, .int .i64 0, .int .i64 0, .int .i64 0, .int .i64 0, .bool false, .int .i64 0, .int .i64 0, .int .i64 0, .int .i64 0, .bool false] 24)).then_new hN)
  obtain ⟨rb, hrb⟩ : ∃ rb, rb = w.heap.size := ⟨_, rfl⟩
  rw [← hrb] at HB ⊢
  have Hrb := Lib.hid hrb
  clear hN HG hrb
  cases hd : decd 4 0 bs with
  | err z =>
    rw [hd] at hA
    simp only [AnsR] at hA
    subst hA
    have hz := err_zero 4 bs.length 0 bs (Nat.le_refl _) z hd
    have HE2 : Hid (E = z) := by rw [Hid, HE.out]; unfold parZ parseN; rw [hd]
    have HR2 : Hid (R = pz) := by rw [Hid, HR.out]; unfold parP parseN; rw [hd]
    have t1 : ((z : Int) != 0) = true := bne_iff_ne.2 (by omega)
    have t2 : (z != 0) = true := bne_iff_ne.2 hz
    clear hd hz HE HR
    go_wp2_with (first
      | (refine wpList_store_pd rfl (.tmp 2) (.tmp 17) rfl rb pz _ rfl rfl HB.out rfl ?_
         intro wX hX hCX
         have HX := Lib.hid hX
         have HNX := Lib.hid (HN.out.trans hCX (fun i hi h => by rw [h, Hrb.out] at hi; omega))
         clear hX hCX)
      | fail)
    have g0 : wX.cell? ⟨rb, 0, none⟩ = some (.int .i64 pz.x0) := (HX.out.cell 0).trans rfl
    have g1 : wX.cell? ⟨rb, 1, none⟩ = some (.int .i64 pz.x1) := (HX.out.cell 1).trans rfl
    have g2 : wX.cell? ⟨rb, 2, none⟩ = some (.int .i64 pz.x2) := (HX.out.cell 2).trans rfl
    have g3 : wX.cell? ⟨rb, 3, none⟩ = some (.int .i64 pz.x3) := (HX.out.cell 3).trans rfl
    have g4 : wX.cell? ⟨rb, 4, none⟩ = some (.int .i64 pz.x4) := (HX.out.cell 4).trans rfl
    have g5 : wX.cell? ⟨rb, 5, none⟩ = some (.int .i64 pz.x5) := (HX.out.cell 5).trans rfl
    have g6 : wX.cell? ⟨rb, 6, none⟩ = some (.int .i64 pz.x6) := (HX.out.cell 6).trans rfl
    have g7 : wX.cell? ⟨rb, 7, none⟩ = some (.int .i64 pz.x7) := (HX.out.cell 7).trans rfl
    have g8 : wX.cell? ⟨rb, 8, none⟩ = some (.bool pz.x8) := (HX.out.cell 8).trans rfl
    have g9 : wX.cell? ⟨rb, 9, none⟩ = some (.int .i64 pz.x9) := (HX.out.cell 9).trans rfl
    have g10 : wX.cell? ⟨rb, 10, none⟩ = some (.int .i64 pz.x10) := (HX.out.cell 10).trans rfl
    have g11 : wX.cell? ⟨rb, 11, none⟩ = some (.int .i64 pz.x11) := (HX.out.cell 11).trans rfl
    have g12 : wX.cell? ⟨rb, 12, none⟩ = some (.int .i64 pz.x12) := (HX.out.cell 12).trans rfl
    have g13 : wX.cell? ⟨rb, 13, none⟩ = some (.bool pz.x13) := (HX.out.cell 13).trans rfl
    refine bodyPost_ret (v := .tuple #[.agg #[.int .i64 pz.x0, .int .i64 pz.x1, .int .i64 pz.x2, .int .i64 pz.x3, .int .i64 pz.x4, .int .i64 pz.x5, .int .i64 pz.x6, .int .i64 pz.x7, .bool pz.x8, .int .i64 pz.x9, .int .i64 pz.x10, .int .i64 pz.x11, .int .i64 pz.x12, .bool pz.x13], .int .i64 (z : Int)]) (by simp [results, Try.results16, go_sem, g0, g1, g2, g3, g4, g5, g6, g7, g8, g9, g10, g11, g12, g13]) rfl ?_
    exact ⟨by have h1 := HR2.out; have h2 := HE2.out; subst h1; subst h2; rfl, HNX.out⟩
  | ok T =>
    rw [hd] at hA
    obtain ⟨A2, c2, rfl, hO, hlen⟩ := hA
    obtain ⟨A2', c2', e2, hnil2, hsz, hL⟩ := hO.els (by omega)
    simp only [Value.slice.injEq] at e2
    obtain ⟨rfl, e3, rfl⟩ := e2
    clear e3
    have HFi := Lib.hid (Find_any T 224 T.len A2 c2 w1 _ rfl hL (fun k hk => hk.2) hsz)
    obtain ⟨q, hq⟩ : ∃ q, q = Pd.tell (fun t => (fld t (fldS 224 T) : Int)) := ⟨_, rfl⟩
    have Hpt := Lib.hid (parse_tell Hsm.out hd hq)
    rw [← HE.out, ← HR.out] at Hpt
    have Hq := Lib.hid hq
    have HLt : Hid (∀ (T0 : Tr) (bs : List Nat) (s r : Tr), T = T0.app (.cons 224 bs s r) → s.len * 56 ≤ 140737488351232) := fun T0 bs s r hT => by
      rw [hT] at hL
      obtain ⟨⟨vb, B2, cb2, h3, hb, hnil, hsl, _⟩, _⟩ := hL.from
      exact hsl
    clear hd hO hnil2 hsz hL HE HR hlen hq
    obtain ⟨p, hp⟩ : ∃ p, p = T.len := ⟨_, rfl⟩
    rw [← hp] at HFi ⊢
    clear hp
    go_wp2_with fail
    with_reducible refine HFi.out.mono ?_
    rintro e w2 ⟨hR, hN⟩
    have HN2 := Lib.hid (HN.out.then_new hN)
    have HB2 := Lib.hid (HB.out.keep hN)
    clear hN HN HB HFi
    obtain ⟨t1, Ab, kb, cb, A3, n3, c3, bb, rfl, G, hL3, hn3, hG3, hs3⟩ : ∃ t1 Ab kb cb A3 n3 c3 bb, e = .returned (.tuple #[.agg #[.int .i64 t1, .slice Ab kb cb, .slice A3 n3 c3], .bool bb]) ∧ ∃ G : Nat → Prop, Lay w2 G A3 0 (fldS 224 T) ∧ (fldS 224 T).len = n3 ∧ (∀ k, G k → k < w2.heap.size) ∧ n3 * 56 ≤ 140737488351232 := by
      rcases hR with ⟨h1, h2⟩ | ⟨T0, cb, s, r, h1, h2, A1, c1, A3, c3, h3, _, h5⟩
      · refine ⟨0, none, 0, 0, none, 0, 0, false, h2, fun _ => False, ?_, ?_, fun k hk => hk.elim, by omega⟩
        · rw [(fld_none h1).2]; exact trivial
        · rw [(fld_none h1).2]; rfl
      · have e1 : fldS 224 T = s := by rw [h1]; exact (fld_some (k := 0) (by rw [← h1, h2, Nat.zero_add])).2
        have hs := HLt.out T0 cb s r h1
        obtain ⟨A4, c4, e4, _, hs4, hL4⟩ := h5.els hs
        simp only [Value.slice.injEq] at e4
        obtain ⟨rfl, _, rfl⟩ := e4
        refine ⟨224, A1, cb.length, c1, A3, s.len, c3, true, h3, fun k => Btw w1 w2 k ∧ k < w2.heap.size, by rw [e1]; exact hL4, by rw [e1], fun k hk => hk.2, hs4⟩
    obtain ⟨S, hS⟩ : ∃ S, S = fldS 224 T := ⟨_, rfl⟩
    rw [← hS] at hL3 hn3 Hq
    have HTl : Hid (Tells (w2.alloc (.cells #[.int .i64 t1, .slice Ab kb cb, .slice A3 n3 c3] 95)) w2.heap.size (fun t => (fld t S : Int))) := fun t wx hx => by
      have hg := (Has.new w2 95 #[.int .i64 t1, .slice Ab kb cb, .slice A3 n3 c3]).keep hx
      have hNx : New w2 wx := ((Chg.refl _ _).alloc _).then_new hx
      exact parse1_any S t t1 n3 c3 w2.heap.size A3 (.slice Ab kb cb) wx G hn3 (hL3.new hNx hG3) (fun k hk => Nat.lt_of_lt_of_le (hG3 k hk) hNx.size) hs3 hg
    clear hL3 hn3 hG3 hs3 hS hR HLt
    go_wp2_with fail
    with_reducible refine (productOf_any (fun t => (fld t S : Int)) w2.heap.size _ HTl.out).mono ?_
    rintro e w3 ⟨rfl, hN⟩
    rw [← Hq.out]
    have HN3 := Lib.hid (HN2.out.then_new (((Chg.refl (fun _ => False) w2).alloc (.cells #[.int .i64 t1, .slice Ab kb cb, .slice A3 n3 c3] 95)).then_new hN))
    have HB3 := Lib.hid ((HB2.out.alloc (.cells #[.int .i64 t1, .slice Ab kb cb, .slice A3 n3 c3] 95)).keep hN)
    clear hN HN2 HB2 HTl Hq
    have HNo : Hid (rightN q.ns = false → ∀ w, Calls Try.prog 9 #[q.V] w fun e w' => e = .returned (.tuple #[.slice none 0 0, .int .i64 2]) ∧ New w w') := fun h w => iForm_no q h w
    have HYe : Hid (RightN q.ns → ∀ w, Calls Try.prog 9 #[q.V] w fun e w' => ∃ A c, e = .returned (.tuple #[.slice A (formN q.ns).length c, .int .i64 0]) ∧ w'.ownsRow w.heap.size 5 1 (.slice A (formN q.ns).length c) (formN q.ns).length ((formN q.ns).map bV) ∧ New w w') := fun h w => iForm_yes q h w
    have Hfl : Hid (RightN q.ns → (formN q.ns).length ≤ 53 ∧ ∀ x ∈ formN q.ns, x < 256) := fun h => ⟨form_len h, form_small h⟩
    obtain ⟨m, hm⟩ : ∃ m, m = q.ns := ⟨_, rfl⟩
    rw [← hm] at Hpt HNo HYe Hfl
    clear hm
    obtain ⟨x0, x1, x2, x3, x4, x5, x6, x7, x8, x9, x10, x11, x12, x13⟩ := q
    have HNo : Hid (rightN m = false → ∀ w, Calls Try.prog 9 #[.agg #[.int .i64 x0, .int .i64 x1, .int .i64 x2, .int .i64 x3, .int .i64 x4, .int .i64 x5, .int .i64 x6, .int .i64 x7, .bool x8, .int .i64 x9, .int .i64 x10, .int .i64 x11, .int .i64 x12, .bool x13]] w fun e w' => e = .returned (.tuple #[.slice none 0 0, .int .i64 2]) ∧ New w w') := HNo.out
    have HYe : Hid (RightN m → ∀ w, Calls Try.prog 9 #[.agg #[.int .i64 x0, .int .i64 x1, .int .i64 x2, .int .i64 x3, .int .i64 x4, .int .i64 x5, .int .i64 x6, .int .i64 x7, .bool x8, .int .i64 x9, .int .i64 x10, .int .i64 x11, .int .i64 x12, .bool x13]] w fun e w' => ∃ A c, e = .returned (.tuple #[.slice A (formN m).length c, .int .i64 0]) ∧ w'.ownsRow w.heap.size 5 1 (.slice A (formN m).length c) (formN m).length ((formN m).map bV) ∧ New w w') := HYe.out
    go_upto_region 6 with (fail)
    obtain ⟨w4, hw4⟩ : ∃ w4, w4 = w3.alloc (.cells #[.int .i64 x0, .int .i64 x1, .int .i64 x2, .int .i64 x3, .int .i64 x4, .int .i64 x5, .int .i64 x6, .int .i64 x7, .bool x8, .int .i64 x9, .int .i64 x10, .int .i64 x11, .int .i64 x12, .bool x13] 24) := ⟨_, rfl⟩
    obtain ⟨pb, hpb⟩ : ∃ pb, pb = w3.heap.size := ⟨_, rfl⟩
    have HX4 : Hid (Has w4 pb 24 #[.int .i64 x0, .int .i64 x1, .int .i64 x2, .int .i64 x3, .int .i64 x4, .int .i64 x5, .int .i64 x6, .int .i64 x7, .bool x8, .int .i64 x9, .int .i64 x10, .int .i64 x11, .int .i64 x12, .bool x13]) := by rw [hw4, hpb]; exact Has.new _ _ _
    have HN4 : Hid (New w w4) := by rw [hw4]; exact HN3.out.alloc _
    have HB4 : Hid (Has w4 rb 24 #[.int .i64 0, .int .i64 0, .int .i64 0, .int .i64 0, .int .i64 0, .int .i64 0, .int .i64 0, .int .i64 0, .bool false, .int .i64 0, .int .i64 0, .int .i64 0, .int .i64 0, .bool false]) := by rw [hw4]; exact HB3.out.alloc _
    rw [← hw4, ← hpb]
    clear hw4 hpb HN3 HB3
    have k0 : w4.cell? ⟨pb, 0, none⟩ = some (.int .i64 x0) := (HX4.out.cell 0).trans rfl
    have k1 : w4.cell? ⟨pb, 1, none⟩ = some (.int .i64 x1) := (HX4.out.cell 1).trans rfl
    have k2 : w4.cell? ⟨pb, 2, none⟩ = some (.int .i64 x2) := (HX4.out.cell 2).trans rfl
    have k3 : w4.cell? ⟨pb, 3, none⟩ = some (.int .i64 x3) := (HX4.out.cell 3).trans rfl
    have k4 : w4.cell? ⟨pb, 4, none⟩ = some (.int .i64 x4) := (HX4.out.cell 4).trans rfl
    have k5 : w4.cell? ⟨pb, 5, none⟩ = some (.int .i64 x5) := (HX4.out.cell 5).trans rfl
    have k6 : w4.cell? ⟨pb, 6, none⟩ = some (.int .i64 x6) := (HX4.out.cell 6).trans rfl
    have k7 : w4.cell? ⟨pb, 7, none⟩ = some (.int .i64 x7) := (HX4.out.cell 7).trans rfl
    have k8 : w4.cell? ⟨pb, 8, none⟩ = some (.bool x8) := (HX4.out.cell 8).trans rfl
    have k9 : w4.cell? ⟨pb, 9, none⟩ = some (.int .i64 x9) := (HX4.out.cell 9).trans rfl
    have k10 : w4.cell? ⟨pb, 10, none⟩ = some (.int .i64 x10) := (HX4.out.cell 10).trans rfl
    have k11 : w4.cell? ⟨pb, 11, none⟩ = some (.int .i64 x11) := (HX4.out.cell 11).trans rfl
    have k12 : w4.cell? ⟨pb, 12, none⟩ = some (.int .i64 x12) := (HX4.out.cell 12).trans rfl
    have k13 : w4.cell? ⟨pb, 13, none⟩ = some (.bool x13) := (HX4.out.cell 13).trans rfl
    cases hr : rightN m with
    | false =>
      have hno : ¬ (rightN m = true ∧ formN m = bs) := fun h => by rw [hr] at h; cases h.1
      have HH := Lib.hid (Hpt.out.2 hno)
      have HNo2 := Lib.hid (HNo.out hr)
      clear hr hno Hpt HNo HYe Hfl
      go_wp2_with fail
      with_reducible refine (HNo2.out _).mono ?_
      rintro e w5 ⟨rfl, hN⟩
      have HN5 := Lib.hid (HN4.out.then_new hN)
      have HB5 := Lib.hid (HB4.out.keep hN)
      clear hN HNo2 k0 k1 k2 k3 k4 k5 k6 k7 k8 k9 k10 k11 k12 k13
      go_wp2_with (first
        | (refine wpList_store_pd rfl (.tmp 2) (.tmp 39) rfl rb pz _ rfl rfl HB5.out rfl ?_
           intro wX hX hCX
           have HX := Lib.hid hX
           have HNX := Lib.hid (HN5.out.trans hCX (fun i hi h => by rw [h, Hrb.out] at hi; omega))
           clear hX hCX)
        | fail)
      have g0 : wX.cell? ⟨rb, 0, none⟩ = some (.int .i64 pz.x0) := (HX.out.cell 0).trans rfl
      have g1 : wX.cell? ⟨rb, 1, none⟩ = some (.int .i64 pz.x1) := (HX.out.cell 1).trans rfl
      have g2 : wX.cell? ⟨rb, 2, none⟩ = some (.int .i64 pz.x2) := (HX.out.cell 2).trans rfl
      have g3 : wX.cell? ⟨rb, 3, none⟩ = some (.int .i64 pz.x3) := (HX.out.cell 3).trans rfl
      have g4 : wX.cell? ⟨rb, 4, none⟩ = some (.int .i64 pz.x4) := (HX.out.cell 4).trans rfl
      have g5 : wX.cell? ⟨rb, 5, none⟩ = some (.int .i64 pz.x5) := (HX.out.cell 5).trans rfl
      have g6 : wX.cell? ⟨rb, 6, none⟩ = some (.int .i64 pz.x6) := (HX.out.cell 6).trans rfl
      have g7 : wX.cell? ⟨rb, 7, none⟩ = some (.int .i64 pz.x7) := (HX.out.cell 7).trans rfl
      have g8 : wX.cell? ⟨rb, 8, none⟩ = some (.bool pz.x8) := (HX.out.cell 8).trans rfl
      have g9 : wX.cell? ⟨rb, 9, none⟩ = some (.int .i64 pz.x9) := (HX.out.cell 9).trans rfl
      have g10 : wX.cell? ⟨rb, 10, none⟩ = some (.int .i64 pz.x10) := (HX.out.cell 10).trans rfl
      have g11 : wX.cell? ⟨rb, 11, none⟩ = some (.int .i64 pz.x11) := (HX.out.cell 11).trans rfl
      have g12 : wX.cell? ⟨rb, 12, none⟩ = some (.int .i64 pz.x12) := (HX.out.cell 12).trans rfl
      have g13 : wX.cell? ⟨rb, 13, none⟩ = some (.bool pz.x13) := (HX.out.cell 13).trans rfl
      refine bodyPost_ret (v := .tuple #[.agg #[.int .i64 pz.x0, .int .i64 pz.x1, .int .i64 pz.x2, .int .i64 pz.x3, .int .i64 pz.x4, .int .i64 pz.x5, .int .i64 pz.x6, .int .i64 pz.x7, .bool pz.x8, .int .i64 pz.x9, .int .i64 pz.x10, .int .i64 pz.x11, .int .i64 pz.x12, .bool pz.x13], .int .i64 12]) (by simp [results, Try.results16, go_sem, g0, g1, g2, g3, g4, g5, g6, g7, g8, g9, g10, g11, g12, g13]) rfl ?_
      exact ⟨by have h1 := HH.out.2; have h2 := HH.out.1; subst h1; subst h2; rfl, HNX.out⟩
    | true =>
      have HYe2 := Lib.hid (HYe.out (rightN_of hr))
      have Hfl2 := Lib.hid (Hfl.out (rightN_of hr))
      have Hpt2 : Hid ((formN m = bs → E = 0 ∧ R = ⟨x0, x1, x2, x3, x4, x5, x6, x7, x8, x9, x10, x11, x12, x13⟩) ∧ (¬ formN m = bs → E = 12 ∧ R = pz)) := ⟨fun h => Hpt.out.1 ⟨hr, h⟩, fun h => Hpt.out.2 fun hh => h hh.2⟩
      obtain ⟨f, hf⟩ : ∃ f, f = formN m := ⟨_, rfl⟩
      rw [← hf] at HYe2 Hfl2 Hpt2
      obtain ⟨fl, hfl⟩ : ∃ fl, fl = f.length := ⟨_, rfl⟩
      rw [← hfl] at HYe2 Hfl2
      have Hfl3 := Lib.hid hfl
      clear hr hf hfl Hpt HNo HYe Hfl
      go_wp2_with fail
      with_reducible refine (HYe2.out _).mono ?_
      rintro e w5 ⟨A5, c5, rfl, hO5, hN⟩
      have HN5 := Lib.hid (HN4.out.then_new hN)
      have HB5 := Lib.hid (HB4.out.keep hN)
      have HX5 := Lib.hid (HX4.out.keep hN)
      have HEq := Lib.hid (bequal_any A5 A fl n c5 c _ F f bs w5 (Byts.own_any hO5 (Chg.refl _ _) Hfl2.out.2 (by have := Hfl2.out.1; omega)) (HBy.out.new HN5.out HF.out))
      clear hN HYe2 hO5 k0 k1 k2 k3 k4 k5 k6 k7 k8 k9 k10 k11 k12 k13 HX4 HB4 HN4 HBy HF Hfl2 Hfl3
      go_wp2_with fail
      with_reducible refine HEq.out.mono ?_
      rintro e w6 ⟨rfl, hN⟩
      have HN6 := Lib.hid (HN5.out.then_new hN)
      have HB6 := Lib.hid (HB5.out.keep hN)
      have HX6 := Lib.hid (HX5.out.keep hN)
      clear hN HEq HN5 HB5 HX5
      by_cases heq : f = bs
      · have e1 : @decide (f = bs) (Classical.propDecidable _) = true := @decide_eq_true _ (Classical.propDecidable _) heq
        have HH := Lib.hid (Hpt2.out.1 heq)
        rw [e1]
        clear e1 heq Hpt2
        have k0 : w6.cell? ⟨pb, 0, none⟩ = some (.int .i64 x0) := (HX6.out.cell 0).trans rfl
        have k1 : w6.cell? ⟨pb, 1, none⟩ = some (.int .i64 x1) := (HX6.out.cell 1).trans rfl
        have k2 : w6.cell? ⟨pb, 2, none⟩ = some (.int .i64 x2) := (HX6.out.cell 2).trans rfl
        have k3 : w6.cell? ⟨pb, 3, none⟩ = some (.int .i64 x3) := (HX6.out.cell 3).trans rfl
        have k4 : w6.cell? ⟨pb, 4, none⟩ = some (.int .i64 x4) := (HX6.out.cell 4).trans rfl
        have k5 : w6.cell? ⟨pb, 5, none⟩ = some (.int .i64 x5) := (HX6.out.cell 5).trans rfl
        have k6 : w6.cell? ⟨pb, 6, none⟩ = some (.int .i64 x6) := (HX6.out.cell 6).trans rfl
        have k7 : w6.cell? ⟨pb, 7, none⟩ = some (.int .i64 x7) := (HX6.out.cell 7).trans rfl
        have k8 : w6.cell? ⟨pb, 8, none⟩ = some (.bool x8) := (HX6.out.cell 8).trans rfl
        have k9 : w6.cell? ⟨pb, 9, none⟩ = some (.int .i64 x9) := (HX6.out.cell 9).trans rfl
        have k10 : w6.cell? ⟨pb, 10, none⟩ = some (.int .i64 x10) := (HX6.out.cell 10).trans rfl
        have k11 : w6.cell? ⟨pb, 11, none⟩ = some (.int .i64 x11) := (HX6.out.cell 11).trans rfl
        have k12 : w6.cell? ⟨pb, 12, none⟩ = some (.int .i64 x12) := (HX6.out.cell 12).trans rfl
        have k13 : w6.cell? ⟨pb, 13, none⟩ = some (.bool x13) := (HX6.out.cell 13).trans rfl
        go_wp2_with (first
          | (refine wpList_store_pd rfl (.tmp 2) (.tmp 40) rfl rb ⟨x0, x1, x2, x3, x4, x5, x6, x7, x8, x9, x10, x11, x12, x13⟩ _ rfl rfl HB6.out rfl ?_
             intro wX hX hCX
             have HX := Lib.hid hX
             have HNX := Lib.hid (HN6.out.trans hCX (fun i hi h => by rw [h, Hrb.out] at hi; omega))
             clear hX hCX)
          | fail)
        have g0 : wX.cell? ⟨rb, 0, none⟩ = some (.int .i64 x0) := (HX.out.cell 0).trans rfl
        have g1 : wX.cell? ⟨rb, 1, none⟩ = some (.int .i64 x1) := (HX.out.cell 1).trans rfl
        have g2 : wX.cell? ⟨rb, 2, none⟩ = some (.int .i64 x2) := (HX.out.cell 2).trans rfl
        have g3 : wX.cell? ⟨rb, 3, none⟩ = some (.int .i64 x3) := (HX.out.cell 3).trans rfl
        have g4 : wX.cell? ⟨rb, 4, none⟩ = some (.int .i64 x4) := (HX.out.cell 4).trans rfl
        have g5 : wX.cell? ⟨rb, 5, none⟩ = some (.int .i64 x5) := (HX.out.cell 5).trans rfl
        have g6 : wX.cell? ⟨rb, 6, none⟩ = some (.int .i64 x6) := (HX.out.cell 6).trans rfl
        have g7 : wX.cell? ⟨rb, 7, none⟩ = some (.int .i64 x7) := (HX.out.cell 7).trans rfl
        have g8 : wX.cell? ⟨rb, 8, none⟩ = some (.bool x8) := (HX.out.cell 8).trans rfl
        have g9 : wX.cell? ⟨rb, 9, none⟩ = some (.int .i64 x9) := (HX.out.cell 9).trans rfl
        have g10 : wX.cell? ⟨rb, 10, none⟩ = some (.int .i64 x10) := (HX.out.cell 10).trans rfl
        have g11 : wX.cell? ⟨rb, 11, none⟩ = some (.int .i64 x11) := (HX.out.cell 11).trans rfl
        have g12 : wX.cell? ⟨rb, 12, none⟩ = some (.int .i64 x12) := (HX.out.cell 12).trans rfl
        have g13 : wX.cell? ⟨rb, 13, none⟩ = some (.bool x13) := (HX.out.cell 13).trans rfl
        refine bodyPost_ret (v := .tuple #[.agg #[.int .i64 x0, .int .i64 x1, .int .i64 x2, .int .i64 x3, .int .i64 x4, .int .i64 x5, .int .i64 x6, .int .i64 x7, .bool x8, .int .i64 x9, .int .i64 x10, .int .i64 x11, .int .i64 x12, .bool x13], .int .i64 0]) (by simp [results, Try.results16, go_sem, g0, g1, g2, g3, g4, g5, g6, g7, g8, g9, g10, g11, g12, g13]) rfl ?_
        exact ⟨by have h1 := HH.out.2; have h2 := HH.out.1; subst h1; subst h2; rfl, HNX.out⟩
      · have e1 : @decide (f = bs) (Classical.propDecidable _) = false := @decide_eq_false _ (Classical.propDecidable _) heq
        have HH := Lib.hid (Hpt2.out.2 heq)
        rw [e1]
        clear e1 heq Hpt2
        go_wp2_with (first
          | (refine wpList_store_pd rfl (.tmp 2) (.tmp 39) rfl rb pz _ rfl rfl HB6.out rfl ?_
             intro wX hX hCX
             have HX := Lib.hid hX
             have HNX := Lib.hid (HN6.out.trans hCX (fun i hi h => by rw [h, Hrb.out] at hi; omega))
             clear hX hCX)
          | fail)
        have g0 : wX.cell? ⟨rb, 0, none⟩ = some (.int .i64 pz.x0) := (HX.out.cell 0).trans rfl
        have g1 : wX.cell? ⟨rb, 1, none⟩ = some (.int .i64 pz.x1) := (HX.out.cell 1).trans rfl
        have g2 : wX.cell? ⟨rb, 2, none⟩ = some (.int .i64 pz.x2) := (HX.out.cell 2).trans rfl
        have g3 : wX.cell? ⟨rb, 3, none⟩ = some (.int .i64 pz.x3) := (HX.out.cell 3).trans rfl
        have g4 : wX.cell? ⟨rb, 4, none⟩ = some (.int .i64 pz.x4) := (HX.out.cell 4).trans rfl
        have g5 : wX.cell? ⟨rb, 5, none⟩ = some (.int .i64 pz.x5) := (HX.out.cell 5).trans rfl
        have g6 : wX.cell? ⟨rb, 6, none⟩ = some (.int .i64 pz.x6) := (HX.out.cell 6).trans rfl
        have g7 : wX.cell? ⟨rb, 7, none⟩ = some (.int .i64 pz.x7) := (HX.out.cell 7).trans rfl
        have g8 : wX.cell? ⟨rb, 8, none⟩ = some (.bool pz.x8) := (HX.out.cell 8).trans rfl
        have g9 : wX.cell? ⟨rb, 9, none⟩ = some (.int .i64 pz.x9) := (HX.out.cell 9).trans rfl
        have g10 : wX.cell? ⟨rb, 10, none⟩ = some (.int .i64 pz.x10) := (HX.out.cell 10).trans rfl
        have g11 : wX.cell? ⟨rb, 11, none⟩ = some (.int .i64 pz.x11) := (HX.out.cell 11).trans rfl
        have g12 : wX.cell? ⟨rb, 12, none⟩ = some (.int .i64 pz.x12) := (HX.out.cell 12).trans rfl
        have g13 : wX.cell? ⟨rb, 13, none⟩ = some (.bool pz.x13) := (HX.out.cell 13).trans rfl
        refine bodyPost_ret (v := .tuple #[.agg #[.int .i64 pz.x0, .int .i64 pz.x1, .int .i64 pz.x2, .int .i64 pz.x3, .int .i64 pz.x4, .int .i64 pz.x5, .int .i64 pz.x6, .int .i64 pz.x7, .bool pz.x8, .int .i64 pz.x9, .int .i64 pz.x10, .int .i64 pz.x11, .int .i64 pz.x12, .bool pz.x13], .int .i64 12]) (by simp [results, Try.results16, go_sem, g0, g1, g2, g3, g4, g5, g6, g7, g8, g9, g10, g11, g12, g13]) rfl ?_
        exact ⟨by have h1 := HH.out.2; have h2 := HH.out.1; subst h1; subst h2; rfl, HNX.out⟩
end Go.Proofs.Ytkcokcanakljnaa
