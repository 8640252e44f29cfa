/-
  What the document's own Drops comes to.
-/
import Derived.Test.YtjkpijinpfimiaaRefL
import Derived.Test.YtjkpijinpfimiaaRefN
namespace Go.Proofs.Ytjkpijinpfimiaa
open Go.RowKit
theorem Try.infos60 : (Try.prog.info? 60).map (fun i => (i.zero, i.size, i.bytes)) = some (some (.agg #[.int .i64 0, .int .i64 0, .int .i64 0, .int .i64 0]), 4, 32) := by kernel_rfl
theorem erase_skip (l : List En) (j : Nat) : (l.take (j + 1)).eraseIdx j = (l.take j).eraseIdx j := by
  apply List.ext_getElem?
  intro t
  rw [List.getElem?_eraseIdx, List.getElem?_eraseIdx]
  by_cases h : t < j
  · rw [if_pos h, if_pos h, List.getElem?_take_of_lt (by omega), List.getElem?_take_of_lt h]
  · rw [if_neg h, if_neg h, List.getElem?_eq_none (by simp; omega), List.getElem?_eq_none (by simp; omega)]
theorem erase_push (l : List En) (j k : Nat) (e : En) (he : l[k]? = some e) (hkj : k ≠ j) : (l.take (k + 1)).eraseIdx j = (l.take k).eraseIdx j ++ [e] := by
  have hk : k < l.length := (List.getElem?_eq_some_iff.1 he).1
  rw [List.take_add_one, he, Option.toList_some]
  rcases Nat.lt_or_ge j k with h | h
  · rw [List.eraseIdx_append_of_lt_length (by simp; omega)]
  · rw [List.eraseIdx_of_length_le (by simp; omega), List.eraseIdx_of_length_le (by simp; omega)]
theorem enRow_push (l : List En) (e : En) : enRow (l ++ [e]) = enRow l ++ [.int .i64 e.k, .int .i64 e.o, .int .i64 e.i, .int .i64 e.s] := by
  unfold enRow
  rw [List.flatMap_append]
  rfl
/-- what Drops tells -/
def DrpR (v : Vw) (o i : Int) (w : World) (e : Ending) (w' : World) : Prop :=
  (drE v o i ≠ 0 ∧ e = .returned (.tuple #[.slice none 0 0, .int .i64 (drE v o i)])) ∨
  (drE v o i = 0 ∧ ∃ g, e = .returned (.tuple #[.slice (some ⟨g, 0, none⟩) 1 1, .int .i64 0]) ∧ Rws w' (fun k => w.heap.size ≤ k ∧ k < w'.heap.size) (some ⟨g, 0, none⟩) (drR v o i))
set_option maxRecDepth 100000 in
set_option maxHeartbeats 8000000 in
theorem rDrops_any (v : Vw) (o i : Int) (A : Option Addr) (n c : Nat) (F : Nat → Prop) (w : World) (hE : Ents w F A v.es) (hF : ∀ k, F k → k < w.heap.size) (hn : v.es.length = n) (hv : v.fine) :
    Calls Try.prog 28 #[.agg #[.int .i64 v.c, .int .i64 v.u, .int .i64 v.q, .int .i64 v.p, .slice A n c], .int .i64 o, .int .i64 i] w fun e w' => DrpR v o i w e w' ∧ New w w' := by
  obtain ⟨i0, hi, hz0, hz1, hz2⟩ := info_parts Try.infos60
  have HE := Lib.hid hE; clear hE
  have HF := Lib.hid hF; clear hF
  have Hn := Lib.hid hn; clear hn
  have Hv := Lib.hid hv; clear hv
  have hn5 : n ≤ 5 := by rw [← Hn.out]; exact Hv.out.len
  obtain ⟨cd, hcd⟩ : ∃ x, x = v.c := ⟨_, rfl⟩
  obtain ⟨u, hu⟩ : ∃ x, x = v.u := ⟨_, rfl⟩
  obtain ⟨q, hq⟩ : ∃ q : Nat, v.q = (q : Int) := ⟨v.q.toNat, by have := Hv.out.q1; omega⟩
  obtain ⟨p, hp⟩ : ∃ p : Nat, v.p = (p : Int) := ⟨v.p.toNat, by rcases Hv.out.p with h | h <;> omega⟩
  have hq1 : q ≤ 65535 := by have := Hv.out.q2; omega
  have hp1 : p = 1 ∨ p = 2 := by rcases Hv.out.p with h | h <;> omega
  rw [← hcd, ← hu, hq, hp]
  have Hq := Lib.hid hq
  have Hp := Lib.hid hp
  clear hcd hu hq hp
  obtain ⟨b, hb⟩ : ∃ b, b = w.heap.size := ⟨_, rfl⟩
  go_enter Try.func28, Try.ntmps28
  go_wp2_with fail
  obtain ⟨w1, hw1⟩ : ∃ w1, w1 = w.alloc (.cells #[.int .i64 cd, .int .i64 u, .int .i64 (q : Int), .int .i64 (p : Int), .slice A n c] 34) := ⟨_, rfl⟩
  have HB1 : Hid (Has w1 b 34 #[.int .i64 cd, .int .i64 u, .int .i64 (q : Int), .int .i64 (p : Int), .slice A n c]) := by rw [hw1, hb]; exact Has.new w 34 _
  have HN1 : Hid (New w w1) := by rw [hw1]; exact (Chg.refl _ _).alloc _
  rw [← hw1, ← hb]
  have Hb : Hid (w.heap.size ≤ b) := by rw [Hid, hb]; exact Nat.le_refl _
  clear hw1 hb
  with_reducible refine (rAt_any cd u q p o i A n c F v.es w1 (HE.out.new HN1.out HF.out) (fun k hk => Nat.lt_of_lt_of_le (HF.out k hk) HN1.out.size) Hn.out (by omega)).mono ?_
  rintro e w2 ⟨rfl, hN2⟩
  have hB2 := HB1.out.keep hN2
  have HB2 := Lib.hid hB2
  have HN2 := Lib.hid (HN1.out.then_new hN2)
  have b2 : w2.cell? ⟨b, 2, none⟩ = some (.int .i64 (q : Int)) := (hB2.cell 2).trans rfl
  have b4 : w2.cell? ⟨b, 4, none⟩ = some (.slice A n c) := (hB2.cell 4).trans rfl
  clear hN2 hB2 HB1 HN1
  rcases atI_cases o i v.es with ⟨k1, k2⟩ | ⟨j, f, k1, k2, k3, k4⟩
  · have Hd : Hid (drE v o i = 21) := by rw [Hid]; unfold drE; rw [k1, if_pos (by omega)]
    rw [k1]
    go_wp2_with fail
    go_ret2
    refine ⟨Or.inl ⟨by rw [Hd.out]; decide, by rw [Hd.out]; rfl⟩, HN2.out⟩
  have hjn : j < n := by rw [← Hn.out]; exact (List.getElem?_eq_some_iff.1 k2).1
  have Hat := Lib.hid k1
  rw [k1]
  clear k1 k2 k3 k4
  by_cases hq2 : q = 65535
  · subst hq2
    have Hd : Hid (drE v o i = 29) := by rw [Hid]; unfold drE; rw [Hat.out, if_neg (by omega), Hq.out, if_pos (by omega)]
    go_wp2_with fail
    go_ret2
    refine ⟨Or.inl ⟨by rw [Hd.out]; decide, by rw [Hd.out]; rfl⟩, HN2.out⟩
  have hq3 : q < 65535 := by omega
  have tq : decide (65535 ≤ (q : Int)) = false := by simp only [decide_eq_false_iff_not]; omega
  have Hd : Hid (drE v o i = 0) := by rw [Hid]; unfold drE; rw [Hat.out, if_neg (by omega), Hq.out, if_neg (by omega)]
  have Hdl : Hid (drL v.es o i = v.es.eraseIdx j) := by rw [Hid]; unfold drL; rw [Hat.out, Int.toNat_natCast]
  go_wp2_with fail
  go_loopg [9, 10] n (fun gk s x wr => ∃ (k : Nat) (B : Option Addr) (m cb : Nat), k ≤ n ∧ gk = n - k ∧ s = .slice B m cb ∧ m = ((v.es.take k).eraseIdx j).length ∧ x = .int .i64 k ∧ wr.ownsRow w.heap.size 60 4 (.slice B m cb) m (enRow ((v.es.take k).eraseIdx j)) ∧ Has wr b 34 #[.int .i64 cd, .int .i64 u, .int .i64 (q : Int), .int .i64 (p : Int), .slice A n c] ∧ New w wr)
  case atStart => exact ⟨0, none, 0, 0, by omega, by omega, rfl, by simp, rfl, by simpa [enRow] using World.ownsRow_nil _ _ _ _, HB2.out, HN2.out⟩
  case round =>
    clear HB2 HN2 b2 b4
    obtain ⟨k, B, m, cb, hk, rfl, rfl, hm, rfl, hO, hB, hN⟩ := hrel
    have b2 : wr.cell? ⟨b, 2, none⟩ = some (.int .i64 (q : Int)) := (hB.cell 2).trans rfl
    have b3 : wr.cell? ⟨b, 3, none⟩ = some (.int .i64 (p : Int)) := (hB.cell 3).trans rfl
    have b4 : wr.cell? ⟨b, 4, none⟩ = some (.slice A n c) := (hB.cell 4).trans rfl
    have hm5 : m ≤ 5 := by
      have h1 := (List.eraseIdx_sublist (v.es.take k) j).length_le
      rw [List.length_take] at h1
      omega
    have HO := Lib.hid hO
    have HB := Lib.hid hB
    have HN := Lib.hid hN
    have Hm := Lib.hid hm
    clear hO hB hN hm
    by_cases hlt : k < n
    · obtain ⟨e, he⟩ : ∃ e, v.es[k]? = some e := ⟨_, List.getElem?_eq_getElem (by rw [Hn.out]; exact hlt)⟩
      by_cases hkj : k = j
      · subst hkj
        clear he
        have Hs := Lib.hid (erase_skip v.es k)
        go_wp2_with fail
        go_roundg (n - (k + 1))
        case measure => omega
        case rel => exact ⟨k + 1, B, m, cb, by omega, rfl, rfl, by rw [Hs.out]; exact Hm.out, by go_num, by rw [Hs.out]; exact HO.out, HB.out, HN.out⟩
      · have Hs := Lib.hid (erase_push v.es j k e he hkj)
        obtain ⟨a, rfl, hab, h0, h1, h2, h3⟩ := (HE.out.new HN.out HF.out) k e he
        have tk : ((k : Int) == (j : Int)) = false := by simp; omega
        have tk' : ((k : Int) != (j : Int)) = true := by simp; omega
        have hal : (a.add (k * 4)).block < wr.heap.size := World.block_lt_of_cell? _ _ h0
        clear he
        go_wp2_with (at_builtin; refine wpList_append_one rfl _ _ 28 rfl w.heap.size 60 i0 (.agg #[.int .i64 0, .int .i64 0, .int .i64 0, .int .i64 0]) 4 32 Try.underlying28 hi hz0 hz1 hz2 rfl (by decide) (.slice B m cb) m (enRow ((v.es.take k).eraseIdx j)) rfl HO.out #[.int .i64 e.k, .int .i64 e.o, .int .i64 e.i, .int .i64 e.s] rfl rfl (by simp [Value.oneCell']) (by simp only [maxLen]; omega) (by omega) HN.out.size ?_)
        intro A6 c6 w6 hO6 hC6 hf6
        have HO6 := Lib.hid hO6
        have HB6 := Lib.hid (HB.out.chg hC6 (fun h => own_apart HO.out HB.out (by decide) h))
        have HN6 : Hid (New w w6) := HN.out.trans hC6 (fun x hx h => by have := (HO.out.lt x h).1; omega)
        clear hO6 hC6 hf6
        go_wp2_with fail
        go_roundg (n - (k + 1))
        case measure => omega
        case rel => exact ⟨k + 1, A6, m + 1, c6, by omega, rfl, rfl, by rw [Hs.out, List.length_append, Hm.out]; rfl, by go_num, by rw [Hs.out, enRow_push]; exact HO6.out, HB6.out, HN6.out⟩
    · obtain rfl : k = n := by omega
      obtain ⟨L, hL⟩ : ∃ L, L = drL v.es o i := ⟨_, rfl⟩
      have hLe : (v.es.take k).eraseIdx j = L := by rw [List.take_of_length_le (by rw [Hn.out]; omega), hL, Hdl.out]
      have HSnd : Hid (Sound L ∧ L.length ≤ 5) := by rw [hL]; exact drL_fine Hv.out.sound Hv.out.len
      have hLm : L.length = m := by rw [← hLe]; exact Hm.out.symm
      have HOL : Hid (wr.ownsRow w.heap.size 60 4 (.slice B m cb) m (enRow L)) := by rw [← hLe]; exact HO.out
      have HLm := Lib.hid hLm
      have HLd := Lib.hid hL
      clear hLe hLm hL HO Hm
      obtain ⟨q', hq'⟩ : ∃ q', q' = q + 1 := ⟨_, rfl⟩
      obtain ⟨p', hp'⟩ : ∃ p', p' = 3 - p := ⟨_, rfl⟩
      have fq : (q : Int) + 1 = (q' : Int) := by omega
      have fp : 3 - (p : Int) = (p' : Int) := by omega
      have hq'' : q' ≤ 65535 := by omega
      have fq2 : IntKind.i64.wrap ((q : Int) + 1) = (q' : Int) := by rw [fq]; exact IntWalk.i64_in _ (by omega)
      have fp2 : IntKind.i64.wrap (3 - (p : Int)) = (p' : Int) := by rw [fp]; exact IntWalk.i64_in _ (by omega)
      have fq3 : IntKind.i64.wrap (q' : Int) = (q' : Int) := IntWalk.i64_in _ (by omega)
      have fp3 : IntKind.i64.wrap (p' : Int) = (p' : Int) := IntWalk.i64_in _ (by omega)
      have HR : Hid (dirR v L = (p', sectorB (listB q' L))) := by
        rw [Hid]
        unfold dirR
        rw [Hp.out, Hq.out, show (3 - (p : Int)).toNat = p' by omega, show ((q : Int) + 1).toNat = q' by omega]
      clear hq' hp'
      have hdr : New wr wr.drew := (Chg.refl _ _).drew
      have HEd := Lib.hid (Ents.of_own (own_new HOL.out hdr))
      have HFd := Lib.hid (own_below (own_new HOL.out hdr))
      have HBd := Lib.hid (HB.out.keep hdr)
      have HNd := Lib.hid (HN.out.then_new hdr)
      clear hdr
      go_upto_region 12 with (fail)
      go_region_held3 (fun w' => w'.cell? ⟨b, 2, none⟩ = some (.int .i64 (q : Int)) ∧ w'.cell? ⟨b, 3, none⟩ = some (.int .i64 (p : Int)))
        (first | exact ⟨g2, g3⟩ | exact ⟨((HB7.out.alloc _).cell 2).trans rfl, ((HB7.out.alloc _).cell 3).trans rfl⟩ | exact ⟨f2, f3⟩ | exact ⟨b2, b3⟩)
        (first
          | (go_at_call 23; (with_reducible refine (rSector_any A6 (3 + 5 * m) c6 _ (listB q' L) w6 (own_arr_bs (by rw [listB_len, HLm.out]) HO6.out) (own_below HO6.out) (by rw [listB_len, HLm.out]) (listB_small q' L hq'' HSnd.out.2 HSnd.out.1.1) (by omega)).mono ?_); rintro e w7 ⟨A7, c7, rfl, hO7, hN7⟩
             have HO7 := Lib.hid hO7
             have HN7 := Lib.hid (HN6.out.then_new hN7)
             have hB7 := HB6.out.keep hN7
             have g2 : w7.cell? ⟨b, 2, none⟩ = some (.int .i64 (q : Int)) := (hB7.cell 2).trans rfl
             have g3 : w7.cell? ⟨b, 3, none⟩ = some (.int .i64 (p : Int)) := (hB7.cell 3).trans rfl
             have Hb7 : Hid (∀ x, Value.ownBlock (.slice A7 32 c7) = some x → w.heap.size ≤ x ∧ x < w7.heap.size) := fun x hx => ⟨by have := (hO7.lt x hx).1; have := HN6.out.size; omega, (hO7.lt x hx).2⟩
             have HB7 := Lib.hid hB7
             clear hO7 hN7 hB7)
          | (go_at_call 24; (with_reducible refine (rList_any q' B m cb _ L wr.drew HEd.out HFd.out HLm.out hm5 hq'' HSnd.out.1.1).mono ?_); rintro e w6 ⟨A6, c6, rfl, hO6, hN6⟩
             have HO6 := Lib.hid hO6
             have HN6 := Lib.hid (HNd.out.then_new hN6)
             have HB6 := Lib.hid (HBd.out.keep hN6)
             have f2 : w6.cell? ⟨b, 2, none⟩ = some (.int .i64 (q : Int)) := (HB6.out.cell 2).trans rfl
             have f3 : w6.cell? ⟨b, 3, none⟩ = some (.int .i64 (p : Int)) := (HB6.out.cell 3).trans rfl
             clear hO6 hN6))
      all_goals
        clear fq fp fq2 fp2 fq3 fp3
        go_wp2_with fail
        go_ret2
        have hNz : New w7 (w7.alloc (.cells #[.int .i64 (p' : Int), .slice A7 32 c7] 52)) := (Chg.refl _ _).alloc _
        refine ⟨Or.inr ⟨Hd.out, w7.heap.size, rfl, ?_⟩, HN7.out.then_new hNz⟩
        have hH := Has.new w7 52 #[.int .i64 (p' : Int), .slice A7 32 c7]
        have hlt := hH.lt
        have hO8 := own_new HO7.out hNz
        intro t r hr
        unfold drR at hr
        rw [← HLd.out, HR.out] at hr
        have ht : t = 0 := by
          rcases Nat.eq_zero_or_pos t with h | h
          · exact h
          · rw [List.getElem?_eq_none (by simp; omega)] at hr; cases hr
        subst ht
        simp only [List.getElem?_cons_zero, Option.some.injEq] at hr
        subst hr
        refine ⟨⟨w7.heap.size, 0, none⟩, A7, c7, rfl, ⟨HN7.out.size, hlt⟩, (hH.cell 0).trans rfl, (hH.cell 1).trans rfl, ?_⟩
        exact (own_arr_bs (sector_len _) hO8).mono (fun x hx => ⟨(Hb7.out x hx).1, (own_below hO8) x hx⟩)
end Go.Proofs.Ytjkpijinpfimiaa
