/-
  The walk of ListsOff: out and in again.
-/
import Derived.Test.YtficopkjpdfilaaLAgain12
namespace Go.Proofs.Ytficopkjpdfilaa
open Go.RowKit
open Go.ChangeShapes Go.WideShapes Go.ChangeAt Go.Joins
theorem addI_nodup (r : List It) : ∀ L : List It, L.Nodup → (addI L r).Nodup := by
  induction r with
  | nil => intro L h; exact h
  | cons x r ih =>
    intro L h
    simp only [addI]
    refine ih _ ?_
    cases hc : L.contains x with
    | true => exact h
    | false =>
      have hx : x ∉ L := fun hx => by rw [List.contains_iff_mem.2 hx] at hc; cases hc
      simp only [Bool.false_eq_true, if_false]
      rw [List.nodup_append]
      refine ⟨h, by simp, fun a ha b hb e => ?_⟩
      simp only [List.mem_singleton] at hb
      rw [e, hb] at ha
      exact hx ha
theorem addI_mem (r : List It) : ∀ (L : List It) (y : It), y ∈ addI L r → y ∈ L ∨ y ∈ r := by
  induction r with
  | nil => intro L y h; exact Or.inl h
  | cons x r ih =>
    intro L y h
    simp only [addI] at h
    rcases ih _ _ h with h | h
    · cases hc : L.contains x with
      | true => rw [hc] at h; exact Or.inl h
      | false =>
        rw [hc] at h
        simp only [Bool.false_eq_true, if_false, List.mem_append, List.mem_singleton] at h
        rcases h with h | h
        · exact Or.inl h
        · exact Or.inr (by rw [h]; exact List.mem_cons_self ..)
    · exact Or.inr (List.mem_cons_of_mem _ h)
theorem keepI_one_len {L : List It} {x : It} (hn : L.Nodup) (hx : x ∈ L) : (keepI L [x]).length + 1 = L.length := by
  induction L with
  | nil => cases hx
  | cons y L ih =>
    rw [List.nodup_cons] at hn
    unfold keepI
    by_cases h : y = x
    · subst h
      have hk : ∀ z ∈ L, (!([y] : List It).contains z) = true := fun z hz => by
        have : z ≠ y := fun e => hn.1 (by rw [← e]; exact hz)
        simp [this]
      rw [List.filter_cons_of_neg (by simp), List.filter_eq_self.2 hk]
      rfl
    · have hxl : x ∈ L := by
        rcases List.mem_cons.1 hx with e | e
        · exact absurd e.symm h
        · exact e
      rw [List.filter_cons_of_pos (by simp [h])]
      have := ih hn.2 hxl
      unfold keepI at this
      simp only [List.length_cons]
      omega
theorem keepI_not {L off : List It} {x : It} (hx : off.contains x = true) : (keepI L off).contains x = false := by
  cases h : (keepI L off).contains x with
  | false => rfl
  | true =>
    rw [List.contains_iff_mem] at h
    unfold keepI at h
    rw [List.mem_filter, hx] at h
    exact absurd h.2 (by decide)
/-- what the three steps come to -/
theorem off_steps {add L M : List It} {x : It} (h0 : appE false 0 [] 1 add [] = 0) (hL : L = nextI [] add []) (hx : x ∈ L) (hM : M = keepI L [x]) :
    appE false 1 L 2 [] [x] = 0 ∧ appL false 1 L 2 [] [x] = M ∧ appV false 1 L 2 [] [x] = 2 ∧ M.length + 1 = L.length ∧ M.contains x = false ∧
    appE false 2 M 3 [x] [x] = 0 ∧ appL false 2 M 3 [x] [x] = M ++ [x] ∧ appV false 2 M 3 [x] [x] = 3 := by
  obtain ⟨_, _, _, hr, _, hl⟩ := app_some h0
  rw [← hL] at hl
  have hnd : L.Nodup := by rw [hL]; exact addI_nodup add _ (List.Pairwise.nil)
  have hxr : rightI false x = true := by
    rw [hL] at hx
    rcases addI_mem add _ x hx with h | h
    · cases h
    · exact List.all_eq_true.1 hr x h
  have hlen : M.length + 1 = L.length := by rw [hM]; exact keepI_one_len hnd hx
  have hnot : M.contains x = false := by rw [hM]; exact keepI_not (by simp)
  have hMM : keepI M [x] = M := by
    unfold keepI
    rw [List.filter_eq_self]
    intro z hz
    have : z ≠ x := fun e => by rw [← e, List.contains_iff_mem.2 hz] at hnot; cases hnot
    simp [this]
  have e1 : appE false 1 L 2 [] [x] = 0 := by
    rw [appE_at (by decide)]
    have : nextI L [] [x] = M := hM.symm
    rw [this, if_neg (by simp [hxr]), if_neg (by omega)]
  have n2 : nextI M [x] [x] = M ++ [x] := by unfold nextI; rw [hMM]; simp only [addI, hnot, Bool.false_eq_true, if_false]
  have e2 : appE false 2 M 3 [x] [x] = 0 := by
    rw [appE_at (by decide), n2, if_neg (by simp [hxr]), if_neg (by simp only [List.length_append, List.length_cons, List.length_nil]; omega)]
  obtain ⟨v1, l1, _⟩ := app_some e1
  obtain ⟨v2, l2, _⟩ := app_some e2
  exact ⟨e1, l1.trans hM.symm, v1, hlen, hnot, e2, l2.trans n2, v2⟩
theorem turn_at (z : Int) (n : Nat) (hn : 0 < n) (hb : n ≤ 64) : ∃ (r : Int) (j : Nat), (Int.tmod z (n : Int) = r ∧ wrap64 (r + (n : Int)) = r + (n : Int) ∧ Int.tmod (r + (n : Int)) (n : Int) = (j : Int)) ∧ j < n := by
  obtain ⟨⟨j, h1, h2⟩, h3⟩ := turn_in z (n : Int) (by omega) (by omega)
  exact ⟨_, j, ⟨rfl, h3, h1⟩, by omega⟩
/-- Items, with its slice -/
theorem items_at (base g : Nat) (ver : Int) (L : List It) (n : Nat) (hn : n = L.length) (w wy : World) (h : Lst w base g 30 ver L) (hb : n ≤ 64) (hN : New w wy) : Calls Try.prog 14 #[.pointer (some ⟨g, 0, none⟩)] wy fun e w' => ∃ A c, e = .returned (.slice A n c) ∧ w'.ownsRow wy.heap.size 44 5 (.slice A n c) n (ics L) ∧ New wy w' := by
  subst hn
  refine (Items_any g 30 ver L base wy (h.new hN) hb).mono fun e w' ⟨v, he, hO, hN⟩ => ?_
  obtain ⟨A, c, rfl, _⟩ := own_form hO
  exact ⟨A, c, he, hO, hN⟩
theorem has_self (L : List It) (x : It) : ((L ++ [x]).any fun y => hasB y x.c x.o x.i) = true := by
  rw [List.any_append]
  simp [hasB, isB]
theorem off_len {add : List It} (h0 : appE false 0 [] 1 add [] = 0) : (nextI [] add []).length ≤ 64 := (app_some h0).2.2.2.2.2
theorem take_at {Pr : Program} {md : Region.Mode} {ops : Array Oper} {Q : Exit → Act → World → Prop} {i d : Nat} {oi : Oper} {v : Value} {fuel : Nat} {listed : Array Bool} {a : Act} {w : World} (hi : ops[i]? = some oi) (hd : oi.dst = some d)
    (hs : Region.noSelect ops = true) (hf : Region.free md ops listed i = true) (hr : (Region.ready md ops listed).contains i = true)
    (hQ : ∀ c a w, Q (.panic c) (a.put oi.dst v) w → Q (.panic c) a w) (hy : Yields Pr ops oi v a)
    (h : wpAny Pr md ops Q fuel (listed.setIfInBounds i true) { a with tmps := a.tmps.setIfInBounds d v } w) : wpAny Pr md ops Q (fuel + 1) listed a w :=
  wpAny_take hi hs hf hr hQ hy (by rw [hd]; exact h)
set_option maxRecDepth 100000 in
set_option maxHeartbeats 16000000 in
theorem off12_walk (tv : Int) (B : Option Addr) (m ca : Nat) (E : Option Addr) (p co : Nat) (add off : List It) {W : World} (hB : ItsN W B m ca add) (_hD : ItsN W E p co off) (at_ : Int) :
    Calls Try.prog 7 #[.agg #[.int .i64 tv, .slice B m ca, .slice E p co], .int .i64 at_] W fun e w' => e = .returned (.bool true) ∧ New W w' := by
  obtain ⟨hBl, hBi, hBn, hBb⟩ := hB
  clear _hD
  have HBi := Lib.hid hBi; clear hBi
  have HBl := Lib.hid hBl; clear hBl
  have HBn := Lib.hid hBn; clear hBn
  have HBb := Lib.hid hBb; clear hBb
  have HA0 := Lib.hid (awake12_any (W.alloc (.cells #[.int .i64 tv, .slice B m ca, .slice E p co] 37)))
  go_enter Try.func7, Try.ntmps7
  go_wp2_with fail
  with_reducible refine HA0.out.mono ?_
  rintro e w0 ⟨rfl, hN0⟩
  have HX0 := Lib.hid ((Has.new W 37 #[.int .i64 tv, .slice B m ca, .slice E p co]).keep hN0)
  have HN0 := Lib.hid (((Chg.refl (fun _ => False) W).alloc _).then_new hN0)
  clear hN0 HA0
  obtain ⟨w1, hw1⟩ : ∃ w, w = w0.alloc (.cells #[.int .i64 0, .slice none 0 0] 30) := ⟨_, rfl⟩
  have hN1 : New w0 w1 := by rw [hw1]; exact (Chg.refl _ _).alloc _
  obtain ⟨gh, hgh⟩ : ∃ g, g = w0.heap.size := ⟨_, rfl⟩
  have hL1 : Lst w1 w0.heap.size gh 30 0 [] := by rw [hw1, hgh]; exact Lst.zero w0 _
  have hgW : W.heap.size ≤ gh := by rw [hgh]; exact HN0.out.size
  have HgW := Lib.hid hgW; clear hgW
  have HX1 := Lib.hid (HX0.out.keep hN1)
  have HN1 := Lib.hid (HN0.out.then_new hN1); clear hN1
  have hlx : W.heap.size < w1.heap.size := HX1.out.lt
  have x1 : w1.cell? ⟨W.heap.size, 1, none⟩ = some (.slice B m ca) := (HX1.out.cell 1).trans rfl
  have HL1 : Hid (Lst w1 W.heap.size gh 30 0 []) := by
    obtain ⟨v, h1, h2⟩ := hL1.ex
    exact ⟨v, h1, own_base h2 (fun k hk => Nat.le_trans HN0.out.size (own_ge h2 k hk))⟩
  clear hL1
  go_upto_region 4 with (fail)
  rw [← hw1, ← hgh]
  clear hw1 hgh HX0 HN0
  go_wp2_with (at_builtin; refine wpList_copy_items rfl (.tmp 14) (.tmp 16) rfl W.heap.size w1.heap.size rfl (Has.new _ _ _) HN1.out.size B m ca add (fun k => k < W.heap.size) rfl (HBi.out.new (HN1.out.alloc _) (fun _ h => h)) HBl.out HBn.out (by have := HBb.out; omega) ?_; intro A2 c2 w2 hO2 hC2; have HO2 := Lib.hid hO2; have HN2 : Hid (New w1 w2) := (New.set ((Chg.refl _ _).alloc _) hC2 (Nat.le_refl _)); clear hO2 hC2)
  have HAp := Lib.hid ((HotApply_any W.heap.size gh 0 [] add [] A2 none m 0 c2 0 1 (fun k => Value.ownBlock (.slice A2 m c2) = some k) w2 (HL1.out.new HN2.out) (by simp) (by have := HN1.out.size; have := HN2.out.size; omega) (by omega) (by omega) (Its.of_own HO2.out) Its.empty (own_lt HO2.out) (own_items HO2.out) rfl (by have := HBb.out; omega) (by omega)).mono fun _ _ h => h.parts (Chg.refl _ _))
  obtain ⟨E0, hE⟩ : ∃ E, E = appE false 0 [] 1 add [] := ⟨_, rfl⟩
  rw [← hE] at HAp
  have HE := Lib.hid hE; clear hE
  with_reducible refine HAp.out.mono ?_
  rintro e w3 ⟨rfl, hL3, hC3⟩
  have HN3 : Hid (New W w3) := New.set (HN1.out.then_new HN2.out) hC3 HgW.out
  clear x1 hlx
  by_cases hE0 : E0 = 0
  case neg =>
    have t1 : (E0 != 0) = true := bne_iff_ne.2 hE0
    clear hE0 hL3 hC3
    go_wp2_with fail
    go_ret
    exact ⟨rfl, HN3.out⟩
  subst hE0
  have hv := (app_some HE.out.symm).1
  have hl := (app_some HE.out.symm).2.1
  rw [hv, hl] at hL3
  obtain ⟨L, hL⟩ : ∃ L, L = nextI [] add [] := ⟨_, rfl⟩
  have HS := Lib.hid (fun x M (hx : x ∈ L) (hM : M = keepI L [x]) => off_steps HE.out.symm hL hx hM)
  have hl64 := off_len HE.out.symm
  rw [← hL] at hL3 hl64
  obtain ⟨nl, hnl⟩ : ∃ n, n = L.length := ⟨_, rfl⟩
  rw [← hnl] at hl64
  have HL3 := Lib.hid hL3
  have Hnl := Lib.hid hnl
  clear hL3 hC3 hv hl hL hnl HAp
  have HI3 := Lib.hid (items_at W.heap.size gh 1 L nl Hnl.out w3 w3 HL3.out hl64 (Chg.refl _ _))
  go_wp2_with fail
  with_reducible refine HI3.out.mono ?_
  rintro e w4 ⟨A4, c4, rfl, hO4, hN4⟩
  have HL4 := Lib.hid (HL3.out.new hN4)
  have HN4 := Lib.hid (HN3.out.then_new hN4)
  clear hO4 hN4 HI3
  by_cases hz : nl = 0
  · subst hz
    go_wp2_with fail
    go_ret
    exact ⟨rfl, HN4.out⟩
  have t0 : ((nl : Int) == 0) = false := by simp only [beq_eq_false_iff_ne, ne_eq]; omega
  have HI4 := Lib.hid (items_at W.heap.size gh 1 L nl Hnl.out w4 w4 HL4.out hl64 (Chg.refl _ _))
  go_wp2_with fail
  with_reducible refine HI4.out.mono ?_
  rintro e w5 ⟨A5, c5, rfl, hO5, hN5⟩
  have HL5 := Lib.hid (HL4.out.new hN5)
  have HN5 := Lib.hid (HN4.out.then_new hN5)
  obtain ⟨r, j, hM, hj⟩ := turn_at at_ nl (by omega) hl64
  have HM := Lib.hid hM; clear hM
  obtain ⟨x, hx⟩ : ∃ x, L[j]? = some x := ⟨_, List.getElem?_eq_getElem (by rw [← Hnl.out]; exact hj)⟩
  obtain ⟨a, ha, hab, a0, a1, a2, a3, a4⟩ := (Its.of_own hO5) j x hx
  subst ha
  obtain ⟨M, hMk⟩ : ∃ M, M = keepI L [x] := ⟨_, rfl⟩
  obtain ⟨s1, s2, s3, s4, s5, s6, s7, s8⟩ := HS.out x M (List.mem_of_getElem? hx) hMk
  have HS1 := Lib.hid s1; have HS2 := Lib.hid s2; have HS3 := Lib.hid s3; have HS4 := Lib.hid s4; have HS5 := Lib.hid s5; have HS6 := Lib.hid s6; have HS7 := Lib.hid s7; have HS8 := Lib.hid s8
  clear s1 s2 s3 s4 s5 s6 s7 s8 hMk hx hab hO5 hN5 HI4 HS t0
  have hghl : gh < w5.heap.size := HL5.out.lt
  have Hself := Lib.hid (has_self M x)
  obtain ⟨y, hy⟩ : ∃ y, y = x := ⟨_, rfl⟩
  rw [← hy] at HS1 HS2 HS3 HS5 HS6 HS7 HS8
  have Hy := Lib.hid hy; clear hy
  obtain ⟨xc, xo, xi, xn, xa⟩ := x
  obtain ⟨w6, hw6⟩ : ∃ w, w = w5.alloc (.cells #[.int .i64 xc, .int .i64 xo, .int .i64 xi, .int .i64 xn, .int .i64 xa] 44) := ⟨_, rfl⟩
  obtain ⟨g7, hg7⟩ : ∃ g, g = w5.heap.size := ⟨_, rfl⟩
  have hX6 : Has w6 g7 44 #[.int .i64 xc, .int .i64 xo, .int .i64 xi, .int .i64 xn, .int .i64 xa] := by rw [hw6, hg7]; exact Has.new _ _ _
  have hN56 : New w5 w6 := by rw [hw6]; exact (Chg.refl _ _).alloc _
  have hgg : gh ≠ g7 := by omega
  have Hgg := Lib.hid hgg; clear hgg
  have HX6 := Lib.hid hX6; clear hX6
  have HL6 := Lib.hid (HL5.out.new hN56)
  have HN6 := Lib.hid (HN5.out.then_new hN56); clear hN56 hghl
  have hz0 : ¬ (nl : Int) = 0 := by omega
  obtain ⟨m1, m2, m3⟩ := HM.out
  go_upto_region 8 with (fail)
  try generalize wrap64 (r + (nl : Int)) = q9
  try generalize r + (nl : Int) = q8
  clear m1 m2 m3 hz0 a0 a1 a2 a3 a4
  rw [← hw6, ← hg7]
  clear hw6 hg7
  obtain ⟨mm, hmm⟩ : ∃ m, m = M.length := ⟨_, rfl⟩
  obtain rfl : nl = mm + 1 := by have := HS4.out; have := Hnl.out; omega
  have Hmm := Lib.hid hmm; clear hmm
  have HK : Hid (∀ wy, Chg (· = gh) w6 wy → wy.cell? ⟨g7, 0, none⟩ = some (.int .i64 xc) ∧ wy.cell? ⟨g7, 1, none⟩ = some (.int .i64 xo) ∧ wy.cell? ⟨g7, 2, none⟩ = some (.int .i64 xi) ∧ wy.cell? ⟨g7, 3, none⟩ = some (.int .i64 xn) ∧ wy.cell? ⟨g7, 4, none⟩ = some (.int .i64 xa)) := fun wy hy => by
    have hg := HX6.out.chg hy (fun e => Hgg.out e.symm)
    exact ⟨hg.cell 0, hg.cell 1, hg.cell 2, hg.cell 3, hg.cell 4⟩
  have HAA : Hid (∀ wy, New w6 wy → Has wy w6.heap.size 44 #[.int .i64 xc, .int .i64 xo, .int .i64 xi, .int .i64 xn, .int .i64 xa] → Calls Try.prog 10 #[.pointer (some ⟨gh, 0, none⟩), .agg #[.int .i64 2, .slice none 0 0, .slice (some ⟨w6.heap.size, 0, none⟩) 1 1]] wy fun e w' => e = .returned (.int .i64 0) ∧ Lst w' W.heap.size gh 30 2 M ∧ Chg (· = gh) wy w') := fun wy hN hH => by
    have h := (HotApply_any W.heap.size gh 1 L [] [y] none (some ⟨w6.heap.size, 0, none⟩) 0 1 0 1 2 (· = w6.heap.size) wy (HL6.out.new hN) (by have := Hnl.out; omega) (Nat.le_trans HN6.out.size hN.size) (by omega) (by omega) Its.empty (by rw [Hy.out]; exact Its.one hH) (fun k hk => by subst hk; exact hH.lt) rfl rfl (by omega) (by omega)).mono fun _ _ h => h.parts (Chg.refl _ _)
    rw [HS1.out, HS2.out, HS3.out] at h
    exact h
  have HII : Hid (∀ wv wy, Lst wv W.heap.size gh 30 2 M → New wv wy → Calls Try.prog 14 #[.pointer (some ⟨gh, 0, none⟩)] wy fun e w' => ∃ A c, e = .returned (.slice A mm c) ∧ w'.ownsRow wy.heap.size 44 5 (.slice A mm c) mm (ics M) ∧ New wy w') := fun wv wy h hN => items_at W.heap.size gh 2 M mm Hmm.out wv wy h (by omega) hN
  have HIn : Hid (∀ wy A c b, wy.ownsRow b 44 5 (.slice A mm c) mm (ics M) → Calls Try.prog 25 #[.slice A mm c, .agg #[.int .i64 xc, .int .i64 xo, .int .i64 xi, .int .i64 xn, .int .i64 xa]] wy fun e w' => e = .returned (.bool false) ∧ New wy w') := fun wy A c b h => by
    have h2 := docIn_any M y A mm c wy _ (own_items h) (by omega) (Its.of_own h) (own_lt h)
    rw [HS5.out, Hy.out] at h2
    exact h2
  go_cut [70] (fun s70 wc => s70 = .bool false ∧ Chg (· = gh) w6 wc ∧ Lst wc W.heap.size gh 30 2 M)
  case first =>
    have gl6 := HX6.out.lt
    obtain ⟨k60, k61, k62, k63, k64⟩ := HK.out w6 (Chg.refl _ _)
    have hmz : IntKind.i64.wrap (mm : Int) = (mm : Int) := IntWalk.i64_in _ (by omega)
    refine wp_region_any (by kernel_rfl) ?_
    change wpAny _ _ _ _ _ _ _ (World.drew _)
    refine take_at (i := 0) (d := 46) (v := .pointer (some ⟨gh, 0, none⟩)) rfl rfl (by kernel_rfl) (by kernel_rfl) (by kernel_rfl) (fun _ _ _ h => h) (Or.inl ⟨by go_simp, fun _ => by go_simp⟩) ?_
    simp only [List.setIfInBounds_toArray, List.set_cons_zero, List.set_cons_succ]
    refine wpAny_ready (rs := [1]) (by kernel_rfl) (by simp) ?_
    refine (AllReady.cons rfl (fun K hK => ?_) AllReady.nil)
    go_simp
    refine hK _ _ ?_
    clear hK K
    try simp only [Act.put, List.setIfInBounds_toArray, List.set_cons_zero, List.set_cons_succ]
    refine wpAny_ready (rs := [2]) (by kernel_rfl) (by simp) ?_
    refine (AllReady.cons rfl (fun K hK => ?_) AllReady.nil)
    go_simp
    refine hK _ _ ?_
    clear hK K
    try simp only [Act.put, List.setIfInBounds_toArray, List.set_cons_zero, List.set_cons_succ]
    refine take_at (i := 3) (d := 49) (v := .agg #[.int .i64 2, .slice none 0 0, .slice (some ⟨w6.heap.size, 0, none⟩) 1 1]) rfl rfl (by kernel_rfl) (by kernel_rfl) (by kernel_rfl) (fun _ _ _ h => h) (Or.inl ⟨by go_simp, fun _ => by go_simp⟩) ?_
    simp only [List.setIfInBounds_toArray, List.set_cons_zero, List.set_cons_succ]
    refine wpAny_ready (rs := [4]) (by kernel_rfl) (by simp) ?_
    refine (AllReady.cons rfl (fun K hK => ?_) AllReady.nil)
    go_simp
    with_reducible refine (HAA.out _ (by ((with_reducible repeat (first | exact Chg.refl _ _ | refine Chg.alloc ?_ _ | refine Chg.drew ?_)); fail_if_success (have := True.intro))) (by ((with_reducible repeat (first | exact Has.new_at _ _ _ _ (by simp; fail_if_success (have := True.intro)) | refine Has.drew ?_)); fail_if_success (have := True.intro)))).mono ?_
    rintro e v7 ⟨rfl, hL7, hC7⟩
    have HL7 := Lib.hid hL7
    have HV7 : Hid (Chg (· = gh) w6 v7) := Chg.new_then (by ((with_reducible repeat (first | exact Chg.refl _ _ | refine Chg.alloc ?_ _ | refine Chg.drew ?_)); fail_if_success (have := True.intro))) hC7
    clear hL7 hC7 gl6 k60 k61 k62 k63 k64
    have gl7 : g7 < v7.heap.size := Nat.lt_of_lt_of_le HX6.out.lt HV7.out.size
    obtain ⟨k70, k71, k72, k73, k74⟩ := HK.out _ HV7.out
    refine hK _ _ ?_
    clear hK K
    try simp only [Act.put, List.setIfInBounds_toArray, List.set_cons_zero, List.set_cons_succ]
    refine take_at (i := 5) (d := 51) (v := .bool false) rfl rfl (by kernel_rfl) (by kernel_rfl) (by kernel_rfl) (fun _ _ _ h => h) (Or.inl ⟨by go_simp, fun _ => by go_simp⟩) ?_
    simp only [List.setIfInBounds_toArray, List.set_cons_zero, List.set_cons_succ]
    refine take_at (i := 6) (d := 52) (v := .bool false) rfl rfl (by kernel_rfl) (by kernel_rfl) (by kernel_rfl) (fun _ _ _ h => h) (Or.inl ⟨by go_simp, fun _ => by go_simp⟩) ?_
    simp only [List.setIfInBounds_toArray, List.set_cons_zero, List.set_cons_succ]
    refine take_at (i := 7) (d := 53) (v := .pointer (some ⟨gh, 0, none⟩)) rfl rfl (by kernel_rfl) (by kernel_rfl) (by kernel_rfl) (fun _ _ _ h => h) (Or.inl ⟨by go_simp, fun _ => by go_simp⟩) ?_
    simp only [List.setIfInBounds_toArray, List.set_cons_zero, List.set_cons_succ]
    refine take_at (i := 8) (d := 54) (v := .pointer (some ⟨gh, 0, none⟩)) rfl rfl (by kernel_rfl) (by kernel_rfl) (by kernel_rfl) (fun _ _ _ h => h) (Or.inl ⟨by go_simp, fun _ => by go_simp⟩) ?_
    simp only [List.setIfInBounds_toArray, List.set_cons_zero, List.set_cons_succ]
    refine take_at (i := 9) (d := 55) (v := .pointer (some ⟨gh, 0, none⟩)) rfl rfl (by kernel_rfl) (by kernel_rfl) (by kernel_rfl) (fun _ _ _ h => h) (Or.inl ⟨by go_simp, fun _ => by go_simp⟩) ?_
    simp only [List.setIfInBounds_toArray, List.set_cons_zero, List.set_cons_succ]
    refine take_at (i := 12) (d := 58) (v := .slice (some a) (mm + 1) c5) rfl rfl (by kernel_rfl) (by kernel_rfl) (by kernel_rfl) (fun _ _ _ h => h) (Or.inl ⟨by go_simp, fun _ => by go_simp⟩) ?_
    simp only [List.setIfInBounds_toArray, List.set_cons_zero, List.set_cons_succ]
    refine take_at (i := 13) (d := 59) (v := .int .i64 ((mm : Int) + 1)) rfl rfl (by kernel_rfl) (by kernel_rfl) (by kernel_rfl) (fun _ _ _ h => h) (Or.inl ⟨by go_simp, fun _ => by go_simp⟩) ?_
    simp only [List.setIfInBounds_toArray, List.set_cons_zero, List.set_cons_succ]
    refine take_at (i := 14) (d := 60) (v := .int .i64 (mm : Int)) rfl rfl (by kernel_rfl) (by kernel_rfl) (by kernel_rfl) (fun _ _ _ h => h) (Or.inl ⟨by go_simp, fun _ => by go_simp⟩) ?_
    simp only [List.setIfInBounds_toArray, List.set_cons_zero, List.set_cons_succ]
    refine wpAny_ready (rs := [10]) (by kernel_rfl) (by simp) ?_
    refine (AllReady.cons rfl (fun K hK => ?_) AllReady.nil)
    go_simp
    with_reducible refine (HII.out _ _ HL7.out (Chg.refl _ _)).mono ?_
    rintro e v8 ⟨A8, c8, rfl, hO8, hN⟩
    have HL8 := Lib.hid (HL7.out.new hN)
    have HV8 : Hid (Chg (· = gh) w6 v8) := HV7.out.then_new hN
    clear hN hO8 gl7 k70 k71 k72 k73 k74
    have gl8 : g7 < v8.heap.size := Nat.lt_of_lt_of_le HX6.out.lt HV8.out.size
    obtain ⟨k80, k81, k82, k83, k84⟩ := HK.out _ HV8.out
    refine hK _ _ ?_
    clear hK K
    try simp only [Act.put, List.setIfInBounds_toArray, List.set_cons_zero, List.set_cons_succ]
    refine take_at (i := 11) (d := 57) (v := .int .i64 (mm : Int)) rfl rfl (by kernel_rfl) (by kernel_rfl) (by kernel_rfl) (fun _ _ _ h => h) (Or.inl ⟨by go_simp, fun _ => by go_simp⟩) ?_
    simp only [List.setIfInBounds_toArray, List.set_cons_zero, List.set_cons_succ]
    refine take_at (i := 15) (d := 61) (v := .bool false) rfl rfl (by kernel_rfl) (by kernel_rfl) (by kernel_rfl) (fun _ _ _ h => h) (Or.inl ⟨by go_simp, fun _ => by go_simp⟩) ?_
    simp only [List.setIfInBounds_toArray, List.set_cons_zero, List.set_cons_succ]
    refine take_at (i := 16) (d := 62) (v := .bool false) rfl rfl (by kernel_rfl) (by kernel_rfl) (by kernel_rfl) (fun _ _ _ h => h) (Or.inl ⟨by go_simp, fun _ => by go_simp⟩) ?_
    simp only [List.setIfInBounds_toArray, List.set_cons_zero, List.set_cons_succ]
    refine take_at (i := 17) (d := 63) (v := .bool false) rfl rfl (by kernel_rfl) (by kernel_rfl) (by kernel_rfl) (fun _ _ _ h => h) (Or.inl ⟨by go_simp, fun _ => by go_simp⟩) ?_
    simp only [List.setIfInBounds_toArray, List.set_cons_zero, List.set_cons_succ]
    refine take_at (i := 18) (d := 64) (v := .pointer (some ⟨gh, 0, none⟩)) rfl rfl (by kernel_rfl) (by kernel_rfl) (by kernel_rfl) (fun _ _ _ h => h) (Or.inl ⟨by go_simp, fun _ => by go_simp⟩) ?_
    simp only [List.setIfInBounds_toArray, List.set_cons_zero, List.set_cons_succ]
    refine take_at (i := 19) (d := 65) (v := .pointer (some ⟨gh, 0, none⟩)) rfl rfl (by kernel_rfl) (by kernel_rfl) (by kernel_rfl) (fun _ _ _ h => h) (Or.inl ⟨by go_simp, fun _ => by go_simp⟩) ?_
    simp only [List.setIfInBounds_toArray, List.set_cons_zero, List.set_cons_succ]
    refine take_at (i := 20) (d := 66) (v := .pointer (some ⟨gh, 0, none⟩)) rfl rfl (by kernel_rfl) (by kernel_rfl) (by kernel_rfl) (fun _ _ _ h => h) (Or.inl ⟨by go_simp, fun _ => by go_simp⟩) ?_
    simp only [List.setIfInBounds_toArray, List.set_cons_zero, List.set_cons_succ]
    refine wpAny_ready (rs := [21, 22]) (by kernel_rfl) (by simp) ?_
    refine (AllReady.cons rfl (fun K hK => ?_) (AllReady.cons rfl (fun K hK => ?_) AllReady.nil))
    · go_simp
      with_reducible refine (HII.out _ _ HL8.out (Chg.refl _ _)).mono ?_
      rintro e v9 ⟨A9, c9, rfl, hO9, hN⟩
      have HO9 := Lib.hid hO9
      have HL9 := Lib.hid (HL8.out.new hN)
      have HV9 : Hid (Chg (· = gh) w6 v9) := HV8.out.then_new hN
      clear hN hO9 gl8 k80 k81 k82 k83 k84
      have gl9 : g7 < v9.heap.size := Nat.lt_of_lt_of_le HX6.out.lt HV9.out.size
      obtain ⟨k90, k91, k92, k93, k94⟩ := HK.out _ HV9.out
      refine hK _ _ ?_
      clear hK K
      try simp only [Act.put, List.setIfInBounds_toArray, List.set_cons_zero, List.set_cons_succ]
      refine wpAny_ready (rs := [22]) (by kernel_rfl) (by simp) ?_
      refine (AllReady.cons rfl (fun K hK => ?_) AllReady.nil)
      go_simp
      refine hK _ _ ?_
      clear hK K
      try simp only [Act.put, List.setIfInBounds_toArray, List.set_cons_zero, List.set_cons_succ]
      refine wpAny_ready (rs := [23]) (by kernel_rfl) (by simp) ?_
      refine (AllReady.cons rfl (fun K hK => ?_) AllReady.nil)
      go_simp
      with_reducible refine (HIn.out _ _ _ _ HO9.out).mono ?_
      rintro e v10 ⟨rfl, hN⟩
      have HL10 := Lib.hid (HL9.out.new hN)
      have HV10 : Hid (Chg (· = gh) w6 v10) := HV9.out.then_new hN
      clear hN gl9 k90 k91 k92 k93 k94
      have gl10 : g7 < v10.heap.size := Nat.lt_of_lt_of_le HX6.out.lt HV10.out.size
      obtain ⟨k100, k101, k102, k103, k104⟩ := HK.out _ HV10.out
      refine hK _ _ ?_
      clear hK K
      try simp only [Act.put, List.setIfInBounds_toArray, List.set_cons_zero, List.set_cons_succ]
      refine take_at (i := 24) (d := 70) (v := .bool false) rfl rfl (by kernel_rfl) (by kernel_rfl) (by kernel_rfl) (fun _ _ _ h => h) (Or.inl ⟨by go_simp, fun _ => by go_simp⟩) ?_
      simp only [List.setIfInBounds_toArray, List.set_cons_zero, List.set_cons_succ]
      refine wpAny_done (by kernel_rfl) ?_ _
      go_wp2_with fail
      go_meet
      exact ⟨rfl, HV10.out, HL10.out⟩
    · go_simp
      refine hK _ _ ?_
      clear hK K
      try simp only [Act.put, List.setIfInBounds_toArray, List.set_cons_zero, List.set_cons_succ]
      refine wpAny_ready (rs := [21]) (by kernel_rfl) (by simp) ?_
      refine (AllReady.cons rfl (fun K hK => ?_) AllReady.nil)
      go_simp
      with_reducible refine (HII.out _ _ HL8.out (Chg.refl _ _)).mono ?_
      rintro e v9 ⟨A9, c9, rfl, hO9, hN⟩
      have HO9 := Lib.hid hO9
      have HL9 := Lib.hid (HL8.out.new hN)
      have HV9 : Hid (Chg (· = gh) w6 v9) := HV8.out.then_new hN
      clear hN hO9 gl8 k80 k81 k82 k83 k84
      have gl9 : g7 < v9.heap.size := Nat.lt_of_lt_of_le HX6.out.lt HV9.out.size
      obtain ⟨k90, k91, k92, k93, k94⟩ := HK.out _ HV9.out
      refine hK _ _ ?_
      clear hK K
      try simp only [Act.put, List.setIfInBounds_toArray, List.set_cons_zero, List.set_cons_succ]
      refine wpAny_ready (rs := [23]) (by kernel_rfl) (by simp) ?_
      refine (AllReady.cons rfl (fun K hK => ?_) AllReady.nil)
      go_simp
      with_reducible refine (HIn.out _ _ _ _ HO9.out).mono ?_
      rintro e v10 ⟨rfl, hN⟩
      have HL10 := Lib.hid (HL9.out.new hN)
      have HV10 : Hid (Chg (· = gh) w6 v10) := HV9.out.then_new hN
      clear hN gl9 k90 k91 k92 k93 k94
      have gl10 : g7 < v10.heap.size := Nat.lt_of_lt_of_le HX6.out.lt HV10.out.size
      obtain ⟨k100, k101, k102, k103, k104⟩ := HK.out _ HV10.out
      refine hK _ _ ?_
      clear hK K
      try simp only [Act.put, List.setIfInBounds_toArray, List.set_cons_zero, List.set_cons_succ]
      refine take_at (i := 24) (d := 70) (v := .bool false) rfl rfl (by kernel_rfl) (by kernel_rfl) (by kernel_rfl) (fun _ _ _ h => h) (Or.inl ⟨by go_simp, fun _ => by go_simp⟩) ?_
      simp only [List.setIfInBounds_toArray, List.set_cons_zero, List.set_cons_succ]
      refine wpAny_done (by kernel_rfl) ?_ _
      go_wp2_with fail
      go_meet
      exact ⟨rfl, HV10.out, HL10.out⟩
  case rest =>
    obtain ⟨hs, hC, hL⟩ := hcut
    subst hs
    have HV10 := Lib.hid hC
    have HL10 := Lib.hid hL
    have HN10 : Hid (New W wc) := New.set HN6.out hC HgW.out
    clear hC hL HAA HII HIn
    have gl := Nat.lt_of_lt_of_le HX6.out.lt HV10.out.size
    obtain ⟨k0, k1, k2, k3, k4⟩ := HK.out _ HV10.out
    have hH := ((Has.new wc 44 #[.int .i64 xc, .int .i64 xo, .int .i64 xi, .int .i64 xn, .int .i64 xa]).alloc (.cells #[.int .i64 xc, .int .i64 xo, .int .i64 xi, .int .i64 xn, .int .i64 xa] 44))
    have hH2 := Has.new_at (wc.alloc (.cells #[.int .i64 xc, .int .i64 xo, .int .i64 xi, .int .i64 xn, .int .i64 xa] 44)) 44 #[.int .i64 xc, .int .i64 xo, .int .i64 xi, .int .i64 xn, .int .i64 xa] (wc.heap.size + 1) (by simp)
    have hN11 : New wc ((wc.alloc (.cells #[.int .i64 xc, .int .i64 xo, .int .i64 xi, .int .i64 xn, .int .i64 xa] 44)).alloc (.cells #[.int .i64 xc, .int .i64 xo, .int .i64 xi, .int .i64 xn, .int .i64 xa] 44)) := ((Chg.refl _ _).alloc _).alloc _
    have HA2 := Lib.hid ((HotApply_any W.heap.size gh 2 M [y] [y] (some ⟨wc.heap.size, 0, none⟩) (some ⟨wc.heap.size + 1, 0, none⟩) 1 1 1 1 3 (fun k => k = wc.heap.size ∨ k = wc.heap.size + 1) ((wc.alloc (.cells #[.int .i64 xc, .int .i64 xo, .int .i64 xi, .int .i64 xn, .int .i64 xa] 44)).alloc (.cells #[.int .i64 xc, .int .i64 xo, .int .i64 xi, .int .i64 xn, .int .i64 xa] 44)) (HL10.out.new hN11) (by have := Hmm.out; omega) (Nat.le_trans HN10.out.size hN11.size) (by omega) (by omega) ((by rw [Hy.out]; exact Its.one hH : Its _ (· = wc.heap.size) _ [y]).mono fun _ h => Or.inl h) ((by rw [Hy.out]; exact Its.one hH2 : Its _ (· = wc.heap.size + 1) _ [y]).mono fun _ h => Or.inr h) (fun k hk => by rcases hk with rfl | rfl <;> simp <;> omega) rfl rfl (by omega) (by omega)).mono fun _ _ h => h.parts (Chg.refl _ _))
    rw [HS6.out, HS7.out, HS8.out] at HA2
    clear hH hH2
    go_wp2_with fail
    with_reducible refine HA2.out.mono ?_
    rintro e w12 ⟨rfl, hL12, hC12⟩
    have HL12 := Lib.hid hL12
    have HV12 : Hid (Chg (· = gh) w6 w12) := (HV10.out.then_new hN11).trans hC12 (fun _ _ h => h)
    have HN12 : Hid (New W w12) := New.set (HN10.out.then_new hN11) hC12 HgW.out
    clear hL12 hC12 hN11 gl k0 k1 k2 k3 k4 HA2
    have HI12 := Lib.hid (items_at W.heap.size gh 3 (M ++ [y]) (mm + 1) (by have := Hmm.out; simp only [List.length_append, List.length_cons, List.length_nil]; omega) w12 w12 HL12.out hl64 (Chg.refl _ _))
    go_wp2_with fail
    with_reducible refine HI12.out.mono ?_
    rintro e w13 ⟨A13, c13, rfl, hO13, hN13⟩
    have HL13 := Lib.hid (HL12.out.new hN13)
    have HV13 : Hid (Chg (· = gh) w6 w13) := HV12.out.then_new hN13
    have HN13 := Lib.hid (HN12.out.then_new hN13)
    have hlast : (M ++ [y])[mm]? = some y := by rw [Hmm.out]; simp
    obtain ⟨al, hal, hab, _⟩ := (Its.of_own hO13) mm y hlast
    subst hal
    have HK3 : Hid (∀ wy, New w13 wy → (wy.cell? ⟨g7, 0, none⟩ = some (.int .i64 xc) ∧ wy.cell? ⟨g7, 1, none⟩ = some (.int .i64 xo) ∧ wy.cell? ⟨g7, 2, none⟩ = some (.int .i64 xi) ∧ wy.cell? ⟨g7, 3, none⟩ = some (.int .i64 xn) ∧ wy.cell? ⟨g7, 4, none⟩ = some (.int .i64 xa)) ∧ wy.cell? (al.add (mm * 5)) = some (.int .i64 xc) ∧ wy.cell? ⟨(al.add (mm * 5)).block, (al.add (mm * 5)).off + 1, none⟩ = some (.int .i64 xo) ∧ wy.cell? ⟨(al.add (mm * 5)).block, (al.add (mm * 5)).off + 2, none⟩ = some (.int .i64 xi) ∧ wy.cell? ⟨(al.add (mm * 5)).block, (al.add (mm * 5)).off + 3, none⟩ = some (.int .i64 xn) ∧ wy.cell? ⟨(al.add (mm * 5)).block, (al.add (mm * 5)).off + 4, none⟩ = some (.int .i64 xa)) := fun wy hy => by
      obtain ⟨al', hal', _, b0, b1, b2, b3, b4⟩ := ((Its.of_own hO13).new hy (own_lt hO13)) mm y hlast
      simp only [Option.some.injEq] at hal'
      subst hal'
      rw [Hy.out] at b0 b1 b2 b3 b4
      exact ⟨HK.out _ (HV13.out.then_new hy), b0, b1, b2, b3, b4⟩
    have hlb : (al.add (mm * 5)).block < w13.heap.size := by rw [add_block]; exact own_lt hO13 _ hab
    have Hlb := Lib.hid hlb
    clear hN13 hlast hab hO13 hlb HI12
    have HH : Hid (∀ wy, New w13 wy → Calls Try.prog 16 #[.pointer (some ⟨gh, 0, none⟩), .int .i64 xc, .int .i64 xo, .int .i64 xi] wy fun e w' => e = .returned (.bool true) ∧ New wy w') := fun wy hy => by
      have h := Has_any gh 30 3 (M ++ [y]) W.heap.size xc xo xi wy (HL13.out.new hy) (by have := Hmm.out; simp only [List.length_append, List.length_cons, List.length_nil]; omega)
      rw [show ((M ++ [y]).any fun x => hasB x xc xo xi) = true from by have := Hself.out; rw [← Hy.out] at this; have e := Hy.out; rw [e] at this ⊢; exact this] at h
      exact h
    have HVv : Hid (∀ wy, New w13 wy → Calls Try.prog 15 #[.pointer (some ⟨gh, 0, none⟩)] wy fun e w' => e = .returned (.int .i64 3) ∧ New wy w') := fun wy hy => Version_any gh 30 3 (M ++ [y]) W.heap.size wy (HL13.out.new hy)
    have hmz : IntKind.i64.wrap (mm : Int) = (mm : Int) := IntWalk.i64_in _ (by omega)
    have gl := Nat.lt_of_lt_of_le HX6.out.lt HV13.out.size
    have glb := Hlb.out
    obtain ⟨⟨k0, k1, k2, k3, k4⟩, b0, b1, b2, b3, b4⟩ := HK3.out _ (Chg.refl _ _)
    go_wp2_with fail
    go_region_held_law (fun wx => (wx.cell? ⟨g7, 0, none⟩ = some (.int .i64 xc) ∧ wx.cell? ⟨g7, 1, none⟩ = some (.int .i64 xo) ∧ wx.cell? ⟨g7, 2, none⟩ = some (.int .i64 xi) ∧ wx.cell? ⟨g7, 3, none⟩ = some (.int .i64 xn) ∧ wx.cell? ⟨g7, 4, none⟩ = some (.int .i64 xa)) ∧ wx.cell? (al.add (mm * 5)) = some (.int .i64 xc) ∧ wx.cell? ⟨(al.add (mm * 5)).block, (al.add (mm * 5)).off + 1, none⟩ = some (.int .i64 xo) ∧ wx.cell? ⟨(al.add (mm * 5)).block, (al.add (mm * 5)).off + 2, none⟩ = some (.int .i64 xi) ∧ wx.cell? ⟨(al.add (mm * 5)).block, (al.add (mm * 5)).off + 3, none⟩ = some (.int .i64 xn) ∧ wx.cell? ⟨(al.add (mm * 5)).block, (al.add (mm * 5)).off + 4, none⟩ = some (.int .i64 xa))
      (with_reducible refine HK3.out _ ?_; with_reducible repeat (first | exact HV15.out | exact HV14.out | exact Chg.refl _ _ | refine Chg.alloc ?_ _ | refine Chg.drew ?_))
      (first
      | (go_at_call 15; (with_reducible refine (HVv.out _ (by ((with_reducible repeat (first | exact HV15.out | exact HV14.out | exact Chg.refl _ _ | refine Chg.alloc ?_ _ | refine Chg.drew ?_)); fail_if_success (have := True.intro)))).mono ?_); rintro e v15 ⟨rfl, hN⟩; have HV15 : Hid (New w13 v15) := Chg.then_new (by ((with_reducible repeat (first | exact HV15.out | exact HV14.out | exact Chg.refl _ _ | refine Chg.alloc ?_ _ | refine Chg.drew ?_)); fail_if_success (have := True.intro))) hN; clear hN)
      | (go_at_call 16; (with_reducible refine (HH.out _ (by ((with_reducible repeat (first | exact HV15.out | exact HV14.out | exact Chg.refl _ _ | refine Chg.alloc ?_ _ | refine Chg.drew ?_)); fail_if_success (have := True.intro)))).mono ?_); rintro e v14 ⟨rfl, hN⟩; have HV14 : Hid (New w13 v14) := Chg.then_new (by ((with_reducible repeat (first | exact HV15.out | exact HV14.out | exact Chg.refl _ _ | refine Chg.alloc ?_ _ | refine Chg.drew ?_)); fail_if_success (have := True.intro))) hN; clear hN))
    all_goals
      go_wp2_with fail
      go_ret
      exact ⟨rfl, HN13.out.then_new HV15.out⟩
end Go.Proofs.Ytficopkjpdfilaa
