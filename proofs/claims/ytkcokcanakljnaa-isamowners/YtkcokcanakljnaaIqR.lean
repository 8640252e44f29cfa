/-
  Package ipe's Open of a body.
-/
import Derived.Test.YtkcokcanakljnaaXO2
namespace Go.Proofs.Ytkcokcanakljnaa
open Go.RowKit
noncomputable def opnE (b : List Nat) : Int := match openN b with
  | .inl z => z
  | .inr _ => 0
noncomputable def opnT (b : List Nat) : Int := match openN b with
  | .inl _ => 0
  | .inr x => x.2
noncomputable def opnP (b : List Nat) : Pd := match openN b with
  | .inl _ => pz
  | .inr x => Pd.of x.1
theorem opn_l {b : List Nat} {z : Nat} (h : openN b = .inl z) : opnP b = pz ∧ opnT b = 0 ∧ opnE b = z := by
  unfold opnP opnT opnE; rw [h]; exact ⟨rfl, rfl, rfl⟩
theorem opn_r {b : List Nat} {m : List Int} {t : Nat} (h : openN b = .inr (m, t)) : opnP b = Pd.of m ∧ opnT b = (t : Int) ∧ opnE b = 0 := by
  unfold opnP opnT opnE; rw [h]; exact ⟨rfl, rfl, rfl⟩
theorem parZ_l {f : List Nat} (h : ¬ parZ f = 0) : ∃ z : Nat, parseN f = .inl z ∧ parZ f = z := by
  unfold parZ at h ⊢
  cases hp : parseN f with
  | inl z => exact ⟨z, rfl, rfl⟩
  | inr m => rw [hp] at h; exact absurd rfl h
theorem parZ_r {f : List Nat} (h : parZ f = 0) : ∃ m, parseN f = .inr m ∧ parP f = Pd.of m := by
  unfold parP
  cases hp : parseN f with
  | inr m => exact ⟨m, rfl, rfl⟩
  | inl z =>
    exfalso
    unfold parZ at h
    rw [hp] at h
    have hz : z = 0 := by simpa using h
    unfold parseN at hp
    cases hd : decd 4 0 f with
    | err y =>
      rw [hd] at hp
      have := err_zero 4 f.length 0 f (Nat.le_refl _) y hd
      cases hp
      exact this hz
    | ok T =>
      rw [hd] at hp
      have := say_12 hp
      omega
/-- what is told of the pieces is told of the body -/
theorem open_pieces {b : List Nat} {k : Nat} (hl : b.length = 64) (hk : k = b.getD 0 0) (h59 : k ≤ 59) :
    (∀ z, parseN ((b.drop 1).take k) = .inl z → openN b = .inl z) ∧
    (∀ m, parseN ((b.drop 1).take k) = .inr m → (∃ j, 4 ≤ j ∧ j < ((b.drop (1 + k)).take (64 - (1 + k))).length ∧ ((b.drop (1 + k)).take (64 - (1 + k))).getD j 0 ≠ 0) → openN b = .inl 14) ∧
    (∀ m, parseN ((b.drop 1).take k) = .inr m → (∀ j, 4 ≤ j → j < ((b.drop (1 + k)).take (64 - (1 + k))).length → ((b.drop (1 + k)).take (64 - (1 + k))).getD j 0 = 0) → okT (tokV (((b.drop (1 + k)).take (64 - (1 + k))).take 4) : Int) = false → openN b = .inl 12) ∧
    (∀ m, parseN ((b.drop 1).take k) = .inr m → (∀ j, 4 ≤ j → j < ((b.drop (1 + k)).take (64 - (1 + k))).length → ((b.drop (1 + k)).take (64 - (1 + k))).getD j 0 = 0) → okT (tokV (((b.drop (1 + k)).take (64 - (1 + k))).take 4) : Int) = true → openN b = .inr (m, tokV (((b.drop (1 + k)).take (64 - (1 + k))).take 4))) := by
  have hrl : ((b.drop (1 + k)).take (64 - (1 + k))).length = 64 - (1 + k) := by rw [List.length_take, List.length_drop]; omega
  have hget : ∀ j, j < 64 - (1 + k) → ((b.drop (1 + k)).take (64 - (1 + k))).getD j 0 = b.getD (1 + k + j) 0 := fun j hj => by
    rw [List.getD_eq_getElem?_getD, List.getElem?_take_of_lt hj, List.getElem?_drop, List.getD_eq_getElem?_getD]
  have htk : ((b.drop (1 + k)).take (64 - (1 + k))).take 4 = (b.drop (1 + k)).take 4 := by rw [List.take_take]; congr 1; omega
  have hopen : openN b = match parseN ((b.drop 1).take k) with
      | .inl z => .inl z
      | .inr m => if RestP b k then .inl 14 else if tokV ((b.drop (1 + k)).take 4) = 0 ∨ 2147483647 < tokV ((b.drop (1 + k)).take 4) then .inl 12 else .inr (m, tokV ((b.drop (1 + k)).take 4)) := by
    unfold openN
    rw [if_neg (by omega), if_neg (by omega), ← hk, if_neg (by omega)]
    try rfl
  rw [hrl, htk]
  have hno : (∀ j, 4 ≤ j → j < 64 - (1 + k) → ((b.drop (1 + k)).take (64 - (1 + k))).getD j 0 = 0) → ¬ RestP b k := fun h => by
    rintro ⟨j, h1, h2, h3⟩
    have := h (j - (1 + k)) (by omega) (by omega)
    rw [hget _ (by omega), show 1 + k + (j - (1 + k)) = j by omega] at this
    exact h3 this
  refine ⟨fun z h => ?_, fun m h hr => ?_, fun m h hr ht => ?_, fun m h hr ht => ?_⟩
  · rw [hopen, h]
  · rw [hopen, h]
    obtain ⟨j, h1, h2, h3⟩ := hr
    exact if_pos ⟨1 + k + j, by omega, by omega, by rw [← hget j h2]; exact h3⟩
  · rw [hopen, h]
    show (if RestP b k then _ else _) = _
    rw [if_neg (hno hr), if_pos]
    unfold okT at ht
    simp only [Bool.and_eq_false_iff, decide_eq_false_iff_not] at ht
    omega
  · rw [hopen, h]
    show (if RestP b k then _ else _) = _
    rw [if_neg (hno hr), if_neg]
    unfold okT at ht
    simp only [Bool.and_eq_true, decide_eq_true_eq] at ht
    omega
set_option maxRecDepth 100000 in
set_option maxHeartbeats 4000000 in
theorem iOpen_any (bs : List Nat) (n c : Nat) (A : Option Addr) (w : World) (F : Nat → Prop) (hB : Byts w F (.slice A n c) bs) (hnc : n ≤ c) (hcm : c ≤ maxLen) (hF : ∀ k, F k → k < w.heap.size) :
    Calls Try.prog 18 #[.slice A n c] w fun e w' => e = .returned (.tuple #[(opnP bs).V, .int .i64 (opnT bs), .int .i64 (opnE bs)]) ∧ New w w' := by
  have hlen := hB.len.1
  have hsm := hB.len.2.2
  have HPa : Hid (∀ wx, New w wx → Calls Try.prog 53 #[.slice A n c] wx fun e w' => PartR A n c bs e ∧ New wx w') := fun wx hx => parts_any bs n c A wx F (hB.new hx hF) hnc
  obtain ⟨E, hE⟩ : ∃ E, E = opnE bs := ⟨_, rfl⟩
  obtain ⟨R, hR⟩ : ∃ R, R = opnP bs := ⟨_, rfl⟩
  obtain ⟨K, hK⟩ : ∃ K, K = opnT bs := ⟨_, rfl⟩
  rw [← hE, ← hR, ← hK]
  have HQl : Hid (∀ z : Nat, openN bs = .inl z → R = pz ∧ K = 0 ∧ E = z) := fun z h => by rw [hR, hK, hE]; exact opn_l h
  have HQr : Hid (∀ m t, openN bs = .inr (m, t) → R = Pd.of m ∧ K = (t : Int) ∧ E = 0) := fun m t h => by rw [hR, hK, hE]; exact opn_r h
  have HBy := Lib.hid hB
  have HF := Lib.hid hF
  have Hlen := Lib.hid hlen
  have Hsm := Lib.hid hsm
  have Hnc := Lib.hid hnc
  have Hcm := Lib.hid hcm
  clear hE hR hK hB hF hlen hsm hnc hcm
  go_enter Try.func18, Try.ntmps18
  go_wp2_with fail
  with_reducible refine (HPa.out _ ((Chg.refl _ _).alloc _)).mono ?_
  rintro e w1 ⟨hP, hN⟩
  have HB := Lib.hid ((Has.new w 24 #[.int .i64 0, .int .i64 0, .int .i64 0, .int .i64 0, .int .i64 0, .int .i64 0, .int .i64 0, .int .i64 0, .bool false, .int .i64 0, .int .i64 0, .int .i64 0, .int .i64 0, .bool false]).keep hN)
  have HN := Lib.hid (((Chg.refl (fun _ => False) w).alloc (.cells #[.int .i64 0, .int .i64 0, .int .i64 0, .int .i64 0, .int .i64 0, .int .i64 0, .int .i64 0, .int .i64 0, .bool false, .int .i64 0, .int .i64 0, .int .i64 0, .int .i64 0, .bool false] 24)).then_new hN)
  obtain ⟨rb, hrb⟩ : ∃ rb, rb = w.heap.size := ⟨_, rfl⟩
  rw [← hrb] at HB ⊢
  have Hrb := Lib.hid hrb
  clear hN HPa hrb
  rcases hP with ⟨h1, rfl⟩ | ⟨h1, rfl⟩ | ⟨rfl, h1, rfl⟩ | ⟨rfl, h59, a, rfl, rfl⟩
  · have HQ := Lib.hid (HQl.out 10 (by unfold openN; rw [if_pos (by rw [Hlen.out]; exact h1)]))
    clear h1 HQl HQr
    go_wp2_with (first
      | (refine wpList_store_pd rfl (.tmp 2) (.tmp 18) rfl rb pz _ rfl rfl HB.out rfl ?_
         intro wX hX hCX
         have HX := Lib.hid hX
         have HNX := Lib.hid (HN.out.trans hCX (fun i hi h => by rw [h, Hrb.out] at hi; omega))
         clear hX hCX)
      | fail)
    have g0 : wX.cell? ⟨rb, 0, none⟩ = some (.int .i64 pz.x0) := (HX.out.cell 0).trans rfl
    have g1 : wX.cell? ⟨rb, 1, none⟩ = some (.int .i64 pz.x1) := (HX.out.cell 1).trans rfl
    have g2 : wX.cell? ⟨rb, 2, none⟩ = some (.int .i64 pz.x2) := (HX.out.cell 2).trans rfl
    have g3 : wX.cell? ⟨rb, 3, none⟩ = some (.int .i64 pz.x3) := (HX.out.cell 3).trans rfl
    have g4 : wX.cell? ⟨rb, 4, none⟩ = some (.int .i64 pz.x4) := (HX.out.cell 4).trans rfl
    have g5 : wX.cell? ⟨rb, 5, none⟩ = some (.int .i64 pz.x5) := (HX.out.cell 5).trans rfl
    have g6 : wX.cell? ⟨rb, 6, none⟩ = some (.int .i64 pz.x6) := (HX.out.cell 6).trans rfl
    have g7 : wX.cell? ⟨rb, 7, none⟩ = some (.int .i64 pz.x7) := (HX.out.cell 7).trans rfl
    have g8 : wX.cell? ⟨rb, 8, none⟩ = some (.bool pz.x8) := (HX.out.cell 8).trans rfl
    have g9 : wX.cell? ⟨rb, 9, none⟩ = some (.int .i64 pz.x9) := (HX.out.cell 9).trans rfl
    have g10 : wX.cell? ⟨rb, 10, none⟩ = some (.int .i64 pz.x10) := (HX.out.cell 10).trans rfl
    have g11 : wX.cell? ⟨rb, 11, none⟩ = some (.int .i64 pz.x11) := (HX.out.cell 11).trans rfl
    have g12 : wX.cell? ⟨rb, 12, none⟩ = some (.int .i64 pz.x12) := (HX.out.cell 12).trans rfl
    have g13 : wX.cell? ⟨rb, 13, none⟩ = some (.bool pz.x13) := (HX.out.cell 13).trans rfl
    refine bodyPost_ret (v := .tuple #[.agg #[.int .i64 pz.x0, .int .i64 pz.x1, .int .i64 pz.x2, .int .i64 pz.x3, .int .i64 pz.x4, .int .i64 pz.x5, .int .i64 pz.x6, .int .i64 pz.x7, .bool pz.x8, .int .i64 pz.x9, .int .i64 pz.x10, .int .i64 pz.x11, .int .i64 pz.x12, .bool pz.x13], .int .i64 0, .int .i64 10]) (by simp [results, Try.results18, go_sem, g0, g1, g2, g3, g4, g5, g6, g7, g8, g9, g10, g11, g12, g13]) rfl ?_
    exact ⟨by obtain ⟨h1, h2, h3⟩ := HQ.out; subst h1; subst h2; subst h3; rfl, HNX.out⟩
  · have HQ := Lib.hid (HQl.out 11 (by unfold openN; rw [if_neg (by rw [Hlen.out]; omega), if_pos (by rw [Hlen.out]; exact h1)]))
    clear h1 HQl HQr
    go_wp2_with (first
      | (refine wpList_store_pd rfl (.tmp 2) (.tmp 18) rfl rb pz _ rfl rfl HB.out rfl ?_
         intro wX hX hCX
         have HX := Lib.hid hX
         have HNX := Lib.hid (HN.out.trans hCX (fun i hi h => by rw [h, Hrb.out] at hi; omega))
         clear hX hCX)
      | fail)
    have g0 : wX.cell? ⟨rb, 0, none⟩ = some (.int .i64 pz.x0) := (HX.out.cell 0).trans rfl
    have g1 : wX.cell? ⟨rb, 1, none⟩ = some (.int .i64 pz.x1) := (HX.out.cell 1).trans rfl
    have g2 : wX.cell? ⟨rb, 2, none⟩ = some (.int .i64 pz.x2) := (HX.out.cell 2).trans rfl
    have g3 : wX.cell? ⟨rb, 3, none⟩ = some (.int .i64 pz.x3) := (HX.out.cell 3).trans rfl
    have g4 : wX.cell? ⟨rb, 4, none⟩ = some (.int .i64 pz.x4) := (HX.out.cell 4).trans rfl
    have g5 : wX.cell? ⟨rb, 5, none⟩ = some (.int .i64 pz.x5) := (HX.out.cell 5).trans rfl
    have g6 : wX.cell? ⟨rb, 6, none⟩ = some (.int .i64 pz.x6) := (HX.out.cell 6).trans rfl
    have g7 : wX.cell? ⟨rb, 7, none⟩ = some (.int .i64 pz.x7) := (HX.out.cell 7).trans rfl
    have g8 : wX.cell? ⟨rb, 8, none⟩ = some (.bool pz.x8) := (HX.out.cell 8).trans rfl
    have g9 : wX.cell? ⟨rb, 9, none⟩ = some (.int .i64 pz.x9) := (HX.out.cell 9).trans rfl
    have g10 : wX.cell? ⟨rb, 10, none⟩ = some (.int .i64 pz.x10) := (HX.out.cell 10).trans rfl
    have g11 : wX.cell? ⟨rb, 11, none⟩ = some (.int .i64 pz.x11) := (HX.out.cell 11).trans rfl
    have g12 : wX.cell? ⟨rb, 12, none⟩ = some (.int .i64 pz.x12) := (HX.out.cell 12).trans rfl
    have g13 : wX.cell? ⟨rb, 13, none⟩ = some (.bool pz.x13) := (HX.out.cell 13).trans rfl
    refine bodyPost_ret (v := .tuple #[.agg #[.int .i64 pz.x0, .int .i64 pz.x1, .int .i64 pz.x2, .int .i64 pz.x3, .int .i64 pz.x4, .int .i64 pz.x5, .int .i64 pz.x6, .int .i64 pz.x7, .bool pz.x8, .int .i64 pz.x9, .int .i64 pz.x10, .int .i64 pz.x11, .int .i64 pz.x12, .bool pz.x13], .int .i64 0, .int .i64 11]) (by simp [results, Try.results18, go_sem, g0, g1, g2, g3, g4, g5, g6, g7, g8, g9, g10, g11, g12, g13]) rfl ?_
    exact ⟨by obtain ⟨h1, h2, h3⟩ := HQ.out; subst h1; subst h2; subst h3; rfl, HNX.out⟩
  · have HQ := Lib.hid (HQl.out 12 (by unfold openN; rw [if_neg (by rw [Hlen.out]; omega), if_neg (by rw [Hlen.out]; omega), if_pos h1]))
    clear h1 HQl HQr
    go_wp2_with (first
      | (refine wpList_store_pd rfl (.tmp 2) (.tmp 18) rfl rb pz _ rfl rfl HB.out rfl ?_
         intro wX hX hCX
         have HX := Lib.hid hX
         have HNX := Lib.hid (HN.out.trans hCX (fun i hi h => by rw [h, Hrb.out] at hi; omega))
         clear hX hCX)
      | fail)
    have g0 : wX.cell? ⟨rb, 0, none⟩ = some (.int .i64 pz.x0) := (HX.out.cell 0).trans rfl
    have g1 : wX.cell? ⟨rb, 1, none⟩ = some (.int .i64 pz.x1) := (HX.out.cell 1).trans rfl
    have g2 : wX.cell? ⟨rb, 2, none⟩ = some (.int .i64 pz.x2) := (HX.out.cell 2).trans rfl
    have g3 : wX.cell? ⟨rb, 3, none⟩ = some (.int .i64 pz.x3) := (HX.out.cell 3).trans rfl
    have g4 : wX.cell? ⟨rb, 4, none⟩ = some (.int .i64 pz.x4) := (HX.out.cell 4).trans rfl
    have g5 : wX.cell? ⟨rb, 5, none⟩ = some (.int .i64 pz.x5) := (HX.out.cell 5).trans rfl
    have g6 : wX.cell? ⟨rb, 6, none⟩ = some (.int .i64 pz.x6) := (HX.out.cell 6).trans rfl
    have g7 : wX.cell? ⟨rb, 7, none⟩ = some (.int .i64 pz.x7) := (HX.out.cell 7).trans rfl
    have g8 : wX.cell? ⟨rb, 8, none⟩ = some (.bool pz.x8) := (HX.out.cell 8).trans rfl
    have g9 : wX.cell? ⟨rb, 9, none⟩ = some (.int .i64 pz.x9) := (HX.out.cell 9).trans rfl
    have g10 : wX.cell? ⟨rb, 10, none⟩ = some (.int .i64 pz.x10) := (HX.out.cell 10).trans rfl
    have g11 : wX.cell? ⟨rb, 11, none⟩ = some (.int .i64 pz.x11) := (HX.out.cell 11).trans rfl
    have g12 : wX.cell? ⟨rb, 12, none⟩ = some (.int .i64 pz.x12) := (HX.out.cell 12).trans rfl
    have g13 : wX.cell? ⟨rb, 13, none⟩ = some (.bool pz.x13) := (HX.out.cell 13).trans rfl
    refine bodyPost_ret (v := .tuple #[.agg #[.int .i64 pz.x0, .int .i64 pz.x1, .int .i64 pz.x2, .int .i64 pz.x3, .int .i64 pz.x4, .int .i64 pz.x5, .int .i64 pz.x6, .int .i64 pz.x7, .bool pz.x8, .int .i64 pz.x9, .int .i64 pz.x10, .int .i64 pz.x11, .int .i64 pz.x12, .bool pz.x13], .int .i64 0, .int .i64 12]) (by simp [results, Try.results18, go_sem, g0, g1, g2, g3, g4, g5, g6, g7, g8, g9, g10, g11, g12, g13]) rfl ?_
    exact ⟨by obtain ⟨h1, h2, h3⟩ := HQ.out; subst h1; subst h2; subst h3; rfl, HNX.out⟩
  · obtain ⟨k, hk⟩ : ∃ k, k = bs.getD 0 0 := ⟨_, rfl⟩
    rw [← hk] at h59 ⊢
    have Hop := Lib.hid (open_pieces Hlen.out hk h59)
    have HYf : Hid (∀ wx, New w wx → Byts wx F (.slice (some (a.add 1)) k (c - 1)) ((bs.drop 1).take k)) := fun wx hx => (HBy.out.new hx HF.out).cut 1 k (c - 1) (by omega)
    have HYr : Hid (∀ wx, New w wx → Byts wx F (.slice (some (a.add (1 + k))) (64 - (1 + k)) (c - (1 + k))) ((bs.drop (1 + k)).take (64 - (1 + k)))) := fun wx hx => (HBy.out.new hx HF.out).cut (1 + k) (64 - (1 + k)) (c - (1 + k)) (by omega)
    obtain ⟨fb, hfb⟩ : ∃ fb, fb = (bs.drop 1).take k := ⟨_, rfl⟩
    obtain ⟨r, hr⟩ : ∃ r, r = (bs.drop (1 + k)).take (64 - (1 + k)) := ⟨_, rfl⟩
    rw [← hfb, ← hr] at Hop
    rw [← hfb] at HYf
    rw [← hr] at HYr
    clear hfb hr hk
    have HPr : Hid (∀ wx, New w wx → Calls Try.prog 16 #[.slice (some (a.add 1)) k (c - 1)] wx fun e w' => e = .returned (.tuple #[(parP fb).V, .int .i64 (parZ fb)]) ∧ New wx w') := fun wx hx => iParse_any fb k (c - 1) (some (a.add 1)) wx F (HYf.out wx hx) (by have := Hnc.out; omega) (by have := Hcm.out; omega) (fun j hj => Nat.lt_of_lt_of_le (HF.out j hj) hx.size)
    have HTo : Hid (∀ wx, New w wx → Calls Try.prog 54 #[.slice (some (a.add (1 + k))) (64 - (1 + k)) (c - (1 + k))] wx fun e w' => TokR r e ∧ New wx w') := fun wx hx => tokenOf_any r (64 - (1 + k)) (c - (1 + k)) (a.add (1 + k)) wx F (HYr.out wx hx) (by omega) (by omega) (by have := Hnc.out; omega) (fun j hj => Nat.lt_of_lt_of_le (HF.out j hj) hx.size)
    obtain ⟨A1, hA1⟩ : ∃ A1, A1 = a.add 1 := ⟨_, rfl⟩
    obtain ⟨A2, hA2⟩ : ∃ A2, A2 = a.add (1 + k) := ⟨_, rfl⟩
    obtain ⟨c1, hc1⟩ : ∃ c1, c1 = c - 1 := ⟨_, rfl⟩
    obtain ⟨c2, hc2⟩ : ∃ c2, c2 = c - (1 + k) := ⟨_, rfl⟩
    obtain ⟨m2, hm2⟩ : ∃ m2, m2 = 64 - (1 + k) := ⟨_, rfl⟩
    rw [← hA1, ← hc1] at HPr
    rw [← hA2, ← hc2, ← hm2] at HTo
    rw [← hA1, ← hA2, ← hc1, ← hc2, ← hm2]
    clear hA1 hA2 hc1 hc2 hm2 HYf HYr HBy h59
    go_wp2_with fail
    with_reducible refine (HPr.out _ HN.out).mono ?_
    rintro e w2 ⟨rfl, hN⟩
    obtain ⟨P, hPP⟩ : ∃ P, P = parP fb := ⟨_, rfl⟩
    obtain ⟨Z, hZZ⟩ : ∃ Z, Z = parZ fb := ⟨_, rfl⟩
    rw [← hPP, ← hZZ]
    have HPP := Lib.hid hPP
    have HZZ := Lib.hid hZZ
    have HB2 := Lib.hid (HB.out.keep hN)
    have HN2 := Lib.hid (HN.out.then_new hN)
    clear hN HPr HB HN hPP hZZ
    obtain ⟨x0, x1, x2, x3, x4, x5, x6, x7, x8, x9, x10, x11, x12, x13⟩ := P
    go_upto_region 5 with (fail)
    obtain ⟨pb, hpb⟩ : ∃ pb, pb = w2.heap.size := ⟨_, rfl⟩
    obtain ⟨w3, hw3⟩ : ∃ w3, w3 = w2.alloc (.cells #[.int .i64 x0, .int .i64 x1, .int .i64 x2, .int .i64 x3, .int .i64 x4, .int .i64 x5, .int .i64 x6, .int .i64 x7, .bool x8, .int .i64 x9, .int .i64 x10, .int .i64 x11, .int .i64 x12, .bool x13] 24) := ⟨_, rfl⟩
    have HX3 : Hid (Has w3 pb 24 #[.int .i64 x0, .int .i64 x1, .int .i64 x2, .int .i64 x3, .int .i64 x4, .int .i64 x5, .int .i64 x6, .int .i64 x7, .bool x8, .int .i64 x9, .int .i64 x10, .int .i64 x11, .int .i64 x12, .bool x13]) := by rw [hw3, hpb]; exact Has.new _ _ _
    have HB3 : Hid (Has w3 rb 24 #[.int .i64 0, .int .i64 0, .int .i64 0, .int .i64 0, .int .i64 0, .int .i64 0, .int .i64 0, .int .i64 0, .bool false, .int .i64 0, .int .i64 0, .int .i64 0, .int .i64 0, .bool false]) := by rw [hw3]; exact HB2.out.alloc _
    have HN3 : Hid (New w w3) := by rw [hw3]; exact HN2.out.alloc _
    rw [← hw3, ← hpb]
    clear hw3 hpb HB2 HN2
    by_cases hz : Z = 0
    · have e1 : (Z == 0) = true := beq_iff_eq.2 hz
      have e1' : (Z != 0) = false := by rw [bne, e1]; rfl
      have Hm := Lib.hid (parZ_r (by rw [← HZZ.out]; exact hz))
      subst hz
      go_wp2_with fail
      with_reducible refine (HTo.out _ HN3.out).mono ?_
      rintro e w4 ⟨hT, hN⟩
      have HX4 := Lib.hid (HX3.out.keep hN)
      have HB4 := Lib.hid (HB3.out.keep hN)
      have HN4 := Lib.hid (HN3.out.then_new hN)
      clear hN HX3 HB3 HN3 HTo
      obtain ⟨m, hm1, hm2⟩ := Hm.out
      rcases hT with ⟨h1, rfl⟩ | ⟨h1, h2, rfl⟩ | ⟨h1, h2, rfl⟩
      · have HQ := Lib.hid (HQl.out 14 (Hop.out.2.1 m hm1 h1))
        clear h1 hm1 hm2 HQl HQr Hop Hm
        go_wp2_with (first
          | (refine wpList_store_pd rfl (.tmp 2) (.tmp 36) rfl rb pz _ rfl rfl HB4.out rfl ?_
             intro wX hX hCX
             have HX := Lib.hid hX
             have HNX := Lib.hid (HN4.out.trans hCX (fun i hi h => by rw [h, Hrb.out] at hi; omega))
             clear hX hCX)
          | fail)
        have g0 : wX.cell? ⟨rb, 0, none⟩ = some (.int .i64 pz.x0) := (HX.out.cell 0).trans rfl
        have g1 : wX.cell? ⟨rb, 1, none⟩ = some (.int .i64 pz.x1) := (HX.out.cell 1).trans rfl
        have g2 : wX.cell? ⟨rb, 2, none⟩ = some (.int .i64 pz.x2) := (HX.out.cell 2).trans rfl
        have g3 : wX.cell? ⟨rb, 3, none⟩ = some (.int .i64 pz.x3) := (HX.out.cell 3).trans rfl
        have g4 : wX.cell? ⟨rb, 4, none⟩ = some (.int .i64 pz.x4) := (HX.out.cell 4).trans rfl
        have g5 : wX.cell? ⟨rb, 5, none⟩ = some (.int .i64 pz.x5) := (HX.out.cell 5).trans rfl
        have g6 : wX.cell? ⟨rb, 6, none⟩ = some (.int .i64 pz.x6) := (HX.out.cell 6).trans rfl
        have g7 : wX.cell? ⟨rb, 7, none⟩ = some (.int .i64 pz.x7) := (HX.out.cell 7).trans rfl
        have g8 : wX.cell? ⟨rb, 8, none⟩ = some (.bool pz.x8) := (HX.out.cell 8).trans rfl
        have g9 : wX.cell? ⟨rb, 9, none⟩ = some (.int .i64 pz.x9) := (HX.out.cell 9).trans rfl
        have g10 : wX.cell? ⟨rb, 10, none⟩ = some (.int .i64 pz.x10) := (HX.out.cell 10).trans rfl
        have g11 : wX.cell? ⟨rb, 11, none⟩ = some (.int .i64 pz.x11) := (HX.out.cell 11).trans rfl
        have g12 : wX.cell? ⟨rb, 12, none⟩ = some (.int .i64 pz.x12) := (HX.out.cell 12).trans rfl
        have g13 : wX.cell? ⟨rb, 13, none⟩ = some (.bool pz.x13) := (HX.out.cell 13).trans rfl
        refine bodyPost_ret (v := .tuple #[.agg #[.int .i64 pz.x0, .int .i64 pz.x1, .int .i64 pz.x2, .int .i64 pz.x3, .int .i64 pz.x4, .int .i64 pz.x5, .int .i64 pz.x6, .int .i64 pz.x7, .bool pz.x8, .int .i64 pz.x9, .int .i64 pz.x10, .int .i64 pz.x11, .int .i64 pz.x12, .bool pz.x13], .int .i64 0, .int .i64 14]) (by simp [results, Try.results18, go_sem, g0, g1, g2, g3, g4, g5, g6, g7, g8, g9, g10, g11, g12, g13]) rfl ?_
        exact ⟨by obtain ⟨h1, h2, h3⟩ := HQ.out; subst h1; subst h2; subst h3; rfl, HNX.out⟩
      · have HQ := Lib.hid (HQl.out 12 (Hop.out.2.2.1 m hm1 h1 h2))
        clear h1 h2 hm1 hm2 HQl HQr Hop Hm
        go_wp2_with (first
          | (refine wpList_store_pd rfl (.tmp 2) (.tmp 36) rfl rb pz _ rfl rfl HB4.out rfl ?_
             intro wX hX hCX
             have HX := Lib.hid hX
             have HNX := Lib.hid (HN4.out.trans hCX (fun i hi h => by rw [h, Hrb.out] at hi; omega))
             clear hX hCX)
          | fail)
        have g0 : wX.cell? ⟨rb, 0, none⟩ = some (.int .i64 pz.x0) := (HX.out.cell 0).trans rfl
        have g1 : wX.cell? ⟨rb, 1, none⟩ = some (.int .i64 pz.x1) := (HX.out.cell 1).trans rfl
        have g2 : wX.cell? ⟨rb, 2, none⟩ = some (.int .i64 pz.x2) := (HX.out.cell 2).trans rfl
        have g3 : wX.cell? ⟨rb, 3, none⟩ = some (.int .i64 pz.x3) := (HX.out.cell 3).trans rfl
        have g4 : wX.cell? ⟨rb, 4, none⟩ = some (.int .i64 pz.x4) := (HX.out.cell 4).trans rfl
        have g5 : wX.cell? ⟨rb, 5, none⟩ = some (.int .i64 pz.x5) := (HX.out.cell 5).trans rfl
        have g6 : wX.cell? ⟨rb, 6, none⟩ = some (.int .i64 pz.x6) := (HX.out.cell 6).trans rfl
        have g7 : wX.cell? ⟨rb, 7, none⟩ = some (.int .i64 pz.x7) := (HX.out.cell 7).trans rfl
        have g8 : wX.cell? ⟨rb, 8, none⟩ = some (.bool pz.x8) := (HX.out.cell 8).trans rfl
        have g9 : wX.cell? ⟨rb, 9, none⟩ = some (.int .i64 pz.x9) := (HX.out.cell 9).trans rfl
        have g10 : wX.cell? ⟨rb, 10, none⟩ = some (.int .i64 pz.x10) := (HX.out.cell 10).trans rfl
        have g11 : wX.cell? ⟨rb, 11, none⟩ = some (.int .i64 pz.x11) := (HX.out.cell 11).trans rfl
        have g12 : wX.cell? ⟨rb, 12, none⟩ = some (.int .i64 pz.x12) := (HX.out.cell 12).trans rfl
        have g13 : wX.cell? ⟨rb, 13, none⟩ = some (.bool pz.x13) := (HX.out.cell 13).trans rfl
        refine bodyPost_ret (v := .tuple #[.agg #[.int .i64 pz.x0, .int .i64 pz.x1, .int .i64 pz.x2, .int .i64 pz.x3, .int .i64 pz.x4, .int .i64 pz.x5, .int .i64 pz.x6, .int .i64 pz.x7, .bool pz.x8, .int .i64 pz.x9, .int .i64 pz.x10, .int .i64 pz.x11, .int .i64 pz.x12, .bool pz.x13], .int .i64 0, .int .i64 12]) (by simp [results, Try.results18, go_sem, g0, g1, g2, g3, g4, g5, g6, g7, g8, g9, g10, g11, g12, g13]) rfl ?_
        exact ⟨by obtain ⟨h1, h2, h3⟩ := HQ.out; subst h1; subst h2; subst h3; rfl, HNX.out⟩
      · have HQ := Lib.hid (HQr.out m _ (Hop.out.2.2.2 m hm1 h1 h2))
        rw [← hm2, ← HPP.out] at HQ
        obtain ⟨T, hT⟩ : ∃ T, T = tokV (r.take 4) := ⟨_, rfl⟩
        rw [← hT] at HQ ⊢
        clear h1 h2 hm1 hm2 HQl HQr Hop Hm hT HPP
        have k0 : w4.cell? ⟨pb, 0, none⟩ = some (.int .i64 x0) := (HX4.out.cell 0).trans rfl
        have k1 : w4.cell? ⟨pb, 1, none⟩ = some (.int .i64 x1) := (HX4.out.cell 1).trans rfl
        have k2 : w4.cell? ⟨pb, 2, none⟩ = some (.int .i64 x2) := (HX4.out.cell 2).trans rfl
        have k3 : w4.cell? ⟨pb, 3, none⟩ = some (.int .i64 x3) := (HX4.out.cell 3).trans rfl
        have k4 : w4.cell? ⟨pb, 4, none⟩ = some (.int .i64 x4) := (HX4.out.cell 4).trans rfl
        have k5 : w4.cell? ⟨pb, 5, none⟩ = some (.int .i64 x5) := (HX4.out.cell 5).trans rfl
        have k6 : w4.cell? ⟨pb, 6, none⟩ = some (.int .i64 x6) := (HX4.out.cell 6).trans rfl
        have k7 : w4.cell? ⟨pb, 7, none⟩ = some (.int .i64 x7) := (HX4.out.cell 7).trans rfl
        have k8 : w4.cell? ⟨pb, 8, none⟩ = some (.bool x8) := (HX4.out.cell 8).trans rfl
        have k9 : w4.cell? ⟨pb, 9, none⟩ = some (.int .i64 x9) := (HX4.out.cell 9).trans rfl
        have k10 : w4.cell? ⟨pb, 10, none⟩ = some (.int .i64 x10) := (HX4.out.cell 10).trans rfl
        have k11 : w4.cell? ⟨pb, 11, none⟩ = some (.int .i64 x11) := (HX4.out.cell 11).trans rfl
        have k12 : w4.cell? ⟨pb, 12, none⟩ = some (.int .i64 x12) := (HX4.out.cell 12).trans rfl
        have k13 : w4.cell? ⟨pb, 13, none⟩ = some (.bool x13) := (HX4.out.cell 13).trans rfl
        go_wp2_with (first
          | (refine wpList_store_pd rfl (.tmp 2) (.tmp 38) rfl rb ⟨x0, x1, x2, x3, x4, x5, x6, x7, x8, x9, x10, x11, x12, x13⟩ _ rfl rfl HB4.out rfl ?_
             intro wX hX hCX
             have HX := Lib.hid hX
             have HNX := Lib.hid (HN4.out.trans hCX (fun i hi h => by rw [h, Hrb.out] at hi; omega))
             clear hX hCX)
          | fail)
        have g0 : wX.cell? ⟨rb, 0, none⟩ = some (.int .i64 x0) := (HX.out.cell 0).trans rfl
        have g1 : wX.cell? ⟨rb, 1, none⟩ = some (.int .i64 x1) := (HX.out.cell 1).trans rfl
        have g2 : wX.cell? ⟨rb, 2, none⟩ = some (.int .i64 x2) := (HX.out.cell 2).trans rfl
        have g3 : wX.cell? ⟨rb, 3, none⟩ = some (.int .i64 x3) := (HX.out.cell 3).trans rfl
        have g4 : wX.cell? ⟨rb, 4, none⟩ = some (.int .i64 x4) := (HX.out.cell 4).trans rfl
        have g5 : wX.cell? ⟨rb, 5, none⟩ = some (.int .i64 x5) := (HX.out.cell 5).trans rfl
        have g6 : wX.cell? ⟨rb, 6, none⟩ = some (.int .i64 x6) := (HX.out.cell 6).trans rfl
        have g7 : wX.cell? ⟨rb, 7, none⟩ = some (.int .i64 x7) := (HX.out.cell 7).trans rfl
        have g8 : wX.cell? ⟨rb, 8, none⟩ = some (.bool x8) := (HX.out.cell 8).trans rfl
        have g9 : wX.cell? ⟨rb, 9, none⟩ = some (.int .i64 x9) := (HX.out.cell 9).trans rfl
        have g10 : wX.cell? ⟨rb, 10, none⟩ = some (.int .i64 x10) := (HX.out.cell 10).trans rfl
        have g11 : wX.cell? ⟨rb, 11, none⟩ = some (.int .i64 x11) := (HX.out.cell 11).trans rfl
        have g12 : wX.cell? ⟨rb, 12, none⟩ = some (.int .i64 x12) := (HX.out.cell 12).trans rfl
        have g13 : wX.cell? ⟨rb, 13, none⟩ = some (.bool x13) := (HX.out.cell 13).trans rfl
        refine bodyPost_ret (v := .tuple #[.agg #[.int .i64 x0, .int .i64 x1, .int .i64 x2, .int .i64 x3, .int .i64 x4, .int .i64 x5, .int .i64 x6, .int .i64 x7, .bool x8, .int .i64 x9, .int .i64 x10, .int .i64 x11, .int .i64 x12, .bool x13], .int .i64 (T : Int), .int .i64 0]) (by simp [results, Try.results18, go_sem, g0, g1, g2, g3, g4, g5, g6, g7, g8, g9, g10, g11, g12, g13]) rfl ?_
        exact ⟨by obtain ⟨h1, h2, h3⟩ := HQ.out; subst h1; subst h2; subst h3; rfl, HNX.out⟩
    · have e1 : (Z == 0) = false := beq_eq_false_iff_ne.2 hz
      have e1' : (Z != 0) = true := bne_iff_ne.2 hz
      have HQ : Hid (R = pz ∧ K = 0 ∧ E = Z) := by
        obtain ⟨z, h1, h2⟩ := parZ_l (f := fb) (by rw [← HZZ.out]; exact hz)
        have := HQl.out z (Hop.out.1 z h1)
        rw [Hid, HZZ.out, h2]
        exact this
      clear hz HQl HQr Hop HZZ HPP
      go_wp2_with (first
        | (refine wpList_store_pd rfl (.tmp 2) (.tmp 27) rfl rb pz _ rfl rfl HB3.out rfl ?_
           intro wX hX hCX
           have HX := Lib.hid hX
           have HNX := Lib.hid (HN3.out.trans hCX (fun i hi h => by rw [h, Hrb.out] at hi; omega))
           clear hX hCX)
        | fail)
      have g0 : wX.cell? ⟨rb, 0, none⟩ = some (.int .i64 pz.x0) := (HX.out.cell 0).trans rfl
      have g1 : wX.cell? ⟨rb, 1, none⟩ = some (.int .i64 pz.x1) := (HX.out.cell 1).trans rfl
      have g2 : wX.cell? ⟨rb, 2, none⟩ = some (.int .i64 pz.x2) := (HX.out.cell 2).trans rfl
      have g3 : wX.cell? ⟨rb, 3, none⟩ = some (.int .i64 pz.x3) := (HX.out.cell 3).trans rfl
      have g4 : wX.cell? ⟨rb, 4, none⟩ = some (.int .i64 pz.x4) := (HX.out.cell 4).trans rfl
      have g5 : wX.cell? ⟨rb, 5, none⟩ = some (.int .i64 pz.x5) := (HX.out.cell 5).trans rfl
      have g6 : wX.cell? ⟨rb, 6, none⟩ = some (.int .i64 pz.x6) := (HX.out.cell 6).trans rfl
      have g7 : wX.cell? ⟨rb, 7, none⟩ = some (.int .i64 pz.x7) := (HX.out.cell 7).trans rfl
      have g8 : wX.cell? ⟨rb, 8, none⟩ = some (.bool pz.x8) := (HX.out.cell 8).trans rfl
      have g9 : wX.cell? ⟨rb, 9, none⟩ = some (.int .i64 pz.x9) := (HX.out.cell 9).trans rfl
      have g10 : wX.cell? ⟨rb, 10, none⟩ = some (.int .i64 pz.x10) := (HX.out.cell 10).trans rfl
      have g11 : wX.cell? ⟨rb, 11, none⟩ = some (.int .i64 pz.x11) := (HX.out.cell 11).trans rfl
      have g12 : wX.cell? ⟨rb, 12, none⟩ = some (.int .i64 pz.x12) := (HX.out.cell 12).trans rfl
      have g13 : wX.cell? ⟨rb, 13, none⟩ = some (.bool pz.x13) := (HX.out.cell 13).trans rfl
      refine bodyPost_ret (v := .tuple #[.agg #[.int .i64 pz.x0, .int .i64 pz.x1, .int .i64 pz.x2, .int .i64 pz.x3, .int .i64 pz.x4, .int .i64 pz.x5, .int .i64 pz.x6, .int .i64 pz.x7, .bool pz.x8, .int .i64 pz.x9, .int .i64 pz.x10, .int .i64 pz.x11, .int .i64 pz.x12, .bool pz.x13], .int .i64 0, .int .i64 Z]) (by simp [results, Try.results18, go_sem, g0, g1, g2, g3, g4, g5, g6, g7, g8, g9, g10, g11, g12, g13]) rfl ?_
      exact ⟨by obtain ⟨h1, h2, h3⟩ := HQ.out; subst h1; subst h2; subst h3; rfl, HNX.out⟩
end Go.Proofs.Ytkcokcanakljnaa
