/-
  The document's Parse: the product of a form.
-/
import Derived.Test.YtkcokcanakljnaaIpO
import Derived.Test.YtkcokcanakljnaaTRefG
import Derived.Laws.Tables
namespace Go.Proofs.Ytkcokcanakljnaa
open Go.RowKit
noncomputable def parZ (bs : List Nat) : Int := match parseN bs with
  | .inl z => z
  | .inr _ => 0
noncomputable def parP (bs : List Nat) : Pd := match parseN bs with
  | .inl _ => pz
  | .inr m => Pd.of m
def pcells (p : Pd) : Array Value := #[.int .i64 p.x0, .int .i64 p.x1, .int .i64 p.x2, .int .i64 p.x3, .int .i64 p.x4, .int .i64 p.x5, .int .i64 p.x6, .int .i64 p.x7, .bool p.x8, .int .i64 p.x9, .int .i64 p.x10, .int .i64 p.x11, .int .i64 p.x12, .bool p.x13]
theorem Try.infoPd : (Try.prog.info? 24).map (·.size) = some 14 := by kernel_rfl
/-- a whole product stored into a box -/
theorem wpList_store_pd {w : World} {ops : Array Oper} {rest : List Oper} {o : Oper} {a : Act} {Q : Exit → Act → World → Prop} (hgd : o.guard = none) (x y : Operand) (ho : o.op = .store 24 x y) (g : Nat) (p : Pd) (old : Array Value)
    (hx : a.eval x = .pointer (some ⟨g, 0, none⟩)) (hy : a.eval y = p.V) (hg : Has w g 24 old) (hold : old.size = 14) (h : ∀ w', Has w' g 24 (pcells p) → Chg (· = g) w w' → wpList Try.prog ops Q rest (a.put o.dst undef) w') : wpList Try.prog ops Q (o :: rest) a w := by
  refine wpList_store_row hgd 24 x y ho g (pcells p) hx hy 24 old hg Try.infoPd hold (by simp [pcells, Value.oneCell']) (h _ (setRow_heap w g old _ _ _ hg) ?_)
  exact ⟨rfl, rfl, rfl, by simp, fun k _ hk => setRow_other w g k _ hk⟩
/-- and it returns: the product in the box at g, a number beside it -/
def RetP (w : World) (p : Pd) (z : Int) (e : Ending) (w' : World) : Prop := e = .returned (.tuple #[p.V, .int .i64 z]) ∧ New w w'
theorem zer_iV : (zer.map iV).toArray = #[.int .i64 0, .int .i64 0, .int .i64 0, .int .i64 0, .int .i64 0, .int .i64 0, .int .i64 0, .int .i64 0, .int .i64 0, .int .i64 0, .int .i64 0, .int .i64 0, .int .i64 0, .int .i64 0] := rfl
theorem iV_set (l : List Int) (d : Nat) (v : Int) : ((l.set d v).map iV).toArray = ((l.map iV).toArray).setIfInBounds d (.int .i64 v) := by simp [List.map_set, iV]
theorem make_14 : ∃ Z : Array Value, Z = (zer.map iV).toArray ∧ ∀ w : World, (Instr.makeSlice 65 (.int .i64 14) (.int .i64 14)).run Try.prog w = .ok (.slice (some ⟨w.heap.size, 0, none⟩) 14 14) (w.alloc (.cells Z 3)) := by
  obtain ⟨i0, hi, hz0, hz1, hz2⟩ := info_parts Try.info3
  refine ⟨_, rfl, fun w => ?_⟩
  rw [run_makeSlice w 65 3 i0 (.int .i64 0) Try.underlying65 hi hz0 .i64 .i64 14 14 (by omega) (by omega) (by rw [hz1]; decide) (by rw [hz2]; decide) (by decide), hz1]
  have : madeCells (Value.int IntKind.i64 0).cells ((14 : Int).toNat * 1) = (zer.map iV).toArray := by
    apply Array.toList_inj.1
    have h1 : (Value.int IntKind.i64 0).cells = #[.int .i64 0] := rfl
    rw [h1, show (14 : Int).toNat * 1 = 14 from rfl, toList_madeCells_one]
    simp [zer, iV]
  rw [this]
  rfl
/-- bits stay bits -/
theorem readT_bits {T : Tr} : ∀ {n m : List Int}, readT T n = some m → n.length = 14 → (n.getD 8 0 = 0 ∨ n.getD 8 0 = 1) → (n.getD 13 0 = 0 ∨ n.getD 13 0 = 1) → (m.getD 8 0 = 0 ∨ m.getD 8 0 = 1) ∧ (m.getD 13 0 = 0 ∨ m.getD 13 0 = 1) := by
  induction T with
  | nil => intro n m h _ h8 h13; simp only [readT, Option.some.injEq] at h; subst h; exact ⟨h8, h13⟩
  | cons t bs s r _ ih =>
    intro n m h hn h8 h13
    simp only [readT] at h
    split at h
    · cases h
    · next hc =>
      simp only [not_or, not_and, Classical.not_not] at hc
      obtain ⟨hc1, _, _, h9, h14⟩ := hc
      refine ih h (by rw [List.length_set]; exact hn) ?_ ?_
      · by_cases e : (t - 1).toNat = 8
        · rw [set_getD _ _ _ _ (by omega), if_pos e.symm]
          exact Or.inr (by rw [h9 (by omega)]; rfl)
        · by_cases hb : (t - 1).toNat < n.length
          · rw [set_getD _ _ _ _ hb, if_neg (fun h => e h.symm)]; exact h8
          · rw [List.set_eq_of_length_le (by omega)]; exact h8
      · by_cases e : (t - 1).toNat = 13
        · rw [set_getD _ _ _ _ (by omega), if_pos e.symm]
          exact Or.inr (by rw [h14 (by omega)]; rfl)
        · by_cases hb : (t - 1).toNat < n.length
          · rw [set_getD _ _ _ _ hb, if_neg (fun h => e h.symm)]; exact h13
          · rw [List.set_eq_of_length_le (by omega)]; exact h13
theorem of_ns_of {T0 : Tr} {m : List Int} (h : readT T0 zer = some m) : (Pd.of m).ns = m := by
  have hl : m.length = 14 := by rw [readT_len h]; rfl
  obtain ⟨h8, h13⟩ := readT_bits h rfl (Or.inl rfl) (Or.inl rfl)
  have e8 : bi (m.getD 8 0 == 1) = m.getD 8 0 := by rcases h8 with e | e <;> rw [e] <;> rfl
  have e13 : bi (m.getD 13 0 == 1) = m.getD 13 0 := by rcases h13 with e | e <;> rw [e] <;> rfl
  unfold Pd.of Pd.ns
  simp only
  rw [e8, e13]
  refine List.ext_getElem (by rw [hl]; rfl) fun j h1 h2 => ?_
  have hj : j < 14 := by rw [hl] at h2; exact h2
  have e : m.getD j 0 = m[j] := by simp [List.getD_eq_getElem?_getD, List.getElem?_eq_getElem h2]
  rcases (show j = 0 ∨ j = 1 ∨ j = 2 ∨ j = 3 ∨ j = 4 ∨ j = 5 ∨ j = 6 ∨ j = 7 ∨ j = 8 ∨ j = 9 ∨ j = 10 ∨ j = 11 ∨ j = 12 ∨ j = 13 by omega) with rfl | rfl | rfl | rfl | rfl | rfl | rfl | rfl | rfl | rfl | rfl | rfl | rfl | rfl <;> rw [← e] <;> rfl
set_option maxRecDepth 100000 in
set_option maxHeartbeats 4000000 in
theorem rParse10_any (bs : List Nat) (n c : Nat) (A : Option Addr) (w : World) (F : Nat → Prop) (hB : Byts w F (.slice A n c) bs) (hnc : n ≤ c) (hcm : c ≤ maxLen) (hF : ∀ k, F k → k < w.heap.size) :
    Calls Try.prog 17 #[.slice A n c] w fun e w' => e = .returned (.tuple #[(parP bs).V, .int .i64 (parZ bs)]) ∧ New w w' := by
  have HG : Hid (∀ wx, New w wx → Calls Try.prog 50 #[.slice A n c, .int .i64 0] wx fun e w' => AnsR wx (decd 4 0 bs) e w' ∧ New wx w') := fun wx hx => RGet_any (bs.length + 1) bs (Nat.lt_succ_self _) n A c 0 wx F (hB.new hx hF) hnc hcm (by decide) (fun k hk => Nat.lt_of_lt_of_le (hF k hk) hx.size)
  obtain ⟨Z, hZ⟩ : ∃ Z, Z = parZ bs := ⟨_, rfl⟩
  obtain ⟨P, hP⟩ : ∃ P, P = parP bs := ⟨_, rfl⟩
  rw [← hZ, ← hP]
  have HZ := Lib.hid hZ
  have HP := Lib.hid hP
  have Hsm := Lib.hid hB.len.2.2
  clear hZ hP hB hF hnc hcm
  go_enter Try.func17, Try.ntmps17
  go_wp2_with fail
  with_reducible refine (HG.out _ ((Chg.refl _ _).alloc _)).mono ?_
  rintro e w1 ⟨hA, hN⟩
  have HB := Lib.hid ((Has.new w 24 #[.int .i64 0, .int .i64 0, .int .i64 0, .int .i64 0, .int .i64 0, .int .i64 0, .int .i64 0, .int .i64 0, .bool false, .int .i64 0, .int .i64 0, .int .i64 0, .int .i64 0, .bool false]).keep hN)
  have HN := Lib.hid (((Chg.refl (fun _ => False) w).alloc _).then_new hN)
  obtain ⟨rb, hrb⟩ : ∃ rb, rb = w.heap.size := ⟨_, rfl⟩
  rw [← hrb] at HB ⊢
  have Hrb := Lib.hid hrb
  clear hN HG hrb
  have HRet : Hid (∀ (wy wX : World) (p : Pd) (z : Int), New w wy → Chg (· = rb) wy wX → New w wX) := fun wy wX _ _ h1 h2 => h1.trans h2 (fun i hi h => by rw [h, Hrb.out] at hi; omega)
  cases hd : decd 4 0 bs with
  | err z =>
    rw [hd] at hA
    simp only [AnsR] at hA
    subst hA
    have hz := err_zero 4 bs.length 0 bs (Nat.le_refl _) z hd
    have HZ2 : Hid (Z = z) := by rw [Hid, HZ.out]; unfold parZ parseN; rw [hd]
    have HP2 : Hid (P = pz) := by rw [Hid, HP.out]; unfold parP parseN; rw [hd]
    have t1 : ((z : Int) != 0) = true := bne_iff_ne.2 (by omega)
    have t2 : (z != 0) = true := bne_iff_ne.2 hz
    clear hd hz HZ HP
    go_wp2_with (first
      | (refine wpList_store_pd rfl (.tmp 2) (.tmp 19) rfl rb pz _ rfl rfl HB.out rfl ?_
         intro wX hX hCX
         have HX := Lib.hid hX
         have HNX := Lib.hid (HRet.out _ _ pz 0 HN.out hCX)
         clear hX hCX)
      | fail)
    have g0 : wX.cell? ⟨rb, 0, none⟩ = some (.int .i64 pz.x0) := (HX.out.cell 0).trans rfl
    have g1 : wX.cell? ⟨rb, 1, none⟩ = some (.int .i64 pz.x1) := (HX.out.cell 1).trans rfl
    have g2 : wX.cell? ⟨rb, 2, none⟩ = some (.int .i64 pz.x2) := (HX.out.cell 2).trans rfl
    have g3 : wX.cell? ⟨rb, 3, none⟩ = some (.int .i64 pz.x3) := (HX.out.cell 3).trans rfl
    have g4 : wX.cell? ⟨rb, 4, none⟩ = some (.int .i64 pz.x4) := (HX.out.cell 4).trans rfl
    have g5 : wX.cell? ⟨rb, 5, none⟩ = some (.int .i64 pz.x5) := (HX.out.cell 5).trans rfl
    have g6 : wX.cell? ⟨rb, 6, none⟩ = some (.int .i64 pz.x6) := (HX.out.cell 6).trans rfl
    have g7 : wX.cell? ⟨rb, 7, none⟩ = some (.int .i64 pz.x7) := (HX.out.cell 7).trans rfl
    have g8 : wX.cell? ⟨rb, 8, none⟩ = some (.bool pz.x8) := (HX.out.cell 8).trans rfl
    have g9 : wX.cell? ⟨rb, 9, none⟩ = some (.int .i64 pz.x9) := (HX.out.cell 9).trans rfl
    have g10 : wX.cell? ⟨rb, 10, none⟩ = some (.int .i64 pz.x10) := (HX.out.cell 10).trans rfl
    have g11 : wX.cell? ⟨rb, 11, none⟩ = some (.int .i64 pz.x11) := (HX.out.cell 11).trans rfl
    have g12 : wX.cell? ⟨rb, 12, none⟩ = some (.int .i64 pz.x12) := (HX.out.cell 12).trans rfl
    have g13 : wX.cell? ⟨rb, 13, none⟩ = some (.bool pz.x13) := (HX.out.cell 13).trans rfl
    refine bodyPost_ret (v := .tuple #[.agg #[.int .i64 pz.x0, .int .i64 pz.x1, .int .i64 pz.x2, .int .i64 pz.x3, .int .i64 pz.x4, .int .i64 pz.x5, .int .i64 pz.x6, .int .i64 pz.x7, .bool pz.x8, .int .i64 pz.x9, .int .i64 pz.x10, .int .i64 pz.x11, .int .i64 pz.x12, .bool pz.x13], .int .i64 (z : Int)]) (by simp [results, Try.results17, go_sem, g0, g1, g2, g3, g4, g5, g6, g7, g8, g9, g10, g11, g12, g13]) rfl ?_
    exact ⟨by have h1 := HP2.out; have h2 := HZ2.out; subst h1; subst h2; rfl, HNX.out⟩
  | ok T =>
    rw [hd] at hA
    obtain ⟨A2, c2, rfl, hO, hlen⟩ := hA
    obtain ⟨A2', c2', e2, hnil2, hsz, hL⟩ := hO.els (by omega)
    simp only [Value.slice.injEq] at e2
    obtain ⟨rfl, _, rfl⟩ := e2
    have hsay : parseN bs = sayN T := by unfold parseN; rw [hd]
    have HZ2 : Hid (∀ z, sayN T = .inl z → Z = z) := fun z h => by rw [HZ.out]; unfold parZ; rw [hsay, h]
    have HP2 : Hid (∀ z, sayN T = .inl z → P = pz) := fun z h => by rw [HP.out]; unfold parP; rw [hsay, h]
    have HZ3 : Hid (∀ m, sayN T = .inr m → Z = 0) := fun z h => by rw [HZ.out]; unfold parZ; rw [hsay, h]
    have HP3 : Hid (∀ m, sayN T = .inr m → P = Pd.of m) := fun z h => by rw [HP.out]; unfold parP; rw [hsay, h]
    have hright := (enc_dec bs.length 4 0 bs T (Nat.le_refl _) Hsm.out hd).1
    have HL := Lib.hid hL
    clear hsay hd hO hnil2 hsz hL HZ HP hlen
    obtain ⟨p, hp⟩ : ∃ p, p = T.len := ⟨_, rfl⟩
    rw [← hp]
    have hcase : (p ≠ 1 ∧ sayN T = .inl 12) ∨ (∃ t cb s, T = .cons t cb s .nil ∧ p = 1) := by
      cases T with
      | nil => exact Or.inl ⟨by rw [hp]; simp [Tr.len], rfl⟩
      | cons t cb s r =>
        cases r with
        | nil => exact Or.inr ⟨t, cb, s, rfl, by rw [hp]; rfl⟩
        | cons t' cb' s' r' => exact Or.inl ⟨by rw [hp]; simp [Tr.len], rfl⟩
    clear hp
    rcases hcase with ⟨h1, h2⟩ | ⟨t, cb, s, rfl, rfl⟩
    · have HZ2 := Lib.hid (HZ2.out 12 h2)
      have HP2 := Lib.hid (HP2.out 12 h2)
      have t1 : ((p : Int) != 1) = true := bne_iff_ne.2 (by omega)
      have t2 : (p != 1) = true := bne_iff_ne.2 h1
      clear h1 h2 HZ3 HP3 hright HL
      go_wp2_with (first
        | (refine wpList_store_pd rfl (.tmp 2) (.tmp 31) rfl rb pz _ rfl rfl HB.out rfl ?_
           intro wX hX hCX
           have HX := Lib.hid hX
           have HNX := Lib.hid (HRet.out _ _ pz 0 HN.out hCX)
           clear hX hCX)
        | fail)
      have g0 : wX.cell? ⟨rb, 0, none⟩ = some (.int .i64 pz.x0) := (HX.out.cell 0).trans rfl
      have g1 : wX.cell? ⟨rb, 1, none⟩ = some (.int .i64 pz.x1) := (HX.out.cell 1).trans rfl
      have g2 : wX.cell? ⟨rb, 2, none⟩ = some (.int .i64 pz.x2) := (HX.out.cell 2).trans rfl
      have g3 : wX.cell? ⟨rb, 3, none⟩ = some (.int .i64 pz.x3) := (HX.out.cell 3).trans rfl
      have g4 : wX.cell? ⟨rb, 4, none⟩ = some (.int .i64 pz.x4) := (HX.out.cell 4).trans rfl
      have g5 : wX.cell? ⟨rb, 5, none⟩ = some (.int .i64 pz.x5) := (HX.out.cell 5).trans rfl
      have g6 : wX.cell? ⟨rb, 6, none⟩ = some (.int .i64 pz.x6) := (HX.out.cell 6).trans rfl
      have g7 : wX.cell? ⟨rb, 7, none⟩ = some (.int .i64 pz.x7) := (HX.out.cell 7).trans rfl
      have g8 : wX.cell? ⟨rb, 8, none⟩ = some (.bool pz.x8) := (HX.out.cell 8).trans rfl
      have g9 : wX.cell? ⟨rb, 9, none⟩ = some (.int .i64 pz.x9) := (HX.out.cell 9).trans rfl
      have g10 : wX.cell? ⟨rb, 10, none⟩ = some (.int .i64 pz.x10) := (HX.out.cell 10).trans rfl
      have g11 : wX.cell? ⟨rb, 11, none⟩ = some (.int .i64 pz.x11) := (HX.out.cell 11).trans rfl
      have g12 : wX.cell? ⟨rb, 12, none⟩ = some (.int .i64 pz.x12) := (HX.out.cell 12).trans rfl
      have g13 : wX.cell? ⟨rb, 13, none⟩ = some (.bool pz.x13) := (HX.out.cell 13).trans rfl
      refine bodyPost_ret (v := .tuple #[.agg #[.int .i64 pz.x0, .int .i64 pz.x1, .int .i64 pz.x2, .int .i64 pz.x3, .int .i64 pz.x4, .int .i64 pz.x5, .int .i64 pz.x6, .int .i64 pz.x7, .bool pz.x8, .int .i64 pz.x9, .int .i64 pz.x10, .int .i64 pz.x11, .int .i64 pz.x12, .bool pz.x13], .int .i64 12]) (by simp [results, Try.results17, go_sem, g0, g1, g2, g3, g4, g5, g6, g7, g8, g9, g10, g11, g12, g13]) rfl ?_
      exact ⟨by have h1 := HP2.out; have h2 := HZ2.out; subst h1; subst h2; rfl, HNX.out⟩
    · obtain ⟨⟨vb, B, cs, h3, _, hnB, hsB, _, hLs⟩, _⟩ := HL.out
      obtain ⟨a, rfl, hab, k0, _, k2⟩ := h3
      have e0 : a.add (0 * 3) = a := by rw [Nat.zero_mul]; unfold Addr.add; simp
      rw [e0] at k0 k2
      have k0' := k0
      have k2' := k2
      obtain ⟨ls, hls⟩ : ∃ ls, ls = s.len := ⟨_, rfl⟩
      rw [← hls] at k2' hsB
      have Hls := Lib.hid hls
      clear k0 k2 hls e0
      by_cases ht : t = 224
      · subst ht
        have hsr : Tr.right 0 s = true := by
          rw [right_cons] at hright
          simp only [Bool.and_eq_true] at hright
          have hok := hright.1.2
          unfold okC at hok
          rw [if_neg (by omega)] at hok
          simp only [Bool.and_eq_true] at hok
          exact hok.2
        clear hright HL
        obtain ⟨Z3, hZ3, hmk⟩ := make_14
        have HZ3m := Lib.hid hZ3
        have hal : a.block < w1.heap.size := hab.2
        clear hZ3
        have HLs : Hid (Lay w1 (fun k => Btw (w.alloc (.cells #[.int .i64 0, .int .i64 0, .int .i64 0, .int .i64 0, .int .i64 0, .int .i64 0, .int .i64 0, .int .i64 0, .bool false, .int .i64 0, .int .i64 0, .int .i64 0, .int .i64 0, .bool false] 24)) w1 k ∧ k < w1.heap.size) B 0 s) := hLs
        have Hab := Lib.hid hab
        clear hLs hab
        go_upto_region 8 with (fail)
        obtain ⟨w2, hw2⟩ : ∃ w2, w2 = w1.alloc (.cells Z3 3) := ⟨_, rfl⟩
        obtain ⟨q, hq⟩ : ∃ q, q = w1.heap.size := ⟨_, rfl⟩
        have HQ : Hid (Has w2 q 3 (zer.map iV).toArray) := by rw [hw2, hq, HZ3m.out]; exact Has.new _ _ _
        have HB2 := Lib.hid (HB.out.alloc (.cells Z3 3))
        have HN2 : Hid (New w w2) := by rw [hw2]; exact HN.out.alloc _
        have H12 : Hid (New w1 w2) := by rw [hw2]; exact (Chg.refl _ _).alloc _
        rw [← hw2] at HB2 ⊢
        rw [← hq]
        have hq1 := Lib.hid (show q = w1.heap.size from hq)
        clear hw2 hq hmk k0' k2' hal HZ3m
        go_wp2_with fail
        go_loopg [8, 9, 10] ls (fun gk s8 s9 s10 wr => ∃ (i : Nat) (R : Tr) (cur : List Int) (l : Int), i + R.len = ls ∧ gk = ls - i ∧ s8 = .int .i64 i ∧ Lay w1 (fun k => Btw (w.alloc (.cells #[.int .i64 0, .int .i64 0, .int .i64 0, .int .i64 0, .int .i64 0, .int .i64 0, .int .i64 0, .int .i64 0, .bool false, .int .i64 0, .int .i64 0, .int .i64 0, .int .i64 0, .bool false] 24)) w1 k ∧ k < w1.heap.size) B i R ∧ cur.length = 14 ∧ Has wr q 3 (cur.map iV).toArray ∧ readT R cur = readT s zer ∧ 0 ≤ l ∧ Tr.right l R = true ∧ Chg (· = q) w2 wr)
        case atStart => exact ⟨0, s, zer, 0, by rw [Hls.out]; omega, by omega, rfl, HLs.out, rfl, HQ.out, rfl, by omega, hsr, Chg.refl _ _⟩
        case round =>
          obtain ⟨i, R, cur, l, hi, rfl, rfl, hLR, hcl, hQr, hrd, hl0, hRr, hC⟩ := hrel
          have Hcl := Lib.hid hcl
          have HQr := Lib.hid hQr
          have Hrd := Lib.hid hrd
          have HCr := Lib.hid hC
          clear hcl hQr hrd hC HQ HLs
          have HBr := Lib.hid (HB2.out.chg HCr.out (fun h => by have h1 := HB.out.lt; have := hq1.out; omega))
          have HNr : Hid (New w wr) := HN2.out.trans HCr.out (fun j hj h => by have := hq1.out; have := HN.out.size; omega)
          cases R with
          | nil =>
            obtain rfl : i = ls := by simpa [Tr.len] using hi
            have hsome : readT s zer = some cur := Hrd.out.symm
            have hns := of_ns_of hsome
            have HOf := Lib.hid (rOf10_any cur Hcl.out q)
            have HRg := Lib.hid (rRight10_any (Pd.of cur))
            rw [hns] at HRg
            have HZ4 : Hid (rightN cur = true → Z = 0 ∧ P = Pd.of cur) := fun h => by
              have hs : sayN (Tr.cons 224 cb s .nil) = .inr cur := by simp only [sayN]; rw [if_pos trivial, hsome]; simp only; rw [if_pos h]
              exact ⟨HZ3.out _ hs, HP3.out _ hs⟩
            have HZ5 : Hid (rightN cur = false → Z = 12 ∧ P = pz) := fun h => by
              have hs : sayN (Tr.cons 224 cb s .nil) = .inl 12 := by simp only [sayN]; rw [if_pos trivial, hsome]; simp only; rw [h]; rfl
              exact ⟨HZ2.out _ hs, HP2.out _ hs⟩
            obtain ⟨bb, hbb⟩ : ∃ bb, rightN cur = bb := ⟨_, rfl⟩
            rw [hbb] at HRg HZ4 HZ5
            obtain ⟨pv, hpv⟩ : ∃ pv, Pd.of cur = pv := ⟨_, rfl⟩
            rw [hpv] at HOf HRg HZ4
            clear hsome hns hbb hpv HZ2 HP2 HZ3 HP3 hsr hi hLR hRr hl0
            go_wp2_with fail
            with_reducible refine (HOf.out wr HQr.out).mono ?_
            rintro e w3 ⟨rfl, hN3⟩
            have HB3 := Lib.hid (HBr.out.keep hN3)
            have HN3 := Lib.hid (HNr.out.then_new hN3)
            clear hN3 HOf
            obtain ⟨x0, x1, x2, x3, x4, x5, x6, x7, x8, x9, x10, x11, x12, x13⟩ := pv
            go_wp2_with fail
            with_reducible refine (HRg.out _).mono ?_
            rintro e w4 ⟨rfl, hN4⟩
            have HP4 := Lib.hid ((Has.new w3 24 #[.int .i64 x0, .int .i64 x1, .int .i64 x2, .int .i64 x3, .int .i64 x4, .int .i64 x5, .int .i64 x6, .int .i64 x7, .bool x8, .int .i64 x9, .int .i64 x10, .int .i64 x11, .int .i64 x12, .bool x13]).keep hN4)
            have HB4 := Lib.hid ((HB3.out.alloc (.cells #[.int .i64 x0, .int .i64 x1, .int .i64 x2, .int .i64 x3, .int .i64 x4, .int .i64 x5, .int .i64 x6, .int .i64 x7, .bool x8, .int .i64 x9, .int .i64 x10, .int .i64 x11, .int .i64 x12, .bool x13] 24)).keep hN4)
            have HN4 := Lib.hid ((HN3.out.alloc (.cells #[.int .i64 x0, .int .i64 x1, .int .i64 x2, .int .i64 x3, .int .i64 x4, .int .i64 x5, .int .i64 x6, .int .i64 x7, .bool x8, .int .i64 x9, .int .i64 x10, .int .i64 x11, .int .i64 x12, .bool x13] 24)).then_new hN4)
            clear hN4 HRg
            cases bb with
            | true =>
              have HZ2 := Lib.hid (HZ4.out rfl).1
              have HP2 := Lib.hid (HZ4.out rfl).2
              have hpl := HP4.out.lt
              have y0 := (HP4.out.cell 0).trans rfl
              have y1 := (HP4.out.cell 1).trans rfl
              have y2 := (HP4.out.cell 2).trans rfl
              have y3 := (HP4.out.cell 3).trans rfl
              have y4 := (HP4.out.cell 4).trans rfl
              have y5 := (HP4.out.cell 5).trans rfl
              have y6 := (HP4.out.cell 6).trans rfl
              have y7 := (HP4.out.cell 7).trans rfl
              have y8 := (HP4.out.cell 8).trans rfl
              have y9 := (HP4.out.cell 9).trans rfl
              have y10 := (HP4.out.cell 10).trans rfl
              have y11 := (HP4.out.cell 11).trans rfl
              have y12 := (HP4.out.cell 12).trans rfl
              have y13 := (HP4.out.cell 13).trans rfl
              clear HZ4 HZ5
              go_wp2_with (first
                | (refine wpList_store_pd rfl (.tmp 2) (.tmp 106) rfl rb ⟨x0, x1, x2, x3, x4, x5, x6, x7, x8, x9, x10, x11, x12, x13⟩ _ rfl rfl HB4.out rfl ?_
                   intro wX hX hCX
                   have HX := Lib.hid hX
                   have HNX := Lib.hid (HRet.out _ _ pz 0 HN4.out hCX)
                   clear hX hCX)
                | fail)
              have g0 : wX.cell? ⟨rb, 0, none⟩ = some (.int .i64 (⟨x0, x1, x2, x3, x4, x5, x6, x7, x8, x9, x10, x11, x12, x13⟩ : Pd).x0) := (HX.out.cell 0).trans rfl
              have g1 : wX.cell? ⟨rb, 1, none⟩ = some (.int .i64 (⟨x0, x1, x2, x3, x4, x5, x6, x7, x8, x9, x10, x11, x12, x13⟩ : Pd).x1) := (HX.out.cell 1).trans rfl
              have g2 : wX.cell? ⟨rb, 2, none⟩ = some (.int .i64 (⟨x0, x1, x2, x3, x4, x5, x6, x7, x8, x9, x10, x11, x12, x13⟩ : Pd).x2) := (HX.out.cell 2).trans rfl
              have g3 : wX.cell? ⟨rb, 3, none⟩ = some (.int .i64 (⟨x0, x1, x2, x3, x4, x5, x6, x7, x8, x9, x10, x11, x12, x13⟩ : Pd).x3) := (HX.out.cell 3).trans rfl
              have g4 : wX.cell? ⟨rb, 4, none⟩ = some (.int .i64 (⟨x0, x1, x2, x3, x4, x5, x6, x7, x8, x9, x10, x11, x12, x13⟩ : Pd).x4) := (HX.out.cell 4).trans rfl
              have g5 : wX.cell? ⟨rb, 5, none⟩ = some (.int .i64 (⟨x0, x1, x2, x3, x4, x5, x6, x7, x8, x9, x10, x11, x12, x13⟩ : Pd).x5) := (HX.out.cell 5).trans rfl
              have g6 : wX.cell? ⟨rb, 6, none⟩ = some (.int .i64 (⟨x0, x1, x2, x3, x4, x5, x6, x7, x8, x9, x10, x11, x12, x13⟩ : Pd).x6) := (HX.out.cell 6).trans rfl
              have g7 : wX.cell? ⟨rb, 7, none⟩ = some (.int .i64 (⟨x0, x1, x2, x3, x4, x5, x6, x7, x8, x9, x10, x11, x12, x13⟩ : Pd).x7) := (HX.out.cell 7).trans rfl
              have g8 : wX.cell? ⟨rb, 8, none⟩ = some (.bool (⟨x0, x1, x2, x3, x4, x5, x6, x7, x8, x9, x10, x11, x12, x13⟩ : Pd).x8) := (HX.out.cell 8).trans rfl
              have g9 : wX.cell? ⟨rb, 9, none⟩ = some (.int .i64 (⟨x0, x1, x2, x3, x4, x5, x6, x7, x8, x9, x10, x11, x12, x13⟩ : Pd).x9) := (HX.out.cell 9).trans rfl
              have g10 : wX.cell? ⟨rb, 10, none⟩ = some (.int .i64 (⟨x0, x1, x2, x3, x4, x5, x6, x7, x8, x9, x10, x11, x12, x13⟩ : Pd).x10) := (HX.out.cell 10).trans rfl
              have g11 : wX.cell? ⟨rb, 11, none⟩ = some (.int .i64 (⟨x0, x1, x2, x3, x4, x5, x6, x7, x8, x9, x10, x11, x12, x13⟩ : Pd).x11) := (HX.out.cell 11).trans rfl
              have g12 : wX.cell? ⟨rb, 12, none⟩ = some (.int .i64 (⟨x0, x1, x2, x3, x4, x5, x6, x7, x8, x9, x10, x11, x12, x13⟩ : Pd).x12) := (HX.out.cell 12).trans rfl
              have g13 : wX.cell? ⟨rb, 13, none⟩ = some (.bool (⟨x0, x1, x2, x3, x4, x5, x6, x7, x8, x9, x10, x11, x12, x13⟩ : Pd).x13) := (HX.out.cell 13).trans rfl
              refine bodyPost_ret (v := .tuple #[.agg #[.int .i64 (⟨x0, x1, x2, x3, x4, x5, x6, x7, x8, x9, x10, x11, x12, x13⟩ : Pd).x0, .int .i64 (⟨x0, x1, x2, x3, x4, x5, x6, x7, x8, x9, x10, x11, x12, x13⟩ : Pd).x1, .int .i64 (⟨x0, x1, x2, x3, x4, x5, x6, x7, x8, x9, x10, x11, x12, x13⟩ : Pd).x2, .int .i64 (⟨x0, x1, x2, x3, x4, x5, x6, x7, x8, x9, x10, x11, x12, x13⟩ : Pd).x3, .int .i64 (⟨x0, x1, x2, x3, x4, x5, x6, x7, x8, x9, x10, x11, x12, x13⟩ : Pd).x4, .int .i64 (⟨x0, x1, x2, x3, x4, x5, x6, x7, x8, x9, x10, x11, x12, x13⟩ : Pd).x5, .int .i64 (⟨x0, x1, x2, x3, x4, x5, x6, x7, x8, x9, x10, x11, x12, x13⟩ : Pd).x6, .int .i64 (⟨x0, x1, x2, x3, x4, x5, x6, x7, x8, x9, x10, x11, x12, x13⟩ : Pd).x7, .bool (⟨x0, x1, x2, x3, x4, x5, x6, x7, x8, x9, x10, x11, x12, x13⟩ : Pd).x8, .int .i64 (⟨x0, x1, x2, x3, x4, x5, x6, x7, x8, x9, x10, x11, x12, x13⟩ : Pd).x9, .int .i64 (⟨x0, x1, x2, x3, x4, x5, x6, x7, x8, x9, x10, x11, x12, x13⟩ : Pd).x10, .int .i64 (⟨x0, x1, x2, x3, x4, x5, x6, x7, x8, x9, x10, x11, x12, x13⟩ : Pd).x11, .int .i64 (⟨x0, x1, x2, x3, x4, x5, x6, x7, x8, x9, x10, x11, x12, x13⟩ : Pd).x12, .bool (⟨x0, x1, x2, x3, x4, x5, x6, x7, x8, x9, x10, x11, x12, x13⟩ : Pd).x13], .int .i64 0]) (by simp [results, Try.results17, go_sem, g0, g1, g2, g3, g4, g5, g6, g7, g8, g9, g10, g11, g12, g13]) rfl ?_
              exact ⟨by have h1 := HP2.out; have h2 := HZ2.out; subst h1; subst h2; rfl, HNX.out⟩
            | false =>
              have HZ2 := Lib.hid (HZ5.out rfl).1
              have HP2 := Lib.hid (HZ5.out rfl).2
              clear HZ4 HZ5
              go_wp2_with (first
                | (refine wpList_store_pd rfl (.tmp 2) (.tmp 105) rfl rb pz _ rfl rfl HB4.out rfl ?_
                   intro wX hX hCX
                   have HX := Lib.hid hX
                   have HNX := Lib.hid (HRet.out _ _ pz 0 HN4.out hCX)
                   clear hX hCX)
                | fail)
              have g0 : wX.cell? ⟨rb, 0, none⟩ = some (.int .i64 pz.x0) := (HX.out.cell 0).trans rfl
              have g1 : wX.cell? ⟨rb, 1, none⟩ = some (.int .i64 pz.x1) := (HX.out.cell 1).trans rfl
              have g2 : wX.cell? ⟨rb, 2, none⟩ = some (.int .i64 pz.x2) := (HX.out.cell 2).trans rfl
              have g3 : wX.cell? ⟨rb, 3, none⟩ = some (.int .i64 pz.x3) := (HX.out.cell 3).trans rfl
              have g4 : wX.cell? ⟨rb, 4, none⟩ = some (.int .i64 pz.x4) := (HX.out.cell 4).trans rfl
              have g5 : wX.cell? ⟨rb, 5, none⟩ = some (.int .i64 pz.x5) := (HX.out.cell 5).trans rfl
              have g6 : wX.cell? ⟨rb, 6, none⟩ = some (.int .i64 pz.x6) := (HX.out.cell 6).trans rfl
              have g7 : wX.cell? ⟨rb, 7, none⟩ = some (.int .i64 pz.x7) := (HX.out.cell 7).trans rfl
              have g8 : wX.cell? ⟨rb, 8, none⟩ = some (.bool pz.x8) := (HX.out.cell 8).trans rfl
              have g9 : wX.cell? ⟨rb, 9, none⟩ = some (.int .i64 pz.x9) := (HX.out.cell 9).trans rfl
              have g10 : wX.cell? ⟨rb, 10, none⟩ = some (.int .i64 pz.x10) := (HX.out.cell 10).trans rfl
              have g11 : wX.cell? ⟨rb, 11, none⟩ = some (.int .i64 pz.x11) := (HX.out.cell 11).trans rfl
              have g12 : wX.cell? ⟨rb, 12, none⟩ = some (.int .i64 pz.x12) := (HX.out.cell 12).trans rfl
              have g13 : wX.cell? ⟨rb, 13, none⟩ = some (.bool pz.x13) := (HX.out.cell 13).trans rfl
              refine bodyPost_ret (v := .tuple #[.agg #[.int .i64 pz.x0, .int .i64 pz.x1, .int .i64 pz.x2, .int .i64 pz.x3, .int .i64 pz.x4, .int .i64 pz.x5, .int .i64 pz.x6, .int .i64 pz.x7, .bool pz.x8, .int .i64 pz.x9, .int .i64 pz.x10, .int .i64 pz.x11, .int .i64 pz.x12, .bool pz.x13], .int .i64 12]) (by simp [results, Try.results17, go_sem, g0, g1, g2, g3, g4, g5, g6, g7, g8, g9, g10, g11, g12, g13]) rfl ?_
              exact ⟨by have h1 := HP2.out; have h2 := HZ2.out; subst h1; subst h2; rfl, HNX.out⟩
          | cons t1 bs1 sub1 rest =>
            obtain ⟨⟨vb1, B1, cb1, h31, ⟨Ab, cc, rfl, hbb1, hbb2, hbb3, hbb4⟩, _⟩, hLr⟩ := hLR
            have HCw : Hid (Chg (· = q) w1 wr) := Chg.new_then H12.out HCr.out
            have hF1 : ∀ k, (Btw (w.alloc (.cells #[.int .i64 0, .int .i64 0, .int .i64 0, .int .i64 0, .int .i64 0, .int .i64 0, .int .i64 0, .int .i64 0, .bool false, .int .i64 0, .int .i64 0, .int .i64 0, .int .i64 0, .bool false] 24)) w1 k ∧ k < w1.heap.size) → k < w1.heap.size ∧ ¬ k = q := fun k hk => ⟨hk.2, fun h => by have := hq1.out; have := hk.2; omega⟩
            obtain ⟨b, rfl, hbl, k0, k1, _⟩ := h31.chg HCw.out hF1
            have HIn := Lib.hid (RInt_any bs1 bs1.length cc Ab wr _ (Byts.chg ⟨Ab, cc, rfl, hbb1, hbb2, hbb3, hbb4⟩ HCw.out hF1))
            have HLr := Lib.hid hLr
            have hgood := hRr
            rw [right_cons] at hgood
            simp only [Bool.and_eq_true, decide_eq_true_eq] at hgood
            have Hrr := Lib.hid hgood.2
            obtain ⟨d, hd⟩ : ∃ d : Nat, t1 = (d : Int) + 1 := ⟨(t1 - 1).toNat, by have := hgood.1.1.1; omega⟩
            have Hd := Lib.hid hd
            simp only [Tr.len] at hi
            have Hi := Lib.hid hi
            have Hsz := Lib.hid hsB
            obtain ⟨kv, hkv⟩ : ∃ kv, kv = (intV bs1).1 := ⟨_, rfl⟩
            obtain ⟨fe, hfe⟩ : ∃ fe, fe = (intV bs1).2 := ⟨_, rfl⟩
            have Hfine : Hid (¬ (14 < t1 ∨ fe ≠ 0 ∨ kv = 0 ∨ (t1 = 9 ∧ kv ≠ 1) ∨ (t1 = 14 ∧ kv ≠ 1)) → readT rest (cur.set d (kv : Int)) = readT s zer) := fun h => by
              rw [← Hrd.out]
              simp only [readT]
              rw [← hkv, ← hfe, if_neg h, hd, show ((d : Int) + 1 - 1).toNat = d by omega]
            have Hbad : Hid ((14 < t1 ∨ fe ≠ 0 ∨ kv = 0 ∨ (t1 = 9 ∧ kv ≠ 1) ∨ (t1 = 14 ∧ kv ≠ 1)) → Z = 12 ∧ P = pz) := fun h => by
              have hno : readT s zer = none := by
                rw [← Hrd.out]
                simp only [readT]
                rw [← hkv, ← hfe, if_pos h]
              have hs : sayN (Tr.cons 224 cb s .nil) = .inl 12 := by simp only [sayN]; rw [if_pos trivial, hno]
              exact ⟨HZ2.out _ hs, HP2.out _ hs⟩
            rw [← hkv, ← hfe] at HIn
            have hlt : i < ls := by omega
            have Ht1 := Lib.hid hgood.1.1.1
            obtain ⟨m1, hm1⟩ : ∃ m1, m1 = bs1.length := ⟨_, rfl⟩
            rw [← hm1] at HIn k1
            clear hkv hfe hd hgood hi hsB h31 hbb1 hbb2 hbb3 hbb4 hLr hRr hl0 HZ2 HP2 HZ3 HP3 Hrd hsr hbl hm1 hF1
            go_upto_region 11 with (fail)
            have g1 : (i : Int) < (ls : Int) := by omega
            go_upto_region 12 with (go_at_call 51; (with_reducible refine HIn.out.mono ?_); rintro e w' ⟨rfl, hw'⟩; obtain rfl : wr = w' := hw'.symm; clear hw')
            clear HIn
            by_cases a1 : 14 < t1
            · have HZ2 := Lib.hid (Hbad.out (Or.inl a1)).1
              have HP2 := Lib.hid (Hbad.out (Or.inl a1)).2
              have e1 : decide (14 < t1) = true := decide_eq_true a1
              go_wp2_with (first
                | (refine wpList_store_pd rfl (.tmp 2) (.tmp 90) rfl rb pz _ rfl rfl HBr.out rfl ?_
                   intro wX hX hCX
                   have HX := Lib.hid hX
                   have HNX := Lib.hid (HRet.out _ _ pz 0 HNr.out hCX)
                   clear hX hCX)
                | fail)
              have g0 : wX.cell? ⟨rb, 0, none⟩ = some (.int .i64 pz.x0) := (HX.out.cell 0).trans rfl
              have g1 : wX.cell? ⟨rb, 1, none⟩ = some (.int .i64 pz.x1) := (HX.out.cell 1).trans rfl
              have g2 : wX.cell? ⟨rb, 2, none⟩ = some (.int .i64 pz.x2) := (HX.out.cell 2).trans rfl
              have g3 : wX.cell? ⟨rb, 3, none⟩ = some (.int .i64 pz.x3) := (HX.out.cell 3).trans rfl
              have g4 : wX.cell? ⟨rb, 4, none⟩ = some (.int .i64 pz.x4) := (HX.out.cell 4).trans rfl
              have g5 : wX.cell? ⟨rb, 5, none⟩ = some (.int .i64 pz.x5) := (HX.out.cell 5).trans rfl
              have g6 : wX.cell? ⟨rb, 6, none⟩ = some (.int .i64 pz.x6) := (HX.out.cell 6).trans rfl
              have g7 : wX.cell? ⟨rb, 7, none⟩ = some (.int .i64 pz.x7) := (HX.out.cell 7).trans rfl
              have g8 : wX.cell? ⟨rb, 8, none⟩ = some (.bool pz.x8) := (HX.out.cell 8).trans rfl
              have g9 : wX.cell? ⟨rb, 9, none⟩ = some (.int .i64 pz.x9) := (HX.out.cell 9).trans rfl
              have g10 : wX.cell? ⟨rb, 10, none⟩ = some (.int .i64 pz.x10) := (HX.out.cell 10).trans rfl
              have g11 : wX.cell? ⟨rb, 11, none⟩ = some (.int .i64 pz.x11) := (HX.out.cell 11).trans rfl
              have g12 : wX.cell? ⟨rb, 12, none⟩ = some (.int .i64 pz.x12) := (HX.out.cell 12).trans rfl
              have g13 : wX.cell? ⟨rb, 13, none⟩ = some (.bool pz.x13) := (HX.out.cell 13).trans rfl
              refine bodyPost_ret (v := .tuple #[.agg #[.int .i64 pz.x0, .int .i64 pz.x1, .int .i64 pz.x2, .int .i64 pz.x3, .int .i64 pz.x4, .int .i64 pz.x5, .int .i64 pz.x6, .int .i64 pz.x7, .bool pz.x8, .int .i64 pz.x9, .int .i64 pz.x10, .int .i64 pz.x11, .int .i64 pz.x12, .bool pz.x13], .int .i64 12]) (by simp [results, Try.results17, go_sem, g0, g1, g2, g3, g4, g5, g6, g7, g8, g9, g10, g11, g12, g13]) rfl ?_
              exact ⟨by have h1 := HP2.out; have h2 := HZ2.out; subst h1; subst h2; rfl, HNX.out⟩
            have e1 : decide (14 < t1) = false := decide_eq_false a1
            by_cases a2 : fe = 0
            case neg =>
              have HZ2 := Lib.hid (Hbad.out (Or.inr (Or.inl a2))).1
              have HP2 := Lib.hid (Hbad.out (Or.inr (Or.inl a2))).2
              have e2 : ((fe : Int) != 0) = true := bne_iff_ne.2 (by omega)
              have e2' : (fe != 0) = true := bne_iff_ne.2 a2
              go_wp2_with (first
                | (refine wpList_store_pd rfl (.tmp 2) (.tmp 90) rfl rb pz _ rfl rfl HBr.out rfl ?_
                   intro wX hX hCX
                   have HX := Lib.hid hX
                   have HNX := Lib.hid (HRet.out _ _ pz 0 HNr.out hCX)
                   clear hX hCX)
                | fail)
              have g0 : wX.cell? ⟨rb, 0, none⟩ = some (.int .i64 pz.x0) := (HX.out.cell 0).trans rfl
              have g1 : wX.cell? ⟨rb, 1, none⟩ = some (.int .i64 pz.x1) := (HX.out.cell 1).trans rfl
              have g2 : wX.cell? ⟨rb, 2, none⟩ = some (.int .i64 pz.x2) := (HX.out.cell 2).trans rfl
              have g3 : wX.cell? ⟨rb, 3, none⟩ = some (.int .i64 pz.x3) := (HX.out.cell 3).trans rfl
              have g4 : wX.cell? ⟨rb, 4, none⟩ = some (.int .i64 pz.x4) := (HX.out.cell 4).trans rfl
              have g5 : wX.cell? ⟨rb, 5, none⟩ = some (.int .i64 pz.x5) := (HX.out.cell 5).trans rfl
              have g6 : wX.cell? ⟨rb, 6, none⟩ = some (.int .i64 pz.x6) := (HX.out.cell 6).trans rfl
              have g7 : wX.cell? ⟨rb, 7, none⟩ = some (.int .i64 pz.x7) := (HX.out.cell 7).trans rfl
              have g8 : wX.cell? ⟨rb, 8, none⟩ = some (.bool pz.x8) := (HX.out.cell 8).trans rfl
              have g9 : wX.cell? ⟨rb, 9, none⟩ = some (.int .i64 pz.x9) := (HX.out.cell 9).trans rfl
              have g10 : wX.cell? ⟨rb, 10, none⟩ = some (.int .i64 pz.x10) := (HX.out.cell 10).trans rfl
              have g11 : wX.cell? ⟨rb, 11, none⟩ = some (.int .i64 pz.x11) := (HX.out.cell 11).trans rfl
              have g12 : wX.cell? ⟨rb, 12, none⟩ = some (.int .i64 pz.x12) := (HX.out.cell 12).trans rfl
              have g13 : wX.cell? ⟨rb, 13, none⟩ = some (.bool pz.x13) := (HX.out.cell 13).trans rfl
              refine bodyPost_ret (v := .tuple #[.agg #[.int .i64 pz.x0, .int .i64 pz.x1, .int .i64 pz.x2, .int .i64 pz.x3, .int .i64 pz.x4, .int .i64 pz.x5, .int .i64 pz.x6, .int .i64 pz.x7, .bool pz.x8, .int .i64 pz.x9, .int .i64 pz.x10, .int .i64 pz.x11, .int .i64 pz.x12, .bool pz.x13], .int .i64 12]) (by simp [results, Try.results17, go_sem, g0, g1, g2, g3, g4, g5, g6, g7, g8, g9, g10, g11, g12, g13]) rfl ?_
              exact ⟨by have h1 := HP2.out; have h2 := HZ2.out; subst h1; subst h2; rfl, HNX.out⟩
            have e2 : ((fe : Int) != 0) = false := bne_eq_false_iff_eq.2 (by omega)
            have e2' : (fe != 0) = false := bne_eq_false_iff_eq.2 a2
            by_cases a3 : kv = 0
            · have HZ2 := Lib.hid (Hbad.out (Or.inr (Or.inr (Or.inl a3)))).1
              have HP2 := Lib.hid (Hbad.out (Or.inr (Or.inr (Or.inl a3)))).2
              have e3 : ((kv : Int) == 0) = true := beq_iff_eq.2 (by omega)
              have e3' : (kv == 0) = true := beq_iff_eq.2 a3
              go_wp2_with (first
                | (refine wpList_store_pd rfl (.tmp 2) (.tmp 90) rfl rb pz _ rfl rfl HBr.out rfl ?_
                   intro wX hX hCX
                   have HX := Lib.hid hX
                   have HNX := Lib.hid (HRet.out _ _ pz 0 HNr.out hCX)
                   clear hX hCX)
                | fail)
              have g0 : wX.cell? ⟨rb, 0, none⟩ = some (.int .i64 pz.x0) := (HX.out.cell 0).trans rfl
              have g1 : wX.cell? ⟨rb, 1, none⟩ = some (.int .i64 pz.x1) := (HX.out.cell 1).trans rfl
              have g2 : wX.cell? ⟨rb, 2, none⟩ = some (.int .i64 pz.x2) := (HX.out.cell 2).trans rfl
              have g3 : wX.cell? ⟨rb, 3, none⟩ = some (.int .i64 pz.x3) := (HX.out.cell 3).trans rfl
              have g4 : wX.cell? ⟨rb, 4, none⟩ = some (.int .i64 pz.x4) := (HX.out.cell 4).trans rfl
              have g5 : wX.cell? ⟨rb, 5, none⟩ = some (.int .i64 pz.x5) := (HX.out.cell 5).trans rfl
              have g6 : wX.cell? ⟨rb, 6, none⟩ = some (.int .i64 pz.x6) := (HX.out.cell 6).trans rfl
              have g7 : wX.cell? ⟨rb, 7, none⟩ = some (.int .i64 pz.x7) := (HX.out.cell 7).trans rfl
              have g8 : wX.cell? ⟨rb, 8, none⟩ = some (.bool pz.x8) := (HX.out.cell 8).trans rfl
              have g9 : wX.cell? ⟨rb, 9, none⟩ = some (.int .i64 pz.x9) := (HX.out.cell 9).trans rfl
              have g10 : wX.cell? ⟨rb, 10, none⟩ = some (.int .i64 pz.x10) := (HX.out.cell 10).trans rfl
              have g11 : wX.cell? ⟨rb, 11, none⟩ = some (.int .i64 pz.x11) := (HX.out.cell 11).trans rfl
              have g12 : wX.cell? ⟨rb, 12, none⟩ = some (.int .i64 pz.x12) := (HX.out.cell 12).trans rfl
              have g13 : wX.cell? ⟨rb, 13, none⟩ = some (.bool pz.x13) := (HX.out.cell 13).trans rfl
              refine bodyPost_ret (v := .tuple #[.agg #[.int .i64 pz.x0, .int .i64 pz.x1, .int .i64 pz.x2, .int .i64 pz.x3, .int .i64 pz.x4, .int .i64 pz.x5, .int .i64 pz.x6, .int .i64 pz.x7, .bool pz.x8, .int .i64 pz.x9, .int .i64 pz.x10, .int .i64 pz.x11, .int .i64 pz.x12, .bool pz.x13], .int .i64 12]) (by simp [results, Try.results17, go_sem, g0, g1, g2, g3, g4, g5, g6, g7, g8, g9, g10, g11, g12, g13]) rfl ?_
              exact ⟨by have h1 := HP2.out; have h2 := HZ2.out; subst h1; subst h2; rfl, HNX.out⟩
            have e3 : ((kv : Int) == 0) = false := beq_eq_false_iff_ne.2 (by omega)
            have e3' : (kv == 0) = false := beq_eq_false_iff_ne.2 a3
            by_cases a4 : kv = 1
            · have e4 : ((kv : Int) != 1) = false := bne_eq_false_iff_eq.2 (by omega)
              have e4' : (kv != 1) = false := bne_eq_false_iff_eq.2 a4
              have Hnb : Hid (¬ (14 < t1 ∨ fe ≠ 0 ∨ kv = 0 ∨ (t1 = 9 ∧ kv ≠ 1) ∨ (t1 = 14 ∧ kv ≠ 1))) := by rw [Hid]; omega
              by_cases a5 : t1 = 9
              · have hw : IntKind.i64.wrap (t1 - 1) = (d : Int) := by have := Hd.out; have := Ht1.out; rw [IntWalk.i64_in _ (by omega)]; omega
                have hd1 : (d : Int) < 14 := by have := Hd.out; omega
                have hd2 : (0 : Int) ≤ (d : Int) := by omega
                have kq := row_at HQr.out d (by rw [Hcl.out]; omega)
                have fq := HQr.out.free d
                have lq := HQr.out.lt
                have e5 : (t1 == 9) = true := beq_iff_eq.2 a5
                have e6 : (t1 == 14) = false := beq_eq_false_iff_ne.2 (by omega)
                clear a1 a2 a3 a4 a5
                go_wp2_with fail
                go_roundg (ls - (i + 1))
                case measure => have := Hi.out; omega
                case rel =>
                  refine ⟨i + 1, rest, cur.set d (kv : Int), t1, by have := Hi.out; omega, rfl, ?_, HLr.out, by rw [List.length_set]; exact Hcl.out, ?_, Hfine.out (by exact Hnb.out), by have := Hd.out; omega, Hrr.out, HCr.out.trans (Chg.setCell (S := (· = q)) (Chg.refl _ _) (p := ⟨q, d, none⟩) (fun _ => rfl) _) (fun _ _ h => h)⟩
                  · have hb := Hi.out
                    have hb2 := Hsz.out
                    show Value.int .i64 (wrap64 ((i : Int) + 1)) = .int .i64 ((i + 1 : Nat) : Int)
                    rw [w64 _ (by omega) (by omega)]
                    rfl
                  · have := HQr.out.set d (.int .i64 (kv : Int))
                    rw [← iV_set] at this
                    exact this
              by_cases a6 : t1 = 14
              · have hw : IntKind.i64.wrap (t1 - 1) = (d : Int) := by have := Hd.out; have := Ht1.out; rw [IntWalk.i64_in _ (by omega)]; omega
                have hd1 : (d : Int) < 14 := by have := Hd.out; omega
                have hd2 : (0 : Int) ≤ (d : Int) := by omega
                have kq := row_at HQr.out d (by rw [Hcl.out]; omega)
                have fq := HQr.out.free d
                have lq := HQr.out.lt
                have e5 : (t1 == 9) = false := beq_eq_false_iff_ne.2 a5
                have e6 : (t1 == 14) = true := beq_iff_eq.2 a6
                clear a1 a2 a3 a4 a5 a6
                go_wp2_with fail
                go_roundg (ls - (i + 1))
                case measure => have := Hi.out; omega
                case rel =>
                  refine ⟨i + 1, rest, cur.set d (kv : Int), t1, by have := Hi.out; omega, rfl, ?_, HLr.out, by rw [List.length_set]; exact Hcl.out, ?_, Hfine.out (by exact Hnb.out), by have := Hd.out; omega, Hrr.out, HCr.out.trans (Chg.setCell (S := (· = q)) (Chg.refl _ _) (p := ⟨q, d, none⟩) (fun _ => rfl) _) (fun _ _ h => h)⟩
                  · have hb := Hi.out
                    have hb2 := Hsz.out
                    show Value.int .i64 (wrap64 ((i : Int) + 1)) = .int .i64 ((i + 1 : Nat) : Int)
                    rw [w64 _ (by omega) (by omega)]
                    rfl
                  · have := HQr.out.set d (.int .i64 (kv : Int))
                    rw [← iV_set] at this
                    exact this
              · have hw : IntKind.i64.wrap (t1 - 1) = (d : Int) := by have := Hd.out; have := Ht1.out; rw [IntWalk.i64_in _ (by omega)]; omega
                have hd1 : (d : Int) < 14 := by have := Hd.out; omega
                have hd2 : (0 : Int) ≤ (d : Int) := by omega
                have kq := row_at HQr.out d (by rw [Hcl.out]; omega)
                have fq := HQr.out.free d
                have lq := HQr.out.lt
                have e5 : (t1 == 9) = false := beq_eq_false_iff_ne.2 a5
                have e6 : (t1 == 14) = false := beq_eq_false_iff_ne.2 a6
                clear a1 a2 a3 a4 a5 a6
                go_wp2_with fail
                go_roundg (ls - (i + 1))
                case measure => have := Hi.out; omega
                case rel =>
                  refine ⟨i + 1, rest, cur.set d (kv : Int), t1, by have := Hi.out; omega, rfl, ?_, HLr.out, by rw [List.length_set]; exact Hcl.out, ?_, Hfine.out (by exact Hnb.out), by have := Hd.out; omega, Hrr.out, HCr.out.trans (Chg.setCell (S := (· = q)) (Chg.refl _ _) (p := ⟨q, d, none⟩) (fun _ => rfl) _) (fun _ _ h => h)⟩
                  · have hb := Hi.out
                    have hb2 := Hsz.out
                    show Value.int .i64 (wrap64 ((i : Int) + 1)) = .int .i64 ((i + 1 : Nat) : Int)
                    rw [w64 _ (by omega) (by omega)]
                    rfl
                  · have := HQr.out.set d (.int .i64 (kv : Int))
                    rw [← iV_set] at this
                    exact this
            · have e4 : ((kv : Int) != 1) = true := bne_iff_ne.2 (by omega)
              have e4' : (kv != 1) = true := bne_iff_ne.2 a4
              by_cases a5 : t1 = 9
              · have HZ2 := Lib.hid (Hbad.out (Or.inr (Or.inr (Or.inr (Or.inl ⟨a5, a4⟩))))).1
                have HP2 := Lib.hid (Hbad.out (Or.inr (Or.inr (Or.inr (Or.inl ⟨a5, a4⟩))))).2
                have e5 : (t1 == 9) = true := beq_iff_eq.2 a5
                have e6 : (t1 == 14) = false := beq_eq_false_iff_ne.2 (by omega)
                go_wp2_with (first
                  | (refine wpList_store_pd rfl (.tmp 2) (.tmp 90) rfl rb pz _ rfl rfl HBr.out rfl ?_
                     intro wX hX hCX
                     have HX := Lib.hid hX
                     have HNX := Lib.hid (HRet.out _ _ pz 0 HNr.out hCX)
                     clear hX hCX)
                  | fail)
                have g0 : wX.cell? ⟨rb, 0, none⟩ = some (.int .i64 pz.x0) := (HX.out.cell 0).trans rfl
                have g1 : wX.cell? ⟨rb, 1, none⟩ = some (.int .i64 pz.x1) := (HX.out.cell 1).trans rfl
                have g2 : wX.cell? ⟨rb, 2, none⟩ = some (.int .i64 pz.x2) := (HX.out.cell 2).trans rfl
                have g3 : wX.cell? ⟨rb, 3, none⟩ = some (.int .i64 pz.x3) := (HX.out.cell 3).trans rfl
                have g4 : wX.cell? ⟨rb, 4, none⟩ = some (.int .i64 pz.x4) := (HX.out.cell 4).trans rfl
                have g5 : wX.cell? ⟨rb, 5, none⟩ = some (.int .i64 pz.x5) := (HX.out.cell 5).trans rfl
                have g6 : wX.cell? ⟨rb, 6, none⟩ = some (.int .i64 pz.x6) := (HX.out.cell 6).trans rfl
                have g7 : wX.cell? ⟨rb, 7, none⟩ = some (.int .i64 pz.x7) := (HX.out.cell 7).trans rfl
                have g8 : wX.cell? ⟨rb, 8, none⟩ = some (.bool pz.x8) := (HX.out.cell 8).trans rfl
                have g9 : wX.cell? ⟨rb, 9, none⟩ = some (.int .i64 pz.x9) := (HX.out.cell 9).trans rfl
                have g10 : wX.cell? ⟨rb, 10, none⟩ = some (.int .i64 pz.x10) := (HX.out.cell 10).trans rfl
                have g11 : wX.cell? ⟨rb, 11, none⟩ = some (.int .i64 pz.x11) := (HX.out.cell 11).trans rfl
                have g12 : wX.cell? ⟨rb, 12, none⟩ = some (.int .i64 pz.x12) := (HX.out.cell 12).trans rfl
                have g13 : wX.cell? ⟨rb, 13, none⟩ = some (.bool pz.x13) := (HX.out.cell 13).trans rfl
                refine bodyPost_ret (v := .tuple #[.agg #[.int .i64 pz.x0, .int .i64 pz.x1, .int .i64 pz.x2, .int .i64 pz.x3, .int .i64 pz.x4, .int .i64 pz.x5, .int .i64 pz.x6, .int .i64 pz.x7, .bool pz.x8, .int .i64 pz.x9, .int .i64 pz.x10, .int .i64 pz.x11, .int .i64 pz.x12, .bool pz.x13], .int .i64 12]) (by simp [results, Try.results17, go_sem, g0, g1, g2, g3, g4, g5, g6, g7, g8, g9, g10, g11, g12, g13]) rfl ?_
                exact ⟨by have h1 := HP2.out; have h2 := HZ2.out; subst h1; subst h2; rfl, HNX.out⟩
              by_cases a6 : t1 = 14
              · have HZ2 := Lib.hid (Hbad.out (Or.inr (Or.inr (Or.inr (Or.inr ⟨a6, a4⟩))))).1
                have HP2 := Lib.hid (Hbad.out (Or.inr (Or.inr (Or.inr (Or.inr ⟨a6, a4⟩))))).2
                have e5 : (t1 == 9) = false := beq_eq_false_iff_ne.2 a5
                have e6 : (t1 == 14) = true := beq_iff_eq.2 a6
                go_wp2_with (first
                  | (refine wpList_store_pd rfl (.tmp 2) (.tmp 90) rfl rb pz _ rfl rfl HBr.out rfl ?_
                     intro wX hX hCX
                     have HX := Lib.hid hX
                     have HNX := Lib.hid (HRet.out _ _ pz 0 HNr.out hCX)
                     clear hX hCX)
                  | fail)
                have g0 : wX.cell? ⟨rb, 0, none⟩ = some (.int .i64 pz.x0) := (HX.out.cell 0).trans rfl
                have g1 : wX.cell? ⟨rb, 1, none⟩ = some (.int .i64 pz.x1) := (HX.out.cell 1).trans rfl
                have g2 : wX.cell? ⟨rb, 2, none⟩ = some (.int .i64 pz.x2) := (HX.out.cell 2).trans rfl
                have g3 : wX.cell? ⟨rb, 3, none⟩ = some (.int .i64 pz.x3) := (HX.out.cell 3).trans rfl
                have g4 : wX.cell? ⟨rb, 4, none⟩ = some (.int .i64 pz.x4) := (HX.out.cell 4).trans rfl
                have g5 : wX.cell? ⟨rb, 5, none⟩ = some (.int .i64 pz.x5) := (HX.out.cell 5).trans rfl
                have g6 : wX.cell? ⟨rb, 6, none⟩ = some (.int .i64 pz.x6) := (HX.out.cell 6).trans rfl
                have g7 : wX.cell? ⟨rb, 7, none⟩ = some (.int .i64 pz.x7) := (HX.out.cell 7).trans rfl
                have g8 : wX.cell? ⟨rb, 8, none⟩ = some (.bool pz.x8) := (HX.out.cell 8).trans rfl
                have g9 : wX.cell? ⟨rb, 9, none⟩ = some (.int .i64 pz.x9) := (HX.out.cell 9).trans rfl
                have g10 : wX.cell? ⟨rb, 10, none⟩ = some (.int .i64 pz.x10) := (HX.out.cell 10).trans rfl
                have g11 : wX.cell? ⟨rb, 11, none⟩ = some (.int .i64 pz.x11) := (HX.out.cell 11).trans rfl
                have g12 : wX.cell? ⟨rb, 12, none⟩ = some (.int .i64 pz.x12) := (HX.out.cell 12).trans rfl
                have g13 : wX.cell? ⟨rb, 13, none⟩ = some (.bool pz.x13) := (HX.out.cell 13).trans rfl
                refine bodyPost_ret (v := .tuple #[.agg #[.int .i64 pz.x0, .int .i64 pz.x1, .int .i64 pz.x2, .int .i64 pz.x3, .int .i64 pz.x4, .int .i64 pz.x5, .int .i64 pz.x6, .int .i64 pz.x7, .bool pz.x8, .int .i64 pz.x9, .int .i64 pz.x10, .int .i64 pz.x11, .int .i64 pz.x12, .bool pz.x13], .int .i64 12]) (by simp [results, Try.results17, go_sem, g0, g1, g2, g3, g4, g5, g6, g7, g8, g9, g10, g11, g12, g13]) rfl ?_
                exact ⟨by have h1 := HP2.out; have h2 := HZ2.out; subst h1; subst h2; rfl, HNX.out⟩
              have Hnb : Hid (¬ (14 < t1 ∨ fe ≠ 0 ∨ kv = 0 ∨ (t1 = 9 ∧ kv ≠ 1) ∨ (t1 = 14 ∧ kv ≠ 1))) := by rw [Hid]; omega
              have hw : IntKind.i64.wrap (t1 - 1) = (d : Int) := by have := Hd.out; have := Ht1.out; rw [IntWalk.i64_in _ (by omega)]; omega
              have hd1 : (d : Int) < 14 := by have := Hd.out; omega
              have hd2 : (0 : Int) ≤ (d : Int) := by omega
              have kq := row_at HQr.out d (by rw [Hcl.out]; omega)
              have fq := HQr.out.free d
              have lq := HQr.out.lt
              have e5 : (t1 == 9) = false := beq_eq_false_iff_ne.2 a5
              have e6 : (t1 == 14) = false := beq_eq_false_iff_ne.2 a6
              clear a1 a2 a3 a4 a5 a6
              go_wp2_with fail
              go_roundg (ls - (i + 1))
              case measure => have := Hi.out; omega
              case rel =>
                refine ⟨i + 1, rest, cur.set d (kv : Int), t1, by have := Hi.out; omega, rfl, ?_, HLr.out, by rw [List.length_set]; exact Hcl.out, ?_, Hfine.out (by exact Hnb.out), by have := Hd.out; omega, Hrr.out, HCr.out.trans (Chg.setCell (S := (· = q)) (Chg.refl _ _) (p := ⟨q, d, none⟩) (fun _ => rfl) _) (fun _ _ h => h)⟩
                · have hb := Hi.out
                  have hb2 := Hsz.out
                  show Value.int .i64 (wrap64 ((i : Int) + 1)) = .int .i64 ((i + 1 : Nat) : Int)
                  rw [w64 _ (by omega) (by omega)]
                  rfl
                · have := HQr.out.set d (.int .i64 (kv : Int))
                  rw [← iV_set] at this
                  exact this
      · have hsay : sayN (Tr.cons t cb s .nil) = .inl 12 := by simp only [sayN]; rw [if_neg ht]
        have HZ2 := Lib.hid (HZ2.out 12 hsay)
        have HP2 := Lib.hid (HP2.out 12 hsay)
        have t1 : (t != 224) = true := bne_iff_ne.2 ht
        clear ht hsay HZ3 HP3 hright HL hLs hnB hsB
        go_wp2_with (first
          | (refine wpList_store_pd rfl (.tmp 2) (.tmp 31) rfl rb pz _ rfl rfl HB.out rfl ?_
             intro wX hX hCX
             have HX := Lib.hid hX
             have HNX := Lib.hid (HRet.out _ _ pz 0 HN.out hCX)
             clear hX hCX)
          | fail)
        have g0 : wX.cell? ⟨rb, 0, none⟩ = some (.int .i64 pz.x0) := (HX.out.cell 0).trans rfl
        have g1 : wX.cell? ⟨rb, 1, none⟩ = some (.int .i64 pz.x1) := (HX.out.cell 1).trans rfl
        have g2 : wX.cell? ⟨rb, 2, none⟩ = some (.int .i64 pz.x2) := (HX.out.cell 2).trans rfl
        have g3 : wX.cell? ⟨rb, 3, none⟩ = some (.int .i64 pz.x3) := (HX.out.cell 3).trans rfl
        have g4 : wX.cell? ⟨rb, 4, none⟩ = some (.int .i64 pz.x4) := (HX.out.cell 4).trans rfl
        have g5 : wX.cell? ⟨rb, 5, none⟩ = some (.int .i64 pz.x5) := (HX.out.cell 5).trans rfl
        have g6 : wX.cell? ⟨rb, 6, none⟩ = some (.int .i64 pz.x6) := (HX.out.cell 6).trans rfl
        have g7 : wX.cell? ⟨rb, 7, none⟩ = some (.int .i64 pz.x7) := (HX.out.cell 7).trans rfl
        have g8 : wX.cell? ⟨rb, 8, none⟩ = some (.bool pz.x8) := (HX.out.cell 8).trans rfl
        have g9 : wX.cell? ⟨rb, 9, none⟩ = some (.int .i64 pz.x9) := (HX.out.cell 9).trans rfl
        have g10 : wX.cell? ⟨rb, 10, none⟩ = some (.int .i64 pz.x10) := (HX.out.cell 10).trans rfl
        have g11 : wX.cell? ⟨rb, 11, none⟩ = some (.int .i64 pz.x11) := (HX.out.cell 11).trans rfl
        have g12 : wX.cell? ⟨rb, 12, none⟩ = some (.int .i64 pz.x12) := (HX.out.cell 12).trans rfl
        have g13 : wX.cell? ⟨rb, 13, none⟩ = some (.bool pz.x13) := (HX.out.cell 13).trans rfl
        refine bodyPost_ret (v := .tuple #[.agg #[.int .i64 pz.x0, .int .i64 pz.x1, .int .i64 pz.x2, .int .i64 pz.x3, .int .i64 pz.x4, .int .i64 pz.x5, .int .i64 pz.x6, .int .i64 pz.x7, .bool pz.x8, .int .i64 pz.x9, .int .i64 pz.x10, .int .i64 pz.x11, .int .i64 pz.x12, .bool pz.x13], .int .i64 12]) (by simp [results, Try.results17, go_sem, g0, g1, g2, g3, g4, g5, g6, g7, g8, g9, g10, g11, g12, g13]) rfl ?_
        exact ⟨by have h1 := HP2.out; have h2 := HZ2.out; subst h1; subst h2; rfl, HNX.out⟩
end Go.Proofs.Ytkcokcanakljnaa
