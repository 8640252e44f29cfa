/-
  What the law BitsPuts does where its lists are of bounded bulk: it returns true and turns nothing that was there.
-/
import Derived.Test.YtemhcfbdpplcgaaLawF
namespace Go.Proofs.Ytemhcfbdpplcgaa
open Go.RowKit
set_option linter.unusedSimpArgs false

/-- what the document's own reckoning lays out of fields, right or wrong -/
def tbit (x y : Int) : List Bool := if 1 ≤ x ∧ x ≤ 32 ∧ 0 ≤ y then bitsOf x.toNat y.toNat else []
def tbits (fw fv : Nat → Int) : Nat → List Bool
  | 0 => []
  | n + 1 => tbits fw fv n ++ tbit (fw n) (fv n)
def allok (fw fv : Nat → Int) : Nat → Bool
  | 0 => true
  | n + 1 => allok fw fv n && okF (fw n) (fv n)
theorem tbit_len (x y : Int) : (tbit x y).length ≤ 32 := by
  unfold tbit; split
  · simp; omega
  · simp
theorem tbits_len (fw fv : Nat → Int) (n : Nat) : (tbits fw fv n).length ≤ 32 * n := by
  induction n with
  | zero => simp [tbits]
  | succ n ih => have := tbit_len (fw n) (fv n); simp only [tbits, List.length_append]; omega
theorem allok_iff (fw fv : Nat → Int) (n : Nat) : allok fw fv n = true ↔ ∀ j, j < n → okF (fw j) (fv j) = true := by
  induction n with
  | zero => simp [allok]
  | succ n ih =>
    simp only [allok, Bool.and_eq_true, ih]
    constructor
    · rintro ⟨h1, h2⟩ j hj
      rcases Nat.lt_succ_iff_lt_or_eq.1 hj with h | rfl
      · exact h1 j h
      · exact h2
    · exact fun h => ⟨fun j hj => h j (by omega), h n (by omega)⟩
theorem tbits_ok (fw fv : Nat → Int) (n : Nat) (h : ∀ j, j < n → okF (fw j) (fv j) = true) : tbits fw fv n = fbits fw fv n := by
  induction n with
  | zero => rfl
  | succ n ih =>
    have h1 := okF_bounds (h n (by omega))
    simp only [tbits, fbits]
    rw [ih (fun j hj => h j (by omega)), tbit, if_pos ⟨h1.1, h1.2.1, h1.2.2.1⟩]
theorem Field_any (x y : Int) (w : World) (hy : y ≤ 9223372036854775807) :
    Calls Try.prog 9 #[.int .i64 x, .int .i64 y] w fun e w' => e = .returned (.tuple #[.string (fstr (tbit x y)), .bool (okF x y)]) ∧ w = w' := by
  by_cases h : 1 ≤ x ∧ x ≤ 32 ∧ 0 ≤ y
  · obtain ⟨h1, h2, h3⟩ := h
    obtain ⟨xn, rfl⟩ : ∃ xn : Nat, x = (xn : Int) := ⟨x.toNat, by omega⟩
    obtain ⟨yn, rfl⟩ : ∃ yn : Nat, y = (yn : Int) := ⟨y.toNat, by omega⟩
    refine (Field_ok xn yn w (by omega) (by omega) (by omega)).mono ?_
    rintro e w' ⟨rfl, rfl⟩
    refine ⟨?_, rfl⟩
    have e1 : tbit (xn : Int) (yn : Int) = bitsOf xn yn := by unfold tbit; rw [if_pos ⟨h1, h2, h3⟩]; simp
    have e2 : okF (xn : Int) (yn : Int) = decide (yn / 2 ^ xn = 0) := by
      unfold okF
      rw [decide_eq_decide]
      have hp : 0 < 2 ^ xn := Nat.two_pow_pos _
      have hc : ((2 : Int) ^ (xn : Int).toNat) = ((2 ^ xn : Nat) : Int) := by simp
      rw [hc, Nat.div_eq_zero_iff]
      constructor
      · rintro ⟨_, _, _, h⟩; exact Or.inr (by exact_mod_cast h)
      · rintro (h | h)
        · omega
        · exact ⟨h1, h2, h3, by exact_mod_cast h⟩
    rw [e1, e2]
  · refine (Field_no x y w (by omega)).mono ?_
    rintro e w' ⟨rfl, rfl⟩
    refine ⟨?_, rfl⟩
    have e1 : tbit x y = [] := by unfold tbit; rw [if_neg h]
    have e2 : okF x y = false := by unfold okF; exact decide_eq_false (fun hh => h ⟨hh.1, hh.2.1, hh.2.2.1⟩)
    rw [e1, e2, fstr_nil]
theorem Fldss.at_ {W : World} {A : Option Addr} {n : Nat} (h : Fldss W A n) (i : Nat) (hi : i < n) : ∃ a LA ln lc, ∃ fw fv : Nat → Int, A = some a ∧ a.block < W.heap.size ∧ ln ≤ 1048576 ∧ (LA = none → ln = 0 ∧ lc = 0) ∧ (∀ j, j < ln → fv j ≤ 9223372036854775807) ∧
    (∀ wx, New W wx → wx.cell? (a.add i) = some (.slice LA ln lc) ∧ Flds wx (· < W.heap.size) LA ln fw fv) := by
  obtain ⟨a, LA, ln, lc, fw, fv, rfl, hb, h1, h2, h3, h4, h5⟩ := h i hi
  refine ⟨a, LA, ln, lc, fw, fv, rfl, hb, h1, h2, h5, fun wx hx => ⟨?_, h4.chg hx (fun k hk => ⟨hk, fun f => f⟩)⟩⟩
  exact (hx.cell (by rw [add_block]; exact hb) (fun f => f)).trans h3
theorem bad_or' (fw fv : Nat → Int) (n : Nat) : (∀ j, j < n → okF (fw j) (fv j) = true) ∨ ∃ j, j < n ∧ okF (fw j) (fv j) = false := by
  by_cases hok : ∀ j, j < n → okF (fw j) (fv j) = true
  · exact Or.inl hok
  · refine Or.inr (Classical.byContradiction fun hno => hok fun j hj => ?_)
    cases h : okF (fw j) (fv j) with
    | true => rfl
    | false => exact absurd ⟨j, hj, h⟩ hno
set_option maxRecDepth 100000 in
set_option maxHeartbeats 8000000 in
theorem puts_walk (A : Option Addr) (m d : Nat) (w : World) (hA : Fldss w A m) (hm : m ≤ 9223372036854775807) :
    Calls Try.prog 3 #[.slice A m d] w fun e w' => e = .returned (.bool true) ∧ New w w' := by
  have HA := Lib.hid hA; clear hA
  obtain ⟨i0, hi, hz0, hz1, hz2⟩ := info_parts Try.infoF
  go_enter Try.func3, Try.ntmps3
  go_wp2_with fail
  refine (awake_any _).mono ?_
  rintro e w1 ⟨rfl, hN1⟩
  have hs1 := hN1.size
  have HW1 := Lib.hid (Wr_zero w1)
  have HN1 := Lib.hid (hN1.alloc (.cells #[.slice none 0 0, .int .i64 0] 26)); clear hN1
  go_wp2_with fail
  obtain ⟨bw, hbw⟩ : ∃ bw, bw = w1.heap.size := ⟨_, rfl⟩
  rw [← hbw] at HW1 hs1 ⊢
  obtain ⟨wa, hwa⟩ : ∃ wa, wa = w1.alloc (.cells #[.slice none 0 0, .int .i64 0] 26) := ⟨_, rfl⟩
  rw [← hwa] at HW1 HN1 ⊢
  clear hbw hwa
  go_loopg [4, 5] 40 (fun gk s4 s5 wr => ∃ (k : Nat) (L : List Bool) (v : Value), k ≤ m ∧ k ≤ 40 ∧ gk = 40 - k ∧ s5 = .int .i64 k ∧ s4 = .string (fstr L) ∧ L.length ≤ 33554432 * k ∧ Wr wr bw v L ∧ (∀ g, v.ownBlock = some g → w.heap.size ≤ g) ∧ New w wr)
  case atStart => exact ⟨0, [], .slice none 0 0, by omega, by omega, by omega, rfl, rfl, by simp, HW1.out, fun g hg => by simp [Value.ownBlock] at hg, HN1.out⟩
  case round =>
    clear HW1 HN1
    obtain ⟨k, L, v, hkm, hk40, rfl, rfl, rfl, hLl, hW, hv, hN⟩ := hrel
    have HW := Lib.hid hW; clear hW
    have Hv := Lib.hid hv; clear hv
    have HN := Lib.hid hN; clear hN
    by_cases hlt : k < m ∧ k < 40
    · obtain ⟨hlt1, hlt2⟩ := hlt
      obtain ⟨a, LA, ln, lc, fw, fv, rfl, hab, hln, hLnil, hfv, hat⟩ := HA.out.at_ k hlt1
      have Hat := Lib.hid hat; clear hat
      have HLnil := Lib.hid hLnil; clear hLnil
      have Hfv := Lib.hid hfv; clear hfv
      have hcB := (Hat.out wr HN.out).1
      go_upto_block 2 with (fail)
      go_cut [6, 7] (fun s6 s7 wx => (∃ q, wx = wr.drewN q) ∧ s6 = .string (fstr (tbits fw fv ln)) ∧ s7 = .bool (allok fw fv ln))
      case first =>
        go_wp2_with fail
        go_loopg [6, 7, 8] ln (fun gk s6 s7 s8 wx => ∃ j q : Nat, j ≤ ln ∧ gk = ln - j ∧ s8 = .int .i64 j ∧ s6 = .string (fstr (tbits fw fv j)) ∧ s7 = .bool (allok fw fv j) ∧ wx = wr.drewN q)
        case atStart => exact ⟨0, 0, by omega, by omega, rfl, rfl, rfl, rfl⟩
        case round =>
          obtain ⟨j, q, hj, rfl, rfl, rfl, rfl, rfl⟩ := hrel
          have hTl := tbits_len fw fv j
          by_cases hjl : j < ln
          · obtain ⟨b, hb, _, hc1, hc2⟩ := (Hat.out wr HN.out).2 j hjl
            subst hb
            have hy := Hfv.out j hjl
            obtain ⟨T, hT⟩ : ∃ T, T = tbits fw fv j := ⟨_, rfl⟩
            obtain ⟨g, hg⟩ : ∃ g, g = allok fw fv j := ⟨_, rfl⟩
            have hT1 : tbits fw fv (j + 1) = T ++ tbit (fw j) (fv j) := by rw [hT]; rfl
            have hg1 : allok fw fv (j + 1) = (g && okF (fw j) (fv j)) := by rw [hg]; rfl
            rw [← hT] at hTl ⊢
            rw [← hg]
            clear hT hg
            obtain ⟨x, hx⟩ : ∃ x, x = fw j := ⟨_, rfl⟩
            obtain ⟨y, hyy⟩ : ∃ y, y = fv j := ⟨_, rfl⟩
            rw [← hx] at hc1 hT1 hg1
            rw [← hyy] at hc2 hT1 hg1 hy
            clear hx hyy
            have HT1 := Lib.hid hT1; clear hT1
            have Hg1 := Lib.hid hg1; clear hg1
            have htl := tbit_len x y
            have hF := fun wx => Field_any x y wx hy
            obtain ⟨tb, htb⟩ : ∃ tb, tb = tbit x y := ⟨_, rfl⟩
            obtain ⟨ok, hok⟩ : ∃ ok, ok = okF x y := ⟨_, rfl⟩
            rw [← htb] at htl hF HT1
            rw [← hok] at hF Hg1
            clear htb hok
            have HF := Lib.hid hF; clear hF
            have hadd : ∀ w, (Op.stringOp .add (fstr T) (fstr tb)).run Try.prog w = .ok (.string (fstr (T ++ tb))) w := fun w => fstr_add w T tb (by omega)
            cases g
            all_goals
              go_upto_region 12 with (fail)
              go_quiet ((go_at_call 9; first | exact qs (HF.out _) | exact (HF.out _).mono fun _ _ ⟨h1, h2⟩ => ⟨h1, _, h2.symm⟩))
              go_wp2
              go_roundg (ln - (j + 1))
              case measure => omega
              case rel => exact ⟨j + 1, _, by omega, rfl, by go_num, by rw [HT1.out], by rw [Hg1.out]; first | rfl | simp, rfl⟩
          · obtain rfl : j = ln := by omega
            go_wp2
            go_meet
            case rel => exact ⟨⟨q, rfl⟩, rfl, rfl⟩
      case rest =>
        obtain ⟨⟨q, rfl⟩, rfl, rfl⟩ := hcut
        have hTl := tbits_len fw fv ln
        have hiff := allok_iff fw fv ln
        have htok := tbits_ok fw fv ln
        have Hiff := Lib.hid hiff; clear hiff
        have Htok := Lib.hid htok; clear htok
        obtain ⟨T, hT⟩ : ∃ T, T = tbits fw fv ln := ⟨_, rfl⟩
        obtain ⟨g, hg⟩ : ∃ g, g = allok fw fv ln := ⟨_, rfl⟩
        rw [← hT] at hTl Htok ⊢
        rw [← hg] at Hiff ⊢
        clear hT hg
        have hN' : New w (wr.drewN q) := HN.out.drewN q
        have hW' : Wr (wr.drewN q) bw v L := HW.out.chg (S := fun _ => False) ((Chg.refl _ _).drewN q) (fun f => f) (fun _ _ f => f)
        obtain ⟨wd, hwd⟩ : ∃ wd, wd = wr.drewN q := ⟨_, rfl⟩
        rw [← hwd] at hN' hW' ⊢
        clear hwd hcB HW HN
        have HW := Lib.hid hW'; clear hW'
        have HN := Lib.hid hN'; clear hN'
        have hcB := (Hat.out (wd.alloc (.cells #[] 31)) (HN.out.alloc _)).1
        have hsw := HN.out.size
        have hbwl := HW.out.1.lt
        -- the call of Put, cut around: what it answers, what the writer then holds
        go_upto_region 15 with (fail)
        go_cut [11] (fun s11 wx => ∃ v', s11 = .int .i64 (if g then 0 else 2) ∧ Wr wx bw v' (if g then L ++ T else L) ∧ (∀ g, v'.ownBlock = some g → w.heap.size ≤ g) ∧ New w wx)
        case first =>
          go_wp2_with (at_builtin; refine wpList_append_src rfl _ _ 27 rfl wd.heap.size 31 i0 (.agg #[.int .i64 0, .int .i64 0]) 2 16 Try.underlying27 hi hz0 hz1 hz2 rfl (by decide) _ 0 [] rfl ?o1 LA ln lc (fcells fw fv ln) rfl HLnil.out ?l1 ?c1 ?e1 ?m1 ?m2 ?m3 ?_)
          case o1 => exact World.ownsRow_made (base := wd.heap.size) (e := 31) (size := 2) wd #[] 0 (Nat.le_refl _) (by decide) rfl
          case l1 => exact fcells_len _ _ _
          case c1 => exact (Hat.out (wd.alloc (.cells #[] 31)) (HN.out.alloc _)).2.cells
          case e1 => exact fcells_one _ _ _
          case m1 => simp only [maxLen]; omega
          case m2 => omega
          case m3 => simp
          intro A2 c2 w2 hO2 hC2 _
          try simp only [Nat.zero_add, List.nil_append] at hO2
          have hN2 : New wd w2 := ((Chg.refl _ _).alloc _).trans hC2 (fun i hi hk => by simp [Value.ownBlock] at hk; omega)
          have HO2 := Lib.hid hO2; clear hO2 hC2
          have HN2 := Lib.hid hN2; clear hN2
          clear hcB
          have hF2 : ∀ k, Value.ownBlock (.slice A2 ln c2) = some k → k < w2.heap.size ∧ k ≠ bw ∧ v.ownBlock ≠ some k := fun k hk => by
            have h1 := HO2.out.lt k hk
            exact ⟨h1.2, by omega, fun e => by have := (HW.out.2.lt k e).2; omega⟩
          have HF2 := Lib.hid hF2; clear hF2
          cases g with
          | true =>
            have hP := Put_ok bw _ v L A2 ln c2 fw fv w2 (HW.out.new HN2.out) (Flds.of_own HO2.out) HF2.out (by omega) (Hiff.out.1 rfl)
            rw [← Htok.out (Hiff.out.1 rfl)] at hP
            have HP := Lib.hid hP; clear hP
            go_wp2_with fail
            with_reducible refine HP.out.mono ?_
            rintro e w3 ⟨rfl, v', hW3, hX3⟩
            have hv3 : ∀ g, v'.ownBlock = some g → w.heap.size ≤ g := by
              rcases hX3.2 with e | e
              · intro g hg; rw [e] at hg; exact Hv.out g hg
              · intro g hg; have := e g hg; have := HN2.out.size; omega
            have hN3 : New w w3 := (HN.out.then_new HN2.out).trans hX3.1 (fun i hi hk => by
              rcases hk with rfl | hk
              · omega
              · have := Hv.out i hk; omega)
            have HW3 := Lib.hid hW3; clear hW3 hX3
            have Hv3 := Lib.hid hv3; clear hv3
            have HN3 := Lib.hid hN3; clear hN3
            go_wp2_with fail
            go_meet
            case rel => exact ⟨v', rfl, HW3.out, Hv3.out, HN3.out⟩
          | false =>
            obtain ⟨j, hj, hbad⟩ : ∃ j, j < ln ∧ okF (fw j) (fv j) = false := by
              rcases bad_or' fw fv ln with h | h
              · exact absurd (Hiff.out.2 h) (by decide)
              · exact h
            have hP := Put_no bw _ A2 ln c2 fw fv w2 (Flds.of_own HO2.out) (fun k hk => (HF2.out k hk).1) (by omega) j hj hbad
            have HP := Lib.hid hP; clear hP hbad
            go_wp2_with fail
            with_reducible refine HP.out.mono ?_
            rintro e w3 ⟨rfl, hN3⟩
            have HN3 := Lib.hid hN3; clear hN3
            go_wp2_with fail
            go_meet
            case rel => exact ⟨v, rfl, HW.out.new (HN2.out.then_new HN3.out), Hv.out, (HN.out.then_new HN2.out).then_new HN3.out⟩
        case rest =>
          clear hcB HW Hv HN hbwl hsw
          obtain ⟨v', hs11, hW, hv, hN⟩ := hcut
          obtain ⟨ee, hee⟩ : ∃ ee : Int, ee = (if g then 0 else 2) := ⟨_, rfl⟩
          rw [← hee] at hs11
          subst hs11
          have Hee := Lib.hid hee; clear hee
          obtain ⟨M, hM⟩ : ∃ M, M = (if g then L ++ T else L) := ⟨_, rfl⟩
          have hMl : M.length ≤ 33554432 * (k + 1) := by rw [hM]; cases g <;> simp <;> omega
          rw [← hM] at hW
          have HM := Lib.hid hM; clear hM
          have HW := Lib.hid hW; clear hW
          have Hv := Lib.hid hv; clear hv
          have HN := Lib.hid hN; clear hN
          have hadd : ∀ w, (Op.stringOp .add (fstr L) (fstr T)).run Try.prog w = .ok (.string (fstr (L ++ T))) w := fun w => fstr_add w L T (by omega)
          go_upto_if 69 with (fail)
          go_cut [4] (fun s4 wx => wc = wx ∧ s4 = .string (fstr M))
          case first =>
            cases g with
            | true =>
              have hM2 : M = L ++ T := HM.out
              have HM2 := Lib.hid hM2; clear hM2
              go_wp2
              go_meet
              case rel => exact ⟨rfl, by rw [HM2.out]⟩
            | false =>
              have hM2 : M = L := HM.out
              have HM2 := Lib.hid hM2; clear hM2
              go_wp2
              go_meet
              case rel => exact ⟨rfl, by rw [HM2.out]⟩
          case rest =>
            obtain ⟨rfl, rfl⟩ := hcut
            clear hadd
            obtain ⟨pl, hpl⟩ : ∃ pl, pl = (pack M).length := ⟨_, rfl⟩
            have hBy : ∀ wx, Wr wx bw v' M → Calls Try.prog 12 #[.pointer (some ⟨bw, 0, none⟩)] wx fun e w' => ∃ A' c', e = .returned (.slice A' pl c') ∧ w'.ownsRow wx.heap.size 5 1 (.slice A' pl c') pl ((pack M).map bV) ∧ New wx w' := by
              rw [hpl]; exact fun wx h => Bytes_any bw v' M wx h (by omega)
            have hRB : ∀ wx, Calls Try.prog 13 #[.string (fstr M)] wx fun e w' => ∃ A' c', e = .returned (.slice A' pl c') ∧ w'.ownsRow wx.heap.size 5 1 (.slice A' pl c') pl ((pack M).map bV) ∧ New wx w' := by
              rw [hpl]; exact fun wx => RefBytes_any M wx (by omega)
            have HBy := Lib.hid hBy; clear hBy
            have HRB := Lib.hid hRB; clear hRB
            clear hpl
            obtain ⟨st, hst⟩ : ∃ st, st = bstr (pack M) := ⟨_, rfl⟩
            have hcv : ∀ (wx : World) A' c' base, wx.ownsRow base 5 1 (.slice A' pl c') pl ((pack M).map bV) → (convert 24 9 (.slice A' pl c')).run Try.prog wx = .ok (.string st) wx := by
              rw [hst]; exact fun wx A' c' base h => own_string Try.underlying24 Try.underlying5 Try.underlying9 h
            have Hcv := Lib.hid hcv; clear hcv hst
            have hLe : ∀ wx, Wr wx bw v' M → Calls Try.prog 11 #[.pointer (some ⟨bw, 0, none⟩)] wx fun e w' => e = .returned (.int .i64 M.length) ∧ wx = w' := fun wx h => Len_any bw v' M wx h
            have HLe := Lib.hid hLe; clear hLe
            have hMs : (fstr M).size = M.length := fstr_size M
            go_upto_region 18 with (fail)
            go_cut [98] (fun s98 wx => s98 = .bool false ∧ New wc wx)
            case first =>
              have hee := Hee.out
              clear HM Hiff Htok Hee
              cases g
              · simp only [Bool.false_eq_true, if_false] at hee
                subst hee
                refine wp_region_any (by kernel_rfl) ?_
                change wpAny _ _ _ _ _ _ _ (World.drew _)
                refine wpAny_take (i := 0) (v := .bool false) rfl (by kernel_rfl) (by kernel_rfl) (by kernel_rfl) (fun _ _ _ h => h) (Or.inl ⟨by go_simp, fun _ => by go_simp⟩) ?_
                try simp only [Act.put, List.setIfInBounds_toArray, List.set_cons_zero, List.set_cons_succ]
                refine wpAny_take (i := 1) (v := .int .i64 2) rfl (by kernel_rfl) (by kernel_rfl) (by kernel_rfl) (fun _ _ _ h => h) (Or.inl ⟨by go_simp, fun _ => by go_simp⟩) ?_
                try simp only [Act.put, List.setIfInBounds_toArray, List.set_cons_zero, List.set_cons_succ]
                refine wpAny_take (i := 2) (v := .bool false) rfl (by kernel_rfl) (by kernel_rfl) (by kernel_rfl) (fun _ _ _ h => h) (Or.inl ⟨by go_simp, fun _ => by go_simp⟩) ?_
                try simp only [Act.put, List.setIfInBounds_toArray, List.set_cons_zero, List.set_cons_succ]
                refine wpAny_take (i := 3) (v := .bool false) rfl (by kernel_rfl) (by kernel_rfl) (by kernel_rfl) (fun _ _ _ h => h) (Or.inl ⟨by go_simp, fun _ => by go_simp⟩) ?_
                try simp only [Act.put, List.setIfInBounds_toArray, List.set_cons_zero, List.set_cons_succ]
                refine wpAny_take (i := 4) (v := .bool false) rfl (by kernel_rfl) (by kernel_rfl) (by kernel_rfl) (fun _ _ _ h => h) (Or.inl ⟨by go_simp, fun _ => by go_simp⟩) ?_
                try simp only [Act.put, List.setIfInBounds_toArray, List.set_cons_zero, List.set_cons_succ]
                refine wpAny_take (i := 5) (v := .bool false) rfl (by kernel_rfl) (by kernel_rfl) (by kernel_rfl) (fun _ _ _ h => h) (Or.inl ⟨by go_simp, fun _ => by go_simp⟩) ?_
                try simp only [Act.put, List.setIfInBounds_toArray, List.set_cons_zero, List.set_cons_succ]
                refine wpAny_take (i := 6) (v := .bool true) rfl (by kernel_rfl) (by kernel_rfl) (by kernel_rfl) (fun _ _ _ h => h) (Or.inl ⟨by go_simp, fun _ => by go_simp⟩) ?_
                try simp only [Act.put, List.setIfInBounds_toArray, List.set_cons_zero, List.set_cons_succ]
                refine wpAny_take (i := 7) (v := .bool true) rfl (by kernel_rfl) (by kernel_rfl) (by kernel_rfl) (fun _ _ _ h => h) (Or.inl ⟨by go_simp, fun _ => by go_simp⟩) ?_
                try simp only [Act.put, List.setIfInBounds_toArray, List.set_cons_zero, List.set_cons_succ]
                refine wpAny_take (i := 8) (v := .int .i64 2) rfl (by kernel_rfl) (by kernel_rfl) (by kernel_rfl) (fun _ _ _ h => h) (Or.inl ⟨by go_simp, fun _ => by go_simp⟩) ?_
                try simp only [Act.put, List.setIfInBounds_toArray, List.set_cons_zero, List.set_cons_succ]
                refine wpAny_take (i := 9) (v := .bool false) rfl (by kernel_rfl) (by kernel_rfl) (by kernel_rfl) (fun _ _ _ h => h) (Or.inl ⟨by go_simp, fun _ => by go_simp⟩) ?_
                try simp only [Act.put, List.setIfInBounds_toArray, List.set_cons_zero, List.set_cons_succ]
                refine wpAny_take (i := 10) (v := .bool false) rfl (by kernel_rfl) (by kernel_rfl) (by kernel_rfl) (fun _ _ _ h => h) (Or.inl ⟨by go_simp, fun _ => by go_simp⟩) ?_
                try simp only [Act.put, List.setIfInBounds_toArray, List.set_cons_zero, List.set_cons_succ]
                refine wpAny_take (i := 11) (v := .bool false) rfl (by kernel_rfl) (by kernel_rfl) (by kernel_rfl) (fun _ _ _ h => h) (Or.inl ⟨by go_simp, fun _ => by go_simp⟩) ?_
                try simp only [Act.put, List.setIfInBounds_toArray, List.set_cons_zero, List.set_cons_succ]
                refine wpAny_take (i := 12) (v := .bool false) rfl (by kernel_rfl) (by kernel_rfl) (by kernel_rfl) (fun _ _ _ h => h) (Or.inl ⟨by go_simp, fun _ => by go_simp⟩) ?_
                try simp only [Act.put, List.setIfInBounds_toArray, List.set_cons_zero, List.set_cons_succ]
                refine wpAny_take (i := 14) (v := .string (fstr M)) rfl (by kernel_rfl) (by kernel_rfl) (by kernel_rfl) (fun _ _ _ h => h) (Or.inl ⟨by go_simp, fun _ => by go_simp⟩) ?_
                try simp only [Act.put, List.setIfInBounds_toArray, List.set_cons_zero, List.set_cons_succ]
                refine wpAny_take (i := 15) (v := .int .i64 M.length) rfl (by kernel_rfl) (by kernel_rfl) (by kernel_rfl) (fun _ _ _ h => h) (Or.inl ⟨by go_simp, fun _ => by go_simp⟩) ?_
                try simp only [Act.put, List.setIfInBounds_toArray, List.set_cons_zero, List.set_cons_succ]
                refine wpAny_ready (rs := [13]) (by kernel_rfl) (by simp) ?_
                refine (AllReady.cons rfl (fun K hK => ?_) AllReady.nil)
                go_simp
                with_reducible refine (HLe.out _ (HW.out.new ((Chg.refl _ _).drew))).mono ?_
                rintro e w9 ⟨rfl, rfl⟩
                refine hK _ _ ?_
                clear hK K
                try simp only [Act.put, List.setIfInBounds_toArray, List.set_cons_zero, List.set_cons_succ]
                refine wpAny_take (i := 16) (v := .bool false) rfl (by kernel_rfl) (by kernel_rfl) (by kernel_rfl) (fun _ _ _ h => h) (Or.inl ⟨by go_simp, fun _ => by go_simp⟩) ?_
                try simp only [Act.put, List.setIfInBounds_toArray, List.set_cons_zero, List.set_cons_succ]
                refine wpAny_take (i := 17) (v := .bool false) rfl (by kernel_rfl) (by kernel_rfl) (by kernel_rfl) (fun _ _ _ h => h) (Or.inl ⟨by go_simp, fun _ => by go_simp⟩) ?_
                try simp only [Act.put, List.setIfInBounds_toArray, List.set_cons_zero, List.set_cons_succ]
                refine wpAny_take (i := 18) (v := .bool false) rfl (by kernel_rfl) (by kernel_rfl) (by kernel_rfl) (fun _ _ _ h => h) (Or.inl ⟨by go_simp, fun _ => by go_simp⟩) ?_
                try simp only [Act.put, List.setIfInBounds_toArray, List.set_cons_zero, List.set_cons_succ]
                refine wpAny_take (i := 21) (v := .string (fstr M)) rfl (by kernel_rfl) (by kernel_rfl) (by kernel_rfl) (fun _ _ _ h => h) (Or.inl ⟨by go_simp, fun _ => by go_simp⟩) ?_
                try simp only [Act.put, List.setIfInBounds_toArray, List.set_cons_zero, List.set_cons_succ]
                refine wpAny_ready (rs := [19]) (by kernel_rfl) (by simp) ?_
                refine (AllReady.cons rfl (fun K hK => ?_) AllReady.nil)
                go_simp
                with_reducible refine (HBy.out _ (HW.out.new ((Chg.refl _ _).drew))).mono ?_
                rintro e w7 ⟨A7, c7, rfl, hO7, hN7⟩
                have hcv7 := Hcv.out w7 A7 c7 _ hO7
                have HN7 : Hid (New wc w7) := Chg.new_then ((Chg.refl _ _).drew) hN7
                have HO7 := Lib.hid hO7
                clear hN7 hO7
                refine hK _ _ ?_
                clear hK K
                try simp only [Act.put, List.setIfInBounds_toArray, List.set_cons_zero, List.set_cons_succ]
                refine wpAny_ready (rs := [20, 22]) (by kernel_rfl) (by simp) ?_
                refine (AllReady.cons rfl (fun K hK => ?_) (AllReady.cons rfl (fun K hK => ?_) AllReady.nil))
                · go_simp
                  refine hK _ _ ?_
                  clear hK K
                  try simp only [Act.put, List.setIfInBounds_toArray, List.set_cons_zero, List.set_cons_succ]
                  refine wpAny_ready (rs := [22]) (by kernel_rfl) (by simp) ?_
                  refine (AllReady.cons rfl (fun K hK => ?_) AllReady.nil)
                  go_simp
                  with_reducible refine (HRB.out _).mono ?_
                  rintro e w8 ⟨A8, c8, rfl, hO8, hN8⟩
                  have hcv7' := Hcv.out w8 A7 c7 _ (own_new HO7.out hN8)
                  have hcv8 := Hcv.out w8 A8 c8 _ hO8
                  have HN8 : Hid (New wc w8) := HN7.out.then_new hN8
                  clear hN8 hO8
                  refine hK _ _ ?_
                  clear hK K
                  try simp only [Act.put, List.setIfInBounds_toArray, List.set_cons_zero, List.set_cons_succ]
                  refine wpAny_ready (rs := [23]) (by kernel_rfl) (by simp) ?_
                  refine (AllReady.cons rfl (fun K hK => ?_) AllReady.nil)
                  go_simp
                  refine hK _ _ ?_
                  clear hK K
                  try simp only [Act.put, List.setIfInBounds_toArray, List.set_cons_zero, List.set_cons_succ]
                  refine wpAny_ready (rs := [24]) (by kernel_rfl) (by simp) ?_
                  refine (AllReady.cons rfl (fun K hK => ?_) AllReady.nil)
                  go_simp
                  refine hK _ _ ?_
                  clear hK K
                  try simp only [Act.put, List.setIfInBounds_toArray, List.set_cons_zero, List.set_cons_succ]
                  refine wpAny_ready (rs := [25]) (by kernel_rfl) (by simp) ?_
                  refine (AllReady.cons rfl (fun K hK => ?_) AllReady.nil)
                  go_simp
                  refine hK _ _ ?_
                  clear hK K
                  try simp only [Act.put, List.setIfInBounds_toArray, List.set_cons_zero, List.set_cons_succ]
                  refine wpAny_done (by kernel_rfl) ?_ _
                  go_wp2_with fail
                  go_meet
                  case rel => exact ⟨rfl, HN8.out⟩
                · go_simp
                  with_reducible refine (HRB.out _).mono ?_
                  rintro e w8 ⟨A8, c8, rfl, hO8, hN8⟩
                  have hcv7' := Hcv.out w8 A7 c7 _ (own_new HO7.out hN8)
                  have hcv8 := Hcv.out w8 A8 c8 _ hO8
                  have HN8 : Hid (New wc w8) := HN7.out.then_new hN8
                  clear hN8 hO8
                  refine hK _ _ ?_
                  clear hK K
                  try simp only [Act.put, List.setIfInBounds_toArray, List.set_cons_zero, List.set_cons_succ]
                  refine wpAny_ready (rs := [20, 23]) (by kernel_rfl) (by simp) ?_
                  refine (AllReady.cons rfl (fun K hK => ?_) (AllReady.cons rfl (fun K hK => ?_) AllReady.nil))
                  · go_simp
                    refine hK _ _ ?_
                    clear hK K
                    try simp only [Act.put, List.setIfInBounds_toArray, List.set_cons_zero, List.set_cons_succ]
                    refine wpAny_ready (rs := [23]) (by kernel_rfl) (by simp) ?_
                    refine (AllReady.cons rfl (fun K hK => ?_) AllReady.nil)
                    go_simp
                    refine hK _ _ ?_
                    clear hK K
                    try simp only [Act.put, List.setIfInBounds_toArray, List.set_cons_zero, List.set_cons_succ]
                    refine wpAny_ready (rs := [24]) (by kernel_rfl) (by simp) ?_
                    refine (AllReady.cons rfl (fun K hK => ?_) AllReady.nil)
                    go_simp
                    refine hK _ _ ?_
                    clear hK K
                    try simp only [Act.put, List.setIfInBounds_toArray, List.set_cons_zero, List.set_cons_succ]
                    refine wpAny_ready (rs := [25]) (by kernel_rfl) (by simp) ?_
                    refine (AllReady.cons rfl (fun K hK => ?_) AllReady.nil)
                    go_simp
                    refine hK _ _ ?_
                    clear hK K
                    try simp only [Act.put, List.setIfInBounds_toArray, List.set_cons_zero, List.set_cons_succ]
                    refine wpAny_done (by kernel_rfl) ?_ _
                    go_wp2_with fail
                    go_meet
                    case rel => exact ⟨rfl, HN8.out⟩
                  · go_simp
                    refine hK _ _ ?_
                    clear hK K
                    try simp only [Act.put, List.setIfInBounds_toArray, List.set_cons_zero, List.set_cons_succ]
                    refine wpAny_ready (rs := [20]) (by kernel_rfl) (by simp) ?_
                    refine (AllReady.cons rfl (fun K hK => ?_) AllReady.nil)
                    go_simp
                    refine hK _ _ ?_
                    clear hK K
                    try simp only [Act.put, List.setIfInBounds_toArray, List.set_cons_zero, List.set_cons_succ]
                    refine wpAny_ready (rs := [24]) (by kernel_rfl) (by simp) ?_
                    refine (AllReady.cons rfl (fun K hK => ?_) AllReady.nil)
                    go_simp
                    refine hK _ _ ?_
                    clear hK K
                    try simp only [Act.put, List.setIfInBounds_toArray, List.set_cons_zero, List.set_cons_succ]
                    refine wpAny_ready (rs := [25]) (by kernel_rfl) (by simp) ?_
                    refine (AllReady.cons rfl (fun K hK => ?_) AllReady.nil)
                    go_simp
                    refine hK _ _ ?_
                    clear hK K
                    try simp only [Act.put, List.setIfInBounds_toArray, List.set_cons_zero, List.set_cons_succ]
                    refine wpAny_done (by kernel_rfl) ?_ _
                    go_wp2_with fail
                    go_meet
                    case rel => exact ⟨rfl, HN8.out⟩
              · simp only [if_true] at hee
                subst hee
                refine wp_region_any (by kernel_rfl) ?_
                change wpAny _ _ _ _ _ _ _ (World.drew _)
                refine wpAny_take (i := 0) (v := .bool true) rfl (by kernel_rfl) (by kernel_rfl) (by kernel_rfl) (fun _ _ _ h => h) (Or.inl ⟨by go_simp, fun _ => by go_simp⟩) ?_
                try simp only [Act.put, List.setIfInBounds_toArray, List.set_cons_zero, List.set_cons_succ]
                refine wpAny_take (i := 1) (v := .int .i64 0) rfl (by kernel_rfl) (by kernel_rfl) (by kernel_rfl) (fun _ _ _ h => h) (Or.inl ⟨by go_simp, fun _ => by go_simp⟩) ?_
                try simp only [Act.put, List.setIfInBounds_toArray, List.set_cons_zero, List.set_cons_succ]
                refine wpAny_take (i := 2) (v := .bool true) rfl (by kernel_rfl) (by kernel_rfl) (by kernel_rfl) (fun _ _ _ h => h) (Or.inl ⟨by go_simp, fun _ => by go_simp⟩) ?_
                try simp only [Act.put, List.setIfInBounds_toArray, List.set_cons_zero, List.set_cons_succ]
                refine wpAny_take (i := 3) (v := .bool false) rfl (by kernel_rfl) (by kernel_rfl) (by kernel_rfl) (fun _ _ _ h => h) (Or.inl ⟨by go_simp, fun _ => by go_simp⟩) ?_
                try simp only [Act.put, List.setIfInBounds_toArray, List.set_cons_zero, List.set_cons_succ]
                refine wpAny_take (i := 4) (v := .bool false) rfl (by kernel_rfl) (by kernel_rfl) (by kernel_rfl) (fun _ _ _ h => h) (Or.inl ⟨by go_simp, fun _ => by go_simp⟩) ?_
                try simp only [Act.put, List.setIfInBounds_toArray, List.set_cons_zero, List.set_cons_succ]
                refine wpAny_take (i := 5) (v := .bool true) rfl (by kernel_rfl) (by kernel_rfl) (by kernel_rfl) (fun _ _ _ h => h) (Or.inl ⟨by go_simp, fun _ => by go_simp⟩) ?_
                try simp only [Act.put, List.setIfInBounds_toArray, List.set_cons_zero, List.set_cons_succ]
                refine wpAny_take (i := 6) (v := .bool false) rfl (by kernel_rfl) (by kernel_rfl) (by kernel_rfl) (fun _ _ _ h => h) (Or.inl ⟨by go_simp, fun _ => by go_simp⟩) ?_
                try simp only [Act.put, List.setIfInBounds_toArray, List.set_cons_zero, List.set_cons_succ]
                refine wpAny_take (i := 7) (v := .bool false) rfl (by kernel_rfl) (by kernel_rfl) (by kernel_rfl) (fun _ _ _ h => h) (Or.inl ⟨by go_simp, fun _ => by go_simp⟩) ?_
                try simp only [Act.put, List.setIfInBounds_toArray, List.set_cons_zero, List.set_cons_succ]
                refine wpAny_take (i := 8) (v := undef) rfl (by kernel_rfl) (by kernel_rfl) (by kernel_rfl) (fun _ _ _ h => h) (Or.inr ⟨by go_simp, rfl⟩) ?_
                try simp only [Act.put, List.setIfInBounds_toArray, List.set_cons_zero, List.set_cons_succ]
                refine wpAny_take (i := 9) (v := undef) rfl (by kernel_rfl) (by kernel_rfl) (by kernel_rfl) (fun _ _ _ h => h) (Or.inr ⟨by go_simp, rfl⟩) ?_
                try simp only [Act.put, List.setIfInBounds_toArray, List.set_cons_zero, List.set_cons_succ]
                refine wpAny_take (i := 10) (v := .bool false) rfl (by kernel_rfl) (by kernel_rfl) (by kernel_rfl) (fun _ _ _ h => h) (Or.inl ⟨by go_simp, fun _ => by go_simp⟩) ?_
                try simp only [Act.put, List.setIfInBounds_toArray, List.set_cons_zero, List.set_cons_succ]
                refine wpAny_take (i := 11) (v := .bool false) rfl (by kernel_rfl) (by kernel_rfl) (by kernel_rfl) (fun _ _ _ h => h) (Or.inl ⟨by go_simp, fun _ => by go_simp⟩) ?_
                try simp only [Act.put, List.setIfInBounds_toArray, List.set_cons_zero, List.set_cons_succ]
                refine wpAny_take (i := 12) (v := .bool false) rfl (by kernel_rfl) (by kernel_rfl) (by kernel_rfl) (fun _ _ _ h => h) (Or.inl ⟨by go_simp, fun _ => by go_simp⟩) ?_
                try simp only [Act.put, List.setIfInBounds_toArray, List.set_cons_zero, List.set_cons_succ]
                refine wpAny_take (i := 14) (v := .string (fstr M)) rfl (by kernel_rfl) (by kernel_rfl) (by kernel_rfl) (fun _ _ _ h => h) (Or.inl ⟨by go_simp, fun _ => by go_simp⟩) ?_
                try simp only [Act.put, List.setIfInBounds_toArray, List.set_cons_zero, List.set_cons_succ]
                refine wpAny_take (i := 15) (v := .int .i64 M.length) rfl (by kernel_rfl) (by kernel_rfl) (by kernel_rfl) (fun _ _ _ h => h) (Or.inl ⟨by go_simp, fun _ => by go_simp⟩) ?_
                try simp only [Act.put, List.setIfInBounds_toArray, List.set_cons_zero, List.set_cons_succ]
                refine wpAny_ready (rs := [13]) (by kernel_rfl) (by simp) ?_
                refine (AllReady.cons rfl (fun K hK => ?_) AllReady.nil)
                go_simp
                with_reducible refine (HLe.out _ (HW.out.new ((Chg.refl _ _).drew))).mono ?_
                rintro e w9 ⟨rfl, rfl⟩
                refine hK _ _ ?_
                clear hK K
                try simp only [Act.put, List.setIfInBounds_toArray, List.set_cons_zero, List.set_cons_succ]
                refine wpAny_take (i := 16) (v := .bool false) rfl (by kernel_rfl) (by kernel_rfl) (by kernel_rfl) (fun _ _ _ h => h) (Or.inl ⟨by go_simp, fun _ => by go_simp⟩) ?_
                try simp only [Act.put, List.setIfInBounds_toArray, List.set_cons_zero, List.set_cons_succ]
                refine wpAny_take (i := 17) (v := .bool false) rfl (by kernel_rfl) (by kernel_rfl) (by kernel_rfl) (fun _ _ _ h => h) (Or.inl ⟨by go_simp, fun _ => by go_simp⟩) ?_
                try simp only [Act.put, List.setIfInBounds_toArray, List.set_cons_zero, List.set_cons_succ]
                refine wpAny_take (i := 18) (v := .bool false) rfl (by kernel_rfl) (by kernel_rfl) (by kernel_rfl) (fun _ _ _ h => h) (Or.inl ⟨by go_simp, fun _ => by go_simp⟩) ?_
                try simp only [Act.put, List.setIfInBounds_toArray, List.set_cons_zero, List.set_cons_succ]
                refine wpAny_take (i := 21) (v := .string (fstr M)) rfl (by kernel_rfl) (by kernel_rfl) (by kernel_rfl) (fun _ _ _ h => h) (Or.inl ⟨by go_simp, fun _ => by go_simp⟩) ?_
                try simp only [Act.put, List.setIfInBounds_toArray, List.set_cons_zero, List.set_cons_succ]
                refine wpAny_ready (rs := [19]) (by kernel_rfl) (by simp) ?_
                refine (AllReady.cons rfl (fun K hK => ?_) AllReady.nil)
                go_simp
                with_reducible refine (HBy.out _ (HW.out.new ((Chg.refl _ _).drew))).mono ?_
                rintro e w7 ⟨A7, c7, rfl, hO7, hN7⟩
                have hcv7 := Hcv.out w7 A7 c7 _ hO7
                have HN7 : Hid (New wc w7) := Chg.new_then ((Chg.refl _ _).drew) hN7
                have HO7 := Lib.hid hO7
                clear hN7 hO7
                refine hK _ _ ?_
                clear hK K
                try simp only [Act.put, List.setIfInBounds_toArray, List.set_cons_zero, List.set_cons_succ]
                refine wpAny_ready (rs := [20, 22]) (by kernel_rfl) (by simp) ?_
                refine (AllReady.cons rfl (fun K hK => ?_) (AllReady.cons rfl (fun K hK => ?_) AllReady.nil))
                · go_simp
                  refine hK _ _ ?_
                  clear hK K
                  try simp only [Act.put, List.setIfInBounds_toArray, List.set_cons_zero, List.set_cons_succ]
                  refine wpAny_ready (rs := [22]) (by kernel_rfl) (by simp) ?_
                  refine (AllReady.cons rfl (fun K hK => ?_) AllReady.nil)
                  go_simp
                  with_reducible refine (HRB.out _).mono ?_
                  rintro e w8 ⟨A8, c8, rfl, hO8, hN8⟩
                  have hcv7' := Hcv.out w8 A7 c7 _ (own_new HO7.out hN8)
                  have hcv8 := Hcv.out w8 A8 c8 _ hO8
                  have HN8 : Hid (New wc w8) := HN7.out.then_new hN8
                  clear hN8 hO8
                  refine hK _ _ ?_
                  clear hK K
                  try simp only [Act.put, List.setIfInBounds_toArray, List.set_cons_zero, List.set_cons_succ]
                  refine wpAny_ready (rs := [23]) (by kernel_rfl) (by simp) ?_
                  refine (AllReady.cons rfl (fun K hK => ?_) AllReady.nil)
                  go_simp
                  refine hK _ _ ?_
                  clear hK K
                  try simp only [Act.put, List.setIfInBounds_toArray, List.set_cons_zero, List.set_cons_succ]
                  refine wpAny_ready (rs := [24]) (by kernel_rfl) (by simp) ?_
                  refine (AllReady.cons rfl (fun K hK => ?_) AllReady.nil)
                  go_simp
                  refine hK _ _ ?_
                  clear hK K
                  try simp only [Act.put, List.setIfInBounds_toArray, List.set_cons_zero, List.set_cons_succ]
                  refine wpAny_ready (rs := [25]) (by kernel_rfl) (by simp) ?_
                  refine (AllReady.cons rfl (fun K hK => ?_) AllReady.nil)
                  go_simp
                  refine hK _ _ ?_
                  clear hK K
                  try simp only [Act.put, List.setIfInBounds_toArray, List.set_cons_zero, List.set_cons_succ]
                  refine wpAny_done (by kernel_rfl) ?_ _
                  go_wp2_with fail
                  go_meet
                  case rel => exact ⟨rfl, HN8.out⟩
                · go_simp
                  with_reducible refine (HRB.out _).mono ?_
                  rintro e w8 ⟨A8, c8, rfl, hO8, hN8⟩
                  have hcv7' := Hcv.out w8 A7 c7 _ (own_new HO7.out hN8)
                  have hcv8 := Hcv.out w8 A8 c8 _ hO8
                  have HN8 : Hid (New wc w8) := HN7.out.then_new hN8
                  clear hN8 hO8
                  refine hK _ _ ?_
                  clear hK K
                  try simp only [Act.put, List.setIfInBounds_toArray, List.set_cons_zero, List.set_cons_succ]
                  refine wpAny_ready (rs := [20, 23]) (by kernel_rfl) (by simp) ?_
                  refine (AllReady.cons rfl (fun K hK => ?_) (AllReady.cons rfl (fun K hK => ?_) AllReady.nil))
                  · go_simp
                    refine hK _ _ ?_
                    clear hK K
                    try simp only [Act.put, List.setIfInBounds_toArray, List.set_cons_zero, List.set_cons_succ]
                    refine wpAny_ready (rs := [23]) (by kernel_rfl) (by simp) ?_
                    refine (AllReady.cons rfl (fun K hK => ?_) AllReady.nil)
                    go_simp
                    refine hK _ _ ?_
                    clear hK K
                    try simp only [Act.put, List.setIfInBounds_toArray, List.set_cons_zero, List.set_cons_succ]
                    refine wpAny_ready (rs := [24]) (by kernel_rfl) (by simp) ?_
                    refine (AllReady.cons rfl (fun K hK => ?_) AllReady.nil)
                    go_simp
                    refine hK _ _ ?_
                    clear hK K
                    try simp only [Act.put, List.setIfInBounds_toArray, List.set_cons_zero, List.set_cons_succ]
                    refine wpAny_ready (rs := [25]) (by kernel_rfl) (by simp) ?_
                    refine (AllReady.cons rfl (fun K hK => ?_) AllReady.nil)
                    go_simp
                    refine hK _ _ ?_
                    clear hK K
                    try simp only [Act.put, List.setIfInBounds_toArray, List.set_cons_zero, List.set_cons_succ]
                    refine wpAny_done (by kernel_rfl) ?_ _
                    go_wp2_with fail
                    go_meet
                    case rel => exact ⟨rfl, HN8.out⟩
                  · go_simp
                    refine hK _ _ ?_
                    clear hK K
                    try simp only [Act.put, List.setIfInBounds_toArray, List.set_cons_zero, List.set_cons_succ]
                    refine wpAny_ready (rs := [20]) (by kernel_rfl) (by simp) ?_
                    refine (AllReady.cons rfl (fun K hK => ?_) AllReady.nil)
                    go_simp
                    refine hK _ _ ?_
                    clear hK K
                    try simp only [Act.put, List.setIfInBounds_toArray, List.set_cons_zero, List.set_cons_succ]
                    refine wpAny_ready (rs := [24]) (by kernel_rfl) (by simp) ?_
                    refine (AllReady.cons rfl (fun K hK => ?_) AllReady.nil)
                    go_simp
                    refine hK _ _ ?_
                    clear hK K
                    try simp only [Act.put, List.setIfInBounds_toArray, List.set_cons_zero, List.set_cons_succ]
                    refine wpAny_ready (rs := [25]) (by kernel_rfl) (by simp) ?_
                    refine (AllReady.cons rfl (fun K hK => ?_) AllReady.nil)
                    go_simp
                    refine hK _ _ ?_
                    clear hK K
                    try simp only [Act.put, List.setIfInBounds_toArray, List.set_cons_zero, List.set_cons_succ]
                    refine wpAny_done (by kernel_rfl) ?_ _
                    go_wp2_with fail
                    go_meet
                    case rel => exact ⟨rfl, HN8.out⟩
            case rest =>
              obtain ⟨rfl, hN2⟩ := hcut
              have HN2 := Lib.hid hN2; clear hN2
              go_wp2
              go_roundg (40 - (k + 1))
              case measure => omega
              case rel => exact ⟨k + 1, M, v', by omega, by omega, rfl, by go_num, rfl, hMl, HW.out.new HN2.out, Hv.out, HN.out.then_new HN2.out⟩
    · obtain ⟨wq, hq⟩ : ∃ wq, wq = wr := ⟨_, rfl⟩
      subst hq
      have hLs : (fstr L).size = L.length := fstr_size L
      obtain ⟨pl, hpl⟩ : ∃ pl, pl = (pack L).length := ⟨_, rfl⟩
      have hpb : pl ≤ 1000000000 := by rw [hpl]; simp; omega
      have hBy : ∀ wx, Wr wx bw v L → Calls Try.prog 12 #[.pointer (some ⟨bw, 0, none⟩)] wx fun e w' => ∃ A' c', e = .returned (.slice A' pl c') ∧ w'.ownsRow wx.heap.size 5 1 (.slice A' pl c') pl ((pack L).map bV) ∧ New wx w' := by
        rw [hpl]; exact fun wx h => Bytes_any bw v L wx h (by omega)
      have hRB : ∀ wx, Calls Try.prog 13 #[.string (fstr L)] wx fun e w' => ∃ A' c', e = .returned (.slice A' pl c') ∧ w'.ownsRow wx.heap.size 5 1 (.slice A' pl c') pl ((pack L).map bV) ∧ New wx w' := by
        rw [hpl]; exact fun wx => RefBytes_any L wx (by omega)
      have HBy := Lib.hid hBy; clear hBy
      have HRB := Lib.hid hRB; clear hRB
      clear hpl
      obtain ⟨st, hst⟩ : ∃ st, st = bstr (pack L) := ⟨_, rfl⟩
      have hcv : ∀ (wx : World) A' c' base, wx.ownsRow base 5 1 (.slice A' pl c') pl ((pack L).map bV) → (convert 24 9 (.slice A' pl c')).run Try.prog wx = .ok (.string st) wx := by
        rw [hst]; exact fun wx A' c' base h => own_string Try.underlying24 Try.underlying5 Try.underlying9 h
      have Hcv := Lib.hid hcv; clear hcv hst
      have hkey : ∀ (wx : World), wx = wx := fun _ => rfl
      clear hkey
      have Hlt := Lib.hid hlt; clear hlt
      have hkd : k < m → ¬ k < 40 := fun h1 h2 => Hlt.out ⟨h1, h2⟩
      have Hkd := Lib.hid hkd; clear hkd
      by_cases hkm2 : k < m
      all_goals
        first
          | (have hk2 : ¬ k < 40 := Hkd.out hkm2)
          | (have hkd' : decide (k < m) = false := by simp; omega)
        go_wp2_with fail
        with_reducible refine (HBy.out wq HW.out).mono ?_
        rintro e w2 ⟨A2, c2, rfl, hO2, hN2⟩
        have hlt2 : ∀ g, Value.ownBlock (.slice A2 pl c2) = some g → wq.heap.size ≤ g := fun g hg => (hO2.lt g hg).1
        have Hlt2 := Lib.hid hlt2; clear hlt2
        have HO2 : Hid (∃ zs : List Int, w2.ownsRow wq.heap.size 5 1 (.slice A2 pl c2) pl (zs.map (Value.int .u8))) := ⟨(pack L).map Int.ofNat, by rw [List.map_map]; exact hO2⟩
        have HN2 := Lib.hid hN2; clear hN2 hO2
        go_wp2_with fail
        go_loopg [13] pl (fun gk s13 wx => ∃ (j : Nat) (zs : List Int), j ≤ pl ∧ gk = pl - j ∧ s13 = .int .i64 j ∧ wx.ownsRow wq.heap.size 5 1 (.slice A2 pl c2) pl (zs.map (Value.int .u8)) ∧ New wq wx)
        case atStart =>
          obtain ⟨zs, hz⟩ := HO2.out
          exact ⟨0, zs, by omega, by omega, rfl, hz, HN2.out⟩
        case round =>
          clear HO2 HN2
          obtain ⟨j, zs, hj, rfl, rfl, hO, hNx⟩ := hrel
          by_cases hjl : j < pl
          · obtain ⟨g, hg, hcell⟩ := own_some hO hjl
            subst hg
            replace hcell := hcell j hjl
            have hzl : zs.length = pl := by have := hO.1; simpa using this
            have hjz : j < zs.length := by omega
            rw [List.getElem?_map, List.getElem?_eq_getElem hjz] at hcell
            obtain ⟨z, hz⟩ : ∃ z, z = zs[j] := ⟨_, rfl⟩
            rw [← hz] at hcell
            simp only [Option.map_some] at hcell
            have hfr : wr.frozen? ⟨g, j, none⟩ = false := hO.frozenAt j
            clear hz hjz hzl
            have HO := Lib.hid hO; clear hO
            have HNx := Lib.hid hNx; clear hNx
            go_wp2
            go_roundg (pl - (j + 1))
            case measure => omega
            case rel =>
              have hst := HO.out.stored j (.int .u8 (bits .xor .u8 z 255))
              have hgl := Hlt2.out g rfl
              rw [← List.map_set] at hst
              exact ⟨j + 1, zs.set j (bits .xor .u8 z 255), by omega, rfl, by go_num, hst.1, HNx.out.setCell (p := ⟨g, j, none⟩) (fun h => by dsimp only at h; omega) _⟩
          · have HWx := Lib.hid (HW.out.new hNx)
            have HNx := Lib.hid hNx; clear hNx hO
            go_wp2_with fail
            go_region_law (first
              | (go_simp; go_at_call 12
                 with_reducible refine (HBy.out _ (HWx.out.new ((Chg.refl _ _).drew))).mono ?_
                 rintro e w7 ⟨A7, c7, rfl, hO7, hN7⟩
                 have hcv7 := Hcv.out w7 A7 c7 _ hO7
                 have HN7 : Hid (New wr w7) := Chg.new_then ((Chg.refl _ _).drew) hN7
                 have HO7 := Lib.hid hO7
                 clear hN7 hO7)
              | (go_simp; go_at_call 13
                 with_reducible refine (HRB.out _).mono ?_
                 rintro e w8 ⟨A8, c8, rfl, hO8, hN8⟩
                 have hcv7' := Hcv.out w8 A7 c7 _ (own_new HO7.out hN8)
                 have hcv8 := Hcv.out w8 A8 c8 _ hO8
                 have HN8 : Hid (New wr w8) := HN7.out.then_new hN8
                 clear hN8 hO8)
              | fail)
            all_goals
              go_wp2
              go_ret
              exact ⟨by first | rfl | simp, (HN.out.then_new HNx.out).then_new HN8.out⟩
theorem puts_law {W : World} (A : Option Addr) (n c : Nat) (h : Fldss W A n ∧ c ≤ maxLen ∧ n ≤ c) :
    Calls Try.prog 3 #[.slice A n c] W fun e w' => e = .returned (.bool true) ∧ New W w' :=
  puts_walk A n c W h.1 (by have := h.2.1; have := h.2.2; simp only [maxLen] at *; omega)
end Go.Proofs.Ytemhcfbdpplcgaa
