/-
  What the law StampPacks does where the lists are not too long: it returns true and turns nothing that was there.
-/
import Derived.Test.YtcnnakidpnhecaaStI
import Derived.Test.YtcnnakidpnhecaaLBack
namespace Go.Proofs.Ytcnnakidpnhecaa
open Go.RowKit
theorem Four_at (d m : Int) (w : World) (hh : Nat) (he : w.heap.size = hh) :
    Calls Try.prog 18 #[.agg #[.int .i64 d, .int .i64 m]] w fun e w' => ∃ g, e = .returned (.slice (some ⟨g, 0, none⟩) 4 4) ∧ Has w' g 5 (fourV d m).toArray ∧ New w w' ∧ hh ≤ g := by
  subst he
  refine (Four_any d m w).mono ?_
  rintro e w' ⟨rfl, h1, h2⟩
  exact ⟨_, rfl, h1, h2, by omega⟩
theorem has_news {w : World} {g : Nat} {t : TypeId} {l : List Value} (h : Has w g t l.toArray) (j : Nat) (u : Value) (hu : l[j]? = some u) : ∃ ad, (some ⟨g, 0, none⟩ : Option Addr) = some ad ∧ w.cell? (ad.add j) = some u := by
  refine ⟨_, rfl, ?_⟩
  have hadd : (⟨g, 0, none⟩ : Addr).add j = ⟨g, j, none⟩ := by unfold Addr.add; split <;> simp_all
  rw [hadd, h.cell j]
  simpa using hu
theorem fourV_one (d m : Int) : ∀ u ∈ fourV d m, u.oneCell' = true := by
  intro u hu
  simp only [fourV, List.mem_cons, List.not_mem_nil, or_false] at hu
  rcases hu with rfl | rfl | rfl | rfl <;> rfl
theorem own_cap {w : World} {base e size n c : Nat} {A : Option Addr} {xs : List Value} (h : w.ownsRow base e size (.slice A n c) n xs) : n ≤ c := by
  rcases h.2 with ⟨hv, hn⟩ | ⟨g', cap, cur, hv, _, _, hnc, _⟩
  · omega
  · simp only [Value.slice.injEq] at hv
    obtain ⟨_, _, rfl⟩ := hv
    exact hnc
/-- stamps in a row of the call's own -/
theorem Flds.of_row {w : World} {base e c : Nat} {A : Option Addr} {n : Nat} {fw fv : Nat → Int} (h : w.ownsRow base e 2 (.slice A n c) n (fcells fw fv n)) : Flds w (fun k => Value.ownBlock (.slice A n c) = some k) A n fw fv := by
  intro i hi
  rcases h.2 with ⟨hv, hn⟩ | ⟨g, cap, cur, hv, _, hg, _⟩
  · omega
  · simp only [Value.slice.injEq] at hv
    obtain ⟨rfl, _, rfl⟩ := hv
    have hh := fcells_get fw fv n i hi
    have hadd : (⟨g, 0, none⟩ : Addr).add (i * 2) = ⟨g, i * 2, none⟩ := by unfold Addr.add; split <;> simp_all
    refine ⟨_, rfl, rfl, ?_, ?_⟩
    · rw [hadd, h.cellAt (i * 2) (by omega)]; exact hh.1
    · rw [hadd, h.cellAt (i * 2 + 1) (by omega)]; exact hh.2
/-- what Pack has come to -/
def PackX (fd fm : Nat → Int) (n base : Nat) (w : World) (A : Option Addr) (nx cx : Nat) (ex : Int) : Prop :=
  (allR fd fm n = true ∧ nx = 4 * n ∧ ex = 0 ∧ w.ownsRow base 5 1 (.slice A nx cx) nx ((sbytes (fun i => (fd i).toNat) (fun i => (fm i).toNat) n).map bV)) ∨ (allR fd fm n = false ∧ nx = 0 ∧ ex = 2)
theorem Pack_any (F : Nat → Prop) (A : Option Addr) (n c : Nat) (fd fm : Nat → Int) (w : World) (hA : Flds w F A n fd fm) (hF : ∀ k, F k → k < w.heap.size) (hn : n ≤ 1048576) :
    Calls Try.prog 19 #[.slice A n c] w fun e w' => ∃ A' nx cx ex, e = .returned (.tuple #[.slice A' nx cx, .int .i64 ex]) ∧ PackX fd fm n w.heap.size w' A' nx cx ex ∧ New w w' := by
  cases h : allR fd fm n with
  | true =>
    have hr := allR_true fd fm n h
    refine (Pack_ok F A n c fd fm w hA hF (by omega) hr).mono ?_
    rintro e w' ⟨A', c', rfl, hO, hN⟩
    rw [pack_stbits fd fm n hr] at hO ⊢
    have hl := sbytes_length (fun i => (fd i).toNat) (fun i => (fm i).toNat) n
    rw [hl] at hO ⊢
    exact ⟨A', _, c', 0, rfl, Or.inl ⟨h, rfl, rfl, hO⟩, hN⟩
  | false =>
    obtain ⟨j, hj, hb⟩ := allR_false fd fm n h
    refine (Pack_no F A n c fd fm w hA hF (by omega) j hj hb).mono ?_
    rintro e w' ⟨rfl, hN⟩
    exact ⟨none, 0, 0, 2, rfl, Or.inr ⟨h, rfl, rfl⟩, hN⟩
/-- the error and the number of stamps of Unpack -/
def upE (bs : List Nat) : Int := if bs.length % 4 ≠ 0 then 10 else if ∀ j, j < bs.length / 4 → goodB bs j = true then 0 else 12
def upN (bs : List Nat) : Nat := if upE bs = 0 then bs.length / 4 else 0
theorem UpZ_of (bs : List Nat) (m : Nat) (hm : bs.length = 4 * m) (w w' : World) (e : Ending) (h : UpR bs m w e w') : ∃ A c, e = .returned (.tuple #[.slice A (upN bs) c, .int .i64 (upE bs)]) ∧ w'.ownsRow w.heap.size 38 2 (.slice A (upN bs) c) (upN bs) (fcells (fdI bs) (fmI bs) (upN bs)) ∧ New w w' := by
  obtain ⟨hN, hr⟩ := h
  have hd : bs.length / 4 = m := by omega
  by_cases hg : ∀ j, j < m → goodB bs j = true
  · rw [if_pos hg] at hr
    obtain ⟨A, c, rfl, hO, _⟩ := hr
    have hE : upE bs = 0 := by unfold upE; rw [if_neg (by omega), hd, if_pos hg]
    have hN' : upN bs = m := by unfold upN; rw [if_pos hE, hd]
    rw [hE, hN']
    exact ⟨A, c, rfl, hO, hN⟩
  · rw [if_neg hg] at hr
    have hE : upE bs = 12 := by unfold upE; rw [if_neg (by omega), hd, if_neg hg]
    have hN' : upN bs = 0 := by unfold upN; rw [hE]; rfl
    rw [hE, hN', hr]
    exact ⟨none, 0, rfl, World.ownsRow_nil _ _ _ _, hN⟩
theorem UpZ_short (bs : List Nat) (h : bs.length % 4 ≠ 0) : upE bs = 10 ∧ upN bs = 0 := by
  have hE : upE bs = 10 := by unfold upE; rw [if_pos h]
  exact ⟨hE, by unfold upN; rw [hE]; rfl⟩
theorem Unpack_z (A : Option Addr) (n c : Nat) (F : Nat → Prop) (bs : List Nat) (w : World) (hA : Arr w F A n (fun i => bV (bs.getD i 0))) (hlen : bs.length = n) (hnil : A = none → n = 0 ∧ c = 0) (hnb : n ≤ 1048576) (h256 : ∀ x ∈ bs, x < 256) :
    Calls Try.prog 20 #[.slice A n c] w fun e w' => ∃ A' c', e = .returned (.tuple #[.slice A' (upN bs) c', .int .i64 (upE bs)]) ∧ w'.ownsRow w.heap.size 38 2 (.slice A' (upN bs) c') (upN bs) (fcells (fdI bs) (fmI bs) (upN bs)) ∧ New w w' := by
  by_cases h : n % 4 ≠ 0
  · obtain ⟨hE, hN⟩ := UpZ_short bs (by rw [hlen]; exact h)
    rw [hE, hN]
    refine (Unpack_short A n c w h).mono ?_
    rintro e w' ⟨rfl, rfl⟩
    exact ⟨none, 0, rfl, World.ownsRow_nil _ _ _ _, Chg.refl _ _⟩
  · refine (Unpack_any A n c F bs (n / 4) w hA hlen hnil (by omega) (by omega) h256).mono ?_
    exact fun e w' hr => UpZ_of bs (n / 4) (by omega) w w' e hr
theorem refUnpack_z (A : Option Addr) (n c : Nat) (F : Nat → Prop) (bs : List Nat) (w : World) (hA : Arr w F A n (fun i => bV (bs.getD i 0))) (hF : ∀ k, F k → k < w.heap.size) (hlen : bs.length = n) (hnb : n ≤ 1048576) (h256 : ∀ x ∈ bs, x < 256) :
    Calls Try.prog 22 #[.slice A n c] w fun e w' => ∃ A' c', e = .returned (.tuple #[.slice A' (upN bs) c', .int .i64 (upE bs)]) ∧ w'.ownsRow w.heap.size 38 2 (.slice A' (upN bs) c') (upN bs) (fcells (fdI bs) (fmI bs) (upN bs)) ∧ New w w' := by
  by_cases h : n % 4 ≠ 0
  · obtain ⟨hE, hN⟩ := UpZ_short bs (by rw [hlen]; exact h)
    rw [hE, hN]
    refine (refUnpack_short A n c w h).mono ?_
    rintro e w' ⟨rfl, rfl⟩
    exact ⟨none, 0, rfl, World.ownsRow_nil _ _ _ _, Chg.refl _ _⟩
  · refine (refUnpack_any A n c F bs (n / 4) w hA hF (by omega) (by omega) h256).mono ?_
    exact fun e w' hr => UpZ_of bs (n / 4) (by omega) w w' e hr
theorem allR_of (fd fm : Nat → Int) (n : Nat) (h : ∀ i, i < n → rightB (fd i) (fm i) = true) : allR fd fm n = true := by
  cases h' : allR fd fm n with
  | true => rfl
  | false =>
    obtain ⟨j, hj, hb⟩ := allR_false fd fm n h'
    rw [h j hj] at hb; cases hb
theorem up_right (bs : List Nat) (h256 : ∀ x ∈ bs, x < 256) : allR (fdI bs) (fmI bs) (upN bs) = true ∧ (upE bs = 0 → sbytes (fun i => (fdI bs i).toNat) (fun i => (fmI bs i).toNat) (upN bs) = bs) := by
  by_cases hE : upE bs = 0
  · have hN : upN bs = bs.length / 4 := by unfold upN; rw [if_pos hE]
    have h4 : bs.length % 4 = 0 := by
      apply Classical.byContradiction
      intro h
      rw [(UpZ_short bs h).1] at hE
      exact absurd hE (by decide)
    have hg : ∀ j, j < bs.length / 4 → goodB bs j = true := by
      apply Classical.byContradiction
      intro h
      have : upE bs = 12 := by unfold upE; rw [if_neg (by omega), if_neg h]
      rw [this] at hE
      exact absurd hE (by decide)
    obtain ⟨h1, h2⟩ := good_all bs h256 (bs.length / 4) (by omega) hg
    rw [hN]
    exact ⟨allR_of _ _ _ h1, fun _ => h2⟩
  · have hN : upN bs = 0 := by unfold upN; rw [if_neg hE]
    rw [hN]
    exact ⟨rfl, fun h => absurd h hE⟩
theorem upN_le (bs : List Nat) : upN bs ≤ bs.length := by
  unfold upN
  split <;> omega
theorem map_news {w : World} {F : Nat → Prop} {A : Option Addr} {n : Nat} {bs : List Nat} (hA : Arr w F A n (fun i => bV (bs.getD i 0))) (hl : bs.length = n) (j : Nat) (u : Value) (hu : (bs.map bV)[j]? = some u) : ∃ ad, A = some ad ∧ w.cell? (ad.add j) = some u := by
  have hj : j < n := by
    rcases Nat.lt_or_ge j n with h | h
    · exact h
    · rw [List.getElem?_eq_none (by simp; omega)] at hu; cases hu
  obtain ⟨a, ha, _, hc⟩ := hA j hj
  refine ⟨a, ha, ?_⟩
  rw [hc, ← hu, List.getElem?_map, List.getElem?_eq_getElem (by omega)]
  simp [List.getElem?_eq_getElem (show j < bs.length by omega)]
theorem bV_one (bs : List Nat) : ∀ u ∈ bs.map bV, u.oneCell' = true := by
  intro u hu
  simp only [List.mem_map] at hu
  obtain ⟨x, _, rfl⟩ := hu
  rfl
set_option maxRecDepth 100000 in
set_option maxHeartbeats 4000000 in
theorem packs_walk (A : Option Addr) (n c : Nat) (fd fm : Nat → Int) (B : Option Addr) (bn bc : Nat) (bs : List Nat) (w : World) (hA : Flds w (· < w.heap.size) A n fd fm) (hnA : A = none → n = 0 ∧ c = 0) (hn : n ≤ 1048576)
    (hB : Arr w (· < w.heap.size) B bn (fun i => bV (bs.getD i 0))) (hlen : bs.length = bn) (h256 : ∀ x ∈ bs, x < 256) (hnB : B = none → bn = 0 ∧ bc = 0) (hbn : bn ≤ 1048576) :
    Calls Try.prog 5 #[.slice A n c, .slice B bn bc] w fun e w' => e = .returned (.bool true) ∧ New w w' := by
  obtain ⟨i5, hi5, y50, y51, y52⟩ := info_parts Try.info5
  obtain ⟨i38, hi38, y380, y381, y382⟩ := info_parts Try.infoS
  have HA := Lib.hid hA; clear hA
  have HnA := Lib.hid hnA; clear hnA
  have HB := Lib.hid hB; clear hB
  have Hlen := Lib.hid hlen; clear hlen
  have H256 := Lib.hid h256; clear h256
  have HnB := Lib.hid hnB; clear hnB
  go_enter Try.func5, Try.ntmps5
  go_wp2_with fail
  with_reducible refine (awake_any _).mono ?_
  rintro e w1 ⟨rfl, hN1⟩
  have HN1 := Lib.hid hN1; clear hN1
  go_upto_block 0 with (fail)
  go_cut [5, 6] (fun s5 s6 wc => s5 = .bool (allR fd fm n) ∧ ∃ Aw cw, s6 = .slice Aw (4 * n) cw ∧ wc.ownsRow w.heap.size 5 1 (.slice Aw (4 * n) cw) (4 * n) (fvals fd fm n) ∧ New w wc)
  case first =>
    go_wp2_with fail
    go_loopg [4, 5, 6, 7] n (fun gk r g v i wr => ∃ (k : Nat) (Aw : Option Addr) (nw cw : Nat), k ≤ n ∧ gk = n - k ∧ r = .bool false ∧ g = .bool (allR fd fm k) ∧ v = .slice Aw nw cw ∧ nw = 4 * k ∧ i = .int .i64 k ∧ wr.ownsRow w.heap.size 5 1 (.slice Aw nw cw) nw (fvals fd fm k) ∧ New w wr)
    case atStart => exact ⟨0, none, 0, 0, by omega, by omega, rfl, rfl, rfl, rfl, rfl, World.ownsRow_nil _ _ _ _, HN1.out⟩
    case round =>
      obtain ⟨k, Aw, nw, cw, hk, rfl, rfl, rfl, rfl, hnw, rfl, hO, hC⟩ := hrel
      have Hnw := Lib.hid hnw
      have hnwb : nw ≤ 4194304 := by omega
      clear hnw
      by_cases hlt : k < n
      · obtain ⟨a, rfl, hab, h1, h2⟩ := (HA.out.chg hC (fun k hk => ⟨hk, fun f => f⟩)) k hlt
        have HAR : Hid (allR fd fm (k + 1) = (allR fd fm k && rightB (fd k) (fm k))) := rfl
        have HFV : Hid (fvals fd fm (k + 1) = fvals fd fm k ++ fourV (fd k) (fm k)) := rfl
        obtain ⟨x, hx⟩ : ∃ x, x = fd k := ⟨_, rfl⟩
        obtain ⟨y, hy⟩ : ∃ y, y = fm k := ⟨_, rfl⟩
        rw [← hx] at h1 HAR HFV
        rw [← hy] at h2 HAR HFV
        clear hx hy
        obtain ⟨b, hb⟩ : ∃ b, b = allR fd fm k := ⟨_, rfl⟩
        rw [← hb] at HAR ⊢
        have Hb := Lib.hid hb; clear hb
        have hkp : ∀ wy, New wr wy → wy.cell? (a.add (k * 2)) = some (.int .i64 x) ∧ wy.cell? ⟨(a.add (k * 2)).block, (a.add (k * 2)).off + 1, none⟩ = some (.int .i64 y) := fun wy h => by
          have hbl : (a.add (k * 2)).block < wr.heap.size := World.block_lt_of_cell? _ _ h1
          exact ⟨(h.cell hbl (fun f => f)).trans h1, (h.cell (p := ⟨(a.add (k * 2)).block, _, none⟩) hbl (fun f => f)).trans h2⟩
        have HK := Lib.hid hkp; clear hkp
        have HO := Lib.hid hO; clear hO
        have HC := Lib.hid hC; clear hC
        go_upto_region 8 with (fail)
        go_cut [5] (fun s5 wc => s5 = .bool (allR fd fm (k + 1)) ∧ New wr wc)
        case first =>
          cases b with
          | true =>
            go_wp2_with (go_at_call 16; (with_reducible refine (refRight_any _ _ _).mono ?_); rintro e w' ⟨rfl, rfl⟩)
            go_meet
            case rel => exact ⟨by rw [HAR.out, Bool.true_and], (Chg.refl _ _).alloc _⟩
          | false =>
            go_wp2
            go_meet
            case rel => exact ⟨by rw [HAR.out, Bool.false_and], Chg.refl _ _⟩
        case rest =>
          obtain ⟨rfl, hNc⟩ := hcut
          have HKc := Lib.hid (fun wy (h : New wc wy) => HK.out wy (hNc.then_new h))
          have hq := HKc.out wc (Chg.refl _ _)
          have HOc := Lib.hid (own_new HO.out hNc)
          have HCc := Lib.hid (HC.out.then_new hNc)
          clear h1 h2 hNc HO HC HK
          obtain ⟨h1, h2⟩ := hq
          go_upto_region 9 with (fail)
          go_cut [45] (fun s45 wd => s45 = .bool false ∧ New wc wd)
          case first =>
            go_region_held3 (fun w' => w'.cell? (a.add (k * 2)) = some (.int .i64 x) ∧ w'.cell? ⟨(a.add (k * 2)).block, (a.add (k * 2)).off + 1, none⟩ = some (.int .i64 y))
              (exact HKc.out _ (by repeat (first | exact Chg.refl _ _ | refine Chg.alloc ?_ _ | refine Chg.drew ?_)))
              (first
                | (go_at_call 17; (with_reducible refine (Right_any _ _ _).mono ?_); rintro e w' ⟨rfl, rfl⟩)
                | (go_at_call 16; (with_reducible refine (refRight_any _ _ _).mono ?_); rintro e w' ⟨rfl, rfl⟩))
            all_goals
              go_wp2
              go_meet
              case rel => exact ⟨by simp, by repeat (first | exact Chg.refl _ _ | refine Chg.alloc ?_ _ | refine Chg.drew ?_)⟩
          case rest =>
            obtain ⟨rfl, hNd⟩ := hcut
            have hq := HKc.out wc hNd
            have HOd := Lib.hid (own_new HOc.out hNd)
            have HCd := Lib.hid (HCc.out.then_new hNd)
            clear h1 h2 hNd HOc HCc HKc
            obtain ⟨h1, h2⟩ := hq
            go_wp2_with fail
            with_reducible refine (Four_at _ _ _ _ rfl).mono ?_
            rintro e w5 ⟨g, rfl, hH5, hN5, hg5⟩
            have HO5 := Lib.hid (own_new HOd.out hN5)
            have HC5 := Lib.hid (HCd.out.then_new hN5)
            have HH5 := Lib.hid hH5
            clear hH5 hN5 HOd HCd h1 h2
            go_wp2_with (at_builtin; refine wpList_append_src rfl _ _ 22 rfl w.heap.size 5 i5 (.int .u8 0) 1 1 Try.underlying22 hi5 y50 y51 y52 rfl (by decide) _ nw (fvals fd fm k) rfl HO5.out (some ⟨g, 0, none⟩) 4 4 (fourV x y) rfl (by intro h; cases h) rfl (has_news HH5.out) (fourV_one x y) ?a2 ?a3 ?a4 ?_)
            case a2 => simp only [maxLen]; omega
            case a3 => omega
            case a4 => exact HC5.out.size
            intro A6 c6 w6 hO6 hC6 hF6
            have HO6 : Hid (w6.ownsRow w.heap.size 5 1 (.slice A6 (nw + 4) c6) (nw + 4) (fvals fd fm (k + 1))) := by rw [HFV.out]; exact hO6
            have HC6 : Hid (New w w6) := HC5.out.trans hC6 (fun i hi hk => by have := (HO5.out.lt i hk).1; omega)
            clear hO6 hC6 hF6
            go_wp2
            go_roundg (n - (k + 1))
            case measure => omega
            case rel => exact ⟨k + 1, A6, nw + 4, c6, by omega, rfl, rfl, rfl, rfl, by have := Hnw.out; omega, by go_num, HO6.out, HC6.out⟩
      · obtain rfl : n = k := by omega
        have HO := Lib.hid hO; clear hO
        have HC := Lib.hid hC; clear hC
        go_wp2
        go_meet
        case rel => exact ⟨rfl, Aw, cw, by rw [Hnw.out], by have := HO.out; rw [Hnw.out] at this; exact this, HC.out⟩
  case rest =>
    obtain ⟨rfl, Aw, cw, rfl, hOw, hCw⟩ := hcut
    have HOw := Lib.hid hOw; clear hOw
    have HCw := Lib.hid hCw; clear hCw HN1
    go_upto_region 12 with (fail)
    go_cut [8, 9] (fun s8 s9 wd => ∃ (Ax : Option Addr) (nx cx : Nat) (ex : Int), s8 = .slice Ax nx cx ∧ s9 = .int .i64 ex ∧ PackX fd fm n w.heap.size wd Ax nx cx ex ∧ New wc wd)
    case first =>
      go_wp2_with (at_builtin; refine wpList_append_src rfl _ _ 35 rfl wc.heap.size 38 i38 (.agg #[.int .i64 0, .int .i64 0]) 2 16 Try.underlying35 hi38 y380 y381 y382 rfl (by decide) _ 0 [] rfl (World.ownsRow_made wc #[] 0 (Nat.le_refl _) (by decide) rfl) A n c (fcells fd fm n) rfl HnA.out (fcells_len _ _ _) (HA.out.chg (HCw.out.alloc _) (fun k hk => ⟨hk, fun f => f⟩)).cells (fcells_one _ _ _) ?a2 ?a3 ?a4 ?_)
      case a2 => simp only [maxLen]; omega
      case a3 => omega
      case a4 => simp
      intro A4 c4 w4 hO4 hC4 hF4
      have hN4 : New wc w4 := ((Chg.refl _ _).alloc _).trans hC4 (fun i hi hk => by simp [Value.ownBlock] at hk; omega)
      have HO4 := Lib.hid hO4
      have HN4 := Lib.hid hN4
      clear hO4 hC4 hF4 hN4
      go_wp2_with fail
      with_reducible refine (Pack_any _ A4 n c4 fd fm w4 (Flds.of_row HO4.out) (fun k hk => (HO4.out.lt k hk).2) hn).mono ?_
      rintro e w5 ⟨A5, nx, cx, ex, rfl, hX, hN5⟩
      have HX := Lib.hid hX
      have HN5 := Lib.hid hN5
      clear hX hN5
      go_wp2
      go_meet
      case rel =>
        refine ⟨A5, nx, cx, ex, rfl, rfl, ?_, HN4.out.then_new HN5.out⟩
        rcases HX.out with ⟨h1, h2, h3, h4⟩ | h
        · exact Or.inl ⟨h1, h2, h3, own_base h4 (fun k hk => by have := (h4.lt k hk).1; have := HN4.out.size; have := HCw.out.size; omega)⟩
        · exact Or.inr h
    case rest =>
      obtain ⟨Ax, nx, cx, ex, rfl, rfl, hX, hNx⟩ := hcut
      have HX := Lib.hid hX; clear hX
      have HOx := Lib.hid (own_new HOw.out hNx)
      have HCx := Lib.hid (HCw.out.then_new hNx)
      clear hNx HOw HCw
      obtain ⟨b, hb⟩ : ∃ b, b = allR fd fm n := ⟨_, rfl⟩
      rw [← hb]
      have Hb := Lib.hid hb; clear hb
      go_upto_if 61 with (fail)
      go_cut [] (fun wd => New w wd)
      case first =>
        rcases HX.out with ⟨h1, h2, h3, h4⟩ | ⟨h1, h2, h3⟩
        · have hbt : b = true := Hb.out.trans h1
          subst hbt
          have hr := allR_true fd fm n h1
          obtain ⟨xs, hxs⟩ : ∃ xs, xs = sbytes (fun i => (fd i).toNat) (fun i => (fm i).toNat) n := ⟨_, rfl⟩
          have hxl := sbytes_length (fun i => (fd i).toNat) (fun i => (fm i).toNat) n
          have hxm := sbytes_mem (fun i => (fd i).toNat) (fun i => (fm i).toNat) n (fun i hi => by have := rightB_true (hr i hi); omega)
          obtain ⟨hgood, hsame⟩ := read_laid fd fm n hr
          have hOv := HOx.out
          rw [fvals_right fd fm n hr] at hOv
          rw [← hxs] at h4 hxl hxm hgood hsame hOv
          subst h3
          rw [← h2] at hxl
          have hU := Unpack_any Ax nx cx _ xs n wc (own_arr_bs hxl h4) hxl (own_nil h4) h2 hn hxm
          have HU := Lib.hid hU; clear hU
          have HO4 := Lib.hid h4; clear h4
          have HOv := Lib.hid hOv; clear hOv
          have Hgood := Lib.hid hgood; clear hgood
          have Hsame := Lib.hid hsame; clear hsame
          have H2 := Lib.hid h2; clear h2
          have H1 := Lib.hid h1; clear h1
          clear hxs hxl hxm hr HX HOx
          go_wp2_with fail
          with_reducible refine HU.out.mono ?_
          rintro e w5 ⟨hN5, hres⟩
          rw [if_pos Hgood.out] at hres
          obtain ⟨A5, c5, rfl, hO5, hnc5⟩ := hres
          have hfc : fcells (fdI xs) (fmI xs) n = fcells fd fm n := fcells_congr _ _ _ _ n (fun i hi => Hsame.out i hi)
          rw [hfc] at hO5
          have hS := stamps_same A5 A n c5 c _ _ fd fm w5 (Flds.of_row hO5) (HA.out.chg (HCx.out.then_new hN5) (fun k hk => ⟨hk, fun f => f⟩)) (by omega)
          have HS := Lib.hid hS; clear hS hfc
          have hconv1 : (convert 22 9 (.slice Ax nx cx)).run Try.prog w5 = .ok (.string (bstr xs)) w5 := own_string Try.underlying22 Try.underlying5 Try.underlying9 (own_new HO4.out hN5)
          have hconv2 : (convert 22 9 (.slice Aw (4 * n) cw)).run Try.prog w5 = .ok (.string (bstr xs)) w5 := own_string Try.underlying22 Try.underlying5 Try.underlying9 (own_new HOv.out hN5)
          have HC5 := Lib.hid (HCx.out.then_new hN5)
          clear hN5 hO5 hnc5 HU
          go_wp2_with fail
          with_reducible refine HS.out.mono ?_
          rintro e w6 ⟨rfl, q, rfl⟩
          go_wp2
          go_meet
          case rel => exact HC5.out.drewN q
        · have hbt : b = false := Hb.out.trans h1
          subst hbt
          subst h2
          subst h3
          have H1 := Lib.hid h1; clear h1
          go_wp2
          go_meet
          case rel => exact HCx.out
      case rest =>
        have hNc := hcut
        clear hcut HX HOx HCx Hb
        have HC := Lib.hid hNc; clear hNc
        obtain ⟨hal, hbk⟩ := up_right bs H256.out
        have hupN := upN_le bs
        rw [Hlen.out] at hupN
        have hUp := fun A' n' c' F' w' h1 h2 h3 h4 => Unpack_z A' n' c' F' bs w' h1 h2 h3 h4 H256.out
        have hRf := fun wx (h : New w wx) => refUnpack_z B bn bc _ bs wx (HB.out.new h (fun k hk => hk)) (fun k hk => Nat.lt_of_lt_of_le hk h.size) Hlen.out hbn H256.out
        obtain ⟨N, hN⟩ : ∃ N, N = upN bs := ⟨_, rfl⟩
        obtain ⟨E, hE⟩ : ∃ E, E = upE bs := ⟨_, rfl⟩
        rw [← hN, ← hE] at hUp hRf
        rw [← hN] at hal hbk hupN
        rw [← hE] at hbk
        have HUp := Lib.hid hUp; clear hUp
        have HRf := Lib.hid hRf; clear hRf
        have Hal := Lib.hid hal; clear hal
        have Hbk := Lib.hid hbk; clear hbk hN hE
        have hconvB : ∀ wx, New w wx → (convert 22 9 (.slice B bn bc)).run Try.prog wx = .ok (.string (bstr bs)) wx := fun wx h => arr_string Try.underlying22 Try.underlying5 Try.underlying9 (HB.out.new h (fun k hk => hk)) Hlen.out H256.out HnB.out
        have HcB := Lib.hid hconvB; clear hconvB
        go_wp2_with (at_builtin; refine wpList_append_src rfl _ _ 22 rfl wc.heap.size 5 i5 (.int .u8 0) 1 1 Try.underlying22 hi5 y50 y51 y52 rfl (by decide) _ 0 [] rfl (World.ownsRow_made wc #[] 0 (Nat.le_refl _) (by decide) rfl) B bn bc (bs.map bV) rfl HnB.out ?l1 (map_news (HB.out.new (HC.out.alloc _) (fun k hk => hk)) Hlen.out) (bV_one bs) ?l2 ?l3 ?l4 ?_)
        case l1 => rw [List.length_map, Hlen.out, Nat.mul_one]
        case l2 => simp only [maxLen]; omega
        case l3 => omega
        case l4 => simp
        intro A4 c4 w4 hO4 hC4 hF4
        have hN4 : New wc w4 := ((Chg.refl _ _).alloc _).trans hC4 (fun i hi hk => by simp [Value.ownBlock] at hk; omega)
        have HO4 := Lib.hid hO4
        have HN4 := Lib.hid (HC.out.then_new hN4)
        clear hO4 hC4 hF4 hN4
        go_wp2_with fail
        with_reducible refine (HUp.out A4 bn c4 _ w4 (own_arr_bs Hlen.out HO4.out) Hlen.out (own_nil HO4.out) hbn).mono ?_
        rintro e w5 ⟨A5, c5, rfl, hO5, hN5⟩
        have HO5 := Lib.hid hO5
        have HI5 := Lib.hid (own_new HO4.out hN5)
        have HN5 := Lib.hid (HN4.out.then_new hN5)
        clear hO5 hN5
        go_wp2_with fail
        with_reducible refine (HRf.out w5 HN5.out).mono ?_
        rintro e w6 ⟨A6, c6, rfl, hO6, hN6⟩
        have HO6 := Lib.hid hO6
        have HL6 := Lib.hid (own_new HO5.out hN6)
        have HI6 := Lib.hid (own_new HI5.out hN6)
        have HN6 := Lib.hid (HN5.out.then_new hN6)
        have hw6 := (HN5.out.then_new hN6).size
        clear hO6 hN6
        go_wp2_with fail
        with_reducible refine (stamps_same A5 A6 N c5 c6 _ _ (fdI bs) (fmI bs) w6 (Flds.of_row HL6.out) (Flds.of_row HO6.out) (by omega)).mono ?_
        rintro e w7 ⟨rfl, q, rfl⟩
        have HL7 := Lib.hid (own_new HL6.out ((Chg.refl _ _).drewN q))
        have HN7 := Lib.hid (HN6.out.drewN q)
        have hcv1 : (convert 22 9 (.slice A4 bn c4)).run Try.prog (w6.drewN q) = .ok (.string (bstr bs)) (w6.drewN q) := own_string Try.underlying22 Try.underlying5 Try.underlying9 (own_new HI6.out ((Chg.refl _ _).drewN q))
        have hcv2 := HcB.out (w6.drewN q) HN7.out
        have hP := Pack_any _ A5 N c5 (fdI bs) (fmI bs) (w6.drewN q) (Flds.of_row HL7.out) (fun k hk => (HL7.out.lt k hk).2) (by omega)
        have HP := Lib.hid hP; clear hP
        go_wp2_with fail
        with_reducible refine HP.out.mono ?_
        rintro e w8 ⟨A8, n8, c8, e8, rfl, hX8, hN8⟩
        have HN8 := Lib.hid (HN7.out.then_new hN8)
        rcases hX8 with ⟨_, h82, h83, h84⟩ | ⟨h81, _, _⟩
        · subst h83
          have hcv3 := HcB.out w8 HN8.out
          clear hcv1 hcv2 hN8
          by_cases hE0 : E = 0
          · have hbk := Hbk.out hE0
            rw [hbk] at h84
            have hcv4 : (convert 22 9 (.slice A8 n8 c8)).run Try.prog w8 = .ok (.string (bstr bs)) w8 := own_string Try.underlying22 Try.underlying5 Try.underlying9 h84
            clear hbk h84 h82
            subst hE0
            go_wp2
            go_ret
            exact ⟨rfl, HN8.out⟩
          · have hE1 : (E != 0) = true := by rw [bne_iff_ne]; exact hE0
            clear h84 h82 hE0
            go_wp2
            go_ret
            exact ⟨rfl, HN8.out⟩
        · rw [Hal.out] at h81; cases h81
theorem packs_law {W : World} (A : Option Addr) (n c : Nat) (h : ∃ fw fv, Flds W (· < W.heap.size) A n fw fv ∧ n ≤ c ∧ c ≤ maxLen ∧ (A = none → n = 0 ∧ c = 0)) (hn : n ≤ 1048576) (B : Option Addr) (bn bc : Nat)
    (hb : ∃ bs : List Nat, bs.length = bn ∧ Arr W (· < W.heap.size) B bn (fun i => bV (bs.getD i 0)) ∧ (∀ x ∈ bs, x < 256) ∧ bn ≤ bc ∧ bc ≤ maxLen ∧ (B = none → bn = 0 ∧ bc = 0)) (hbn : bn ≤ 1048576) :
    Calls Try.prog 5 #[.slice A n c, .slice B bn bc] W fun e w' => e = .returned (.bool true) ∧ New W w' := by
  obtain ⟨fd, fm, hA, _, _, hnA⟩ := h
  obtain ⟨bs, hl, hB, h256, _, _, hnB⟩ := hb
  exact packs_walk A n c fd fm B bn bc bs W hA hnA hn hB hl h256 hnB hbn
end Go.Proofs.Ytcnnakidpnhecaa
