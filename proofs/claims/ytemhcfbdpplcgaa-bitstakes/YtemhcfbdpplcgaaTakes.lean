/-
  What the law BitsTakes does: it returns true and turns nothing that was there.
-/
import Derived.Test.YtemhcfbdpplcgaaLawE
namespace Go.Proofs.Ytemhcfbdpplcgaa
open Go.RowKit

theorem arr_news {w : World} {F : Nat → Prop} {A : Option Addr} {n : Nat} {bs : List Nat} (h : Arr w F A n (fun i => bV (bs.getD i 0))) (hl : bs.length = n) : ∀ j u, (bs.map bV)[j]? = some u → ∃ ad, A = some ad ∧ w.cell? (ad.add j) = some u := by
  intro j u hu
  rw [List.getElem?_map, Option.map_eq_some_iff] at hu
  obtain ⟨x, h1, rfl⟩ := hu
  have hj : j < bs.length := (List.getElem?_eq_some_iff.1 h1).1
  obtain ⟨a, ha, _, hc⟩ := h j (by omega)
  refine ⟨a, ha, ?_⟩
  rw [hc]
  simp [h1]
set_option maxRecDepth 100000 in
set_option maxHeartbeats 8000000 in
theorem takes_walk (A : Option Addr) (n c : Nat) (bs : List Nat) (B : Option Addr) (m d : Nat) (w : World) (hlen : bs.length = n) (hA : Arr w (· < w.heap.size) A n (fun i => bV (bs.getD i 0))) (h256 : ∀ x ∈ bs, x < 256) (hnA : A = none → n = 0 ∧ c = 0)
    (hB : Intss w B m) (hm : m ≤ 9223372036854775807) :
    Calls Try.prog 4 #[.slice A n c, .slice B m d] w fun e w' => e = .returned (.bool true) ∧ New w w' := by
  have HA := Lib.hid hA; clear hA
  have HB := Lib.hid hB; clear hB
  have HnA := Lib.hid hnA; clear hnA
  have H256 := Lib.hid h256; clear h256
  have Hlen := Lib.hid hlen; clear hlen
  by_cases h400 : n ≤ 400
  · have hd1 : decide ((400 : Int) < (n : Int)) = false := by simp; omega
    obtain ⟨i0, hi, hz0, hz1, hz2⟩ := info_parts Try.info5
    go_enter Try.func4, Try.ntmps4
    go_wp2_with fail
    refine (awake_any _).mono ?_
    rintro e w1 ⟨rfl, hN1⟩
    have HN1 := Lib.hid hN1; clear hN1
    go_wp2_with (at_builtin; refine wpList_append_src rfl _ _ 24 rfl w1.heap.size 5 i0 (.int .u8 0) 1 1 Try.underlying24 hi hz0 hz1 hz2 rfl (by decide) _ 0 [] rfl ?o1 A n c (bs.map bV) rfl HnA.out ?l1 ?c1 ?e1 ?m1 ?m2 ?m3 ?_)
    case o1 => exact World.ownsRow_made (base := w1.heap.size) (e := 5) (size := 1) w1 #[] 0 (Nat.le_refl _) (by decide) rfl
    case l1 => simp [Hlen.out]
    case c1 => exact arr_news (HA.out.new (HN1.out.alloc _) (fun k hk => hk)) Hlen.out
    case e1 => intro u hu; rw [List.mem_map] at hu; obtain ⟨y, _, rfl⟩ := hu; rfl
    case m1 => simp only [maxLen]; omega
    case m2 => omega
    case m3 => simp
    intro A2 c2 w2 hO2 hC2 _
    try simp only [Nat.zero_add, List.nil_append] at hO2
    have hN2 : New w w2 := (HN1.out.alloc _).trans hC2 (fun i hi hk => by have := HN1.out.size; simp [Value.ownBlock] at hk; omega)
    have HO2 := Lib.hid hO2; clear hO2 hC2
    have HN2 := Lib.hid hN2; clear hN2
    have hR : ∀ wx (h : wx.ownsRow w1.heap.size 5 1 (.slice A2 n c2) n (bs.map bV)), Calls Try.prog 14 #[.slice A2 n c2] wx fun e w' => ∃ A' c' b, e = .returned (.pointer (some ⟨b, 0, none⟩)) ∧ Has w' b 54 #[.slice A' n c', .int .i64 0, .int .i64 0] ∧ w'.ownsRow wx.heap.size 5 1 (.slice A' n c') n (bs.map bV) ∧ New wx w' ∧ wx.heap.size ≤ b := by
      intro wx h
      have hh := read_any A2 n c2 _ (fun i => bV (bs.getD i 0)) wx (by have := Hlen.out; subst this; exact own_arr_bytes h) (own_nil h) (fun i hi => rfl) (by omega)
      have e1 : (List.range n).map (fun i => bV (bs.getD i 0)) = bs.map bV := by rw [← Hlen.out]; exact map_getD_bV bs
      rw [e1] at hh
      exact hh
    have HR := Lib.hid hR; clear hR
    go_wp2_with fail
    with_reducible refine (HR.out w2 HO2.out).mono ?_
    rintro e w3 ⟨A3, c3, br, rfl, hH3, hO3, hN3, hbr⟩
    have hO23 := own_new HO2.out hN3
    have hN3' := HN2.out.then_new hN3
    have hlt2 : ∀ k, Value.ownBlock (.slice A2 n c2) = some k → w1.heap.size ≤ k ∧ k < w2.heap.size := fun k hk => HO2.out.lt k hk
    have hs1 := HN1.out.size
    have hs2 := HN2.out.size
    have Hlt2 := Lib.hid hlt2; clear hlt2
    have HH3 := Lib.hid hH3; clear hH3
    have HO3 := Lib.hid hO3; clear hO3
    have HO23 : Hid (∃ zs : List Int, w3.ownsRow w1.heap.size 5 1 (.slice A2 n c2) n (zs.map (Value.int .u8))) := ⟨bs.map Int.ofNat, by rw [List.map_map]; exact hO23⟩
    have HN3 := Lib.hid hN3'; clear hN3' hN3 hO23 HR HO2 HN2 HN1
    go_wp2_with fail
    go_loopg [7] n (fun gk s7 wr => ∃ (k : Nat) (zs : List Int), k ≤ n ∧ gk = n - k ∧ s7 = .int .i64 k ∧ wr.ownsRow w1.heap.size 5 1 (.slice A2 n c2) n (zs.map (Value.int .u8)) ∧ Has wr br 54 #[.slice A3 n c3, .int .i64 0, .int .i64 0] ∧ wr.ownsRow w2.heap.size 5 1 (.slice A3 n c3) n (bs.map bV) ∧ New w wr)
    case atStart =>
      obtain ⟨zs, hz⟩ := HO23.out
      exact ⟨0, zs, by omega, by omega, rfl, hz, HH3.out, HO3.out, HN3.out⟩
    case round =>
      clear HO23 HH3 HO3 HN3
      obtain ⟨k, zs, hk, rfl, rfl, hO, hH, hO3, hN⟩ := hrel
      by_cases hlt : k < n
      · obtain ⟨g, hg, hcell⟩ := own_some hO hlt
        subst hg
        replace hcell := hcell k hlt
        have hzl : zs.length = n := by have := hO.1; simpa using this
        have hkz : k < zs.length := by omega
        rw [List.getElem?_map, List.getElem?_eq_getElem hkz] at hcell
        obtain ⟨z, hz⟩ : ∃ z, z = zs[k] := ⟨_, rfl⟩
        rw [← hz] at hcell
        simp only [Option.map_some] at hcell
        have hfr : wr.frozen? ⟨g, k, none⟩ = false := hO.frozenAt k
        clear hz hkz
        have HO := Lib.hid hO; clear hO
        have HH := Lib.hid hH; clear hH
        have HO3 := Lib.hid hO3; clear hO3
        have HN := Lib.hid hN; clear hN
        have Hzl := Lib.hid hzl; clear hzl
        go_wp2
        go_roundg (n - (k + 1))
        case measure => omega
        case rel =>
          have hst := HO.out.stored k (.int .u8 (bits .xor .u8 z 255))
          have hgl := Hlt2.out g rfl
          rw [← List.map_set] at hst
          refine ⟨k + 1, zs.set k (bits .xor .u8 z 255), by omega, rfl, by go_num, hst.1, HH.out.far (p := ⟨g, k, none⟩) (fun e => own_apart HO.out HH.out (by decide) (by rw [e]; rfl)) _, ?_, HN.out.setCell (p := ⟨g, k, none⟩) (fun h => by dsimp only at h; omega) _⟩
          refine own_chg (S := (· = g)) HO3.out ((Chg.refl (· = g) _).setCell (p := ⟨g, k, none⟩) (fun _ => rfl) _) (fun k' hk' e => ?_)
          have := (HO3.out.lt k' hk').1
          omega
      · have hRd : Rd wr br bs 0 0 := ⟨A3, c3, by rw [Hlen.out]; exact hH, by rw [Hlen.out]; exact own_base hO3 (fun k hk => by omega)⟩
        have hbr' : w.heap.size ≤ br := by omega
        have HRd := Lib.hid hRd
        have HN := Lib.hid hN
        clear hRd hN hH hO3 hO Hlt2 hbr
        have hBits := Bits_any A n c _ bs wr (HA.out.new HN.out (fun k hk => hk)) Hlen.out H256.out (by omega)
        have HBits := Lib.hid hBits; clear hBits
        go_wp2_with fail
        with_reducible refine HBits.out.mono ?_
        rintro e w4 ⟨rfl, rfl⟩
        go_wp2_with fail
        have hbl : bs.length ≤ 400 := by have := Hlen.out; omega
        obtain ⟨k0, hk0⟩ : ∃ k0 : Int, k0 = (k : Int) := ⟨_, rfl⟩
        rw [← hk0]
        clear hk0 hlt hk HBits
        obtain ⟨i1, hi1, hy0, hy1, hy2⟩ := info_parts Try.info3
        clear hi hz0 hz1 hz2
        have HRd' : Hid (Rd wr br bs 0 0 ∧ New w wr) := ⟨HRd.out, HN.out⟩
        clear HRd HN
        go_loopg [8, 9, 10] 40 (fun gk s8 s9 s10 wr => ∃ (k p : Nat) (er : Int), k ≤ m ∧ k ≤ 40 ∧ gk = 40 - k ∧ s10 = .int .i64 k ∧ s8 = .string (fstr ((unpack bs).drop p)) ∧ s9 = .int .i64 er ∧ p ≤ 8 * bs.length ∧ Rd wr br bs p er ∧ New w wr)
        case atStart => exact ⟨0, 0, 0, by omega, by omega, by omega, rfl, rfl, rfl, by omega, HRd'.out.1, HRd'.out.2⟩
        case round =>
          clear HRd'
          obtain ⟨k, p, er, hkm, hk40, rfl, rfl, rfl, rfl, hp, hR, hN⟩ := hrel
          have HR := Lib.hid hR; clear hR
          have HN := Lib.hid hN; clear hN
          have hsl : (fstr ((unpack bs).drop p)).size = 8 * bs.length - p := by rw [fstr_size, List.length_drop, unpack_length]
          by_cases hlt : k < m ∧ k < 40
          · obtain ⟨hlt1, hlt2⟩ := hlt
            obtain ⟨a, LA, ln, lc, f, rfl, hab, hln, hLnil, hat⟩ := HB.out.at_ k hlt1
            have Hat := Lib.hid hat; clear hat
            have HLnil := Lib.hid hLnil; clear hLnil
            have hT := Take_any br bs p er wr HR.out (by omega) H256.out hp LA ln lc _ f hln (Hat.out wr HN.out).2 (fun k hk => ⟨by have := HN.out.size; omega, by omega⟩)
            have HT := Lib.hid hT; clear hT
            have hcB := (Hat.out wr HN.out).1
            go_wp2_with fail
            with_reducible refine HT.out.mono ?_
            clear HT
            rintro e wT ⟨vA, vn, vc, p', er', rfl, hC, hTook⟩
            have hNT : New w wT := HN.out.trans hC (fun i hi e => by omega)
            clear hC hcB HR HN
            have HTook := Lib.hid hTook; clear hTook
            have HNT := Lib.hid hNT; clear hNT
            have hcB : ∀ wx, New w wx → wx.cell? (a.add k) = some (.slice LA ln lc) := fun wx hx => (Hat.out wx hx).1
            have HcB := Lib.hid hcB; clear hcB
            have hcT := HcB.out wT HNT.out
            go_upto_block 4 with (fail)
            go_cut [14] (fun s14 wc => wT = wc ∧ ((s14 = .int .i64 2 ∧ ∃ i, i < ln ∧ ¬ (1 ≤ f i ∧ f i ≤ 32)) ∨ (s14 = .int .i64 0 ∧ ∀ i, i < ln → 1 ≤ f i ∧ f i ≤ 32)))
            case first =>
              go_wp2_with fail
              go_loopg [14, 15] ln (fun gk s14 s15 wx => wT = wx ∧ ∃ j : Nat, j ≤ ln ∧ gk = ln - j ∧ s15 = .int .i64 j ∧ ((s14 = .int .i64 2 ∧ ∃ i, i < j ∧ ¬ (1 ≤ f i ∧ f i ≤ 32)) ∨ (s14 = .int .i64 0 ∧ ∀ i, i < j → 1 ≤ f i ∧ f i ≤ 32)))
              case atStart => exact ⟨rfl, 0, by omega, by omega, rfl, Or.inr ⟨rfl, fun i hi => by omega⟩⟩
              case round =>
                obtain ⟨rfl, j, hj, rfl, rfl, hd⟩ := hrel
                by_cases hjl : j < ln
                · obtain ⟨b, hb, _, hcj⟩ := (Hat.out wT HNT.out).2 j hjl
                  subst hb
                  dsimp only at hcj
                  obtain ⟨z, hz⟩ : ∃ z, z = f j := ⟨_, rfl⟩
                  rw [← hz] at hcj
                  have Hz := Lib.hid hz; clear hz
                  by_cases hr : 1 ≤ z ∧ z ≤ 32
                  · obtain ⟨hr1, hr2⟩ := hr
                    have hlift : ∀ i, i < j + 1 → (i < j ∨ i = j) := fun i hi => by omega
                    have Hd := Lib.hid hd; clear hd hlift
                    go_wp2
                    go_roundg (ln - (j + 1))
                    case measure => omega
                    case rel =>
                      refine ⟨rfl, j + 1, by omega, rfl, by go_num, ?_⟩
                      rcases Hd.out with ⟨h1, i, h2, h3⟩ | ⟨h1, h2⟩
                      · exact Or.inl ⟨h1, i, by omega, h3⟩
                      · refine Or.inr ⟨h1, fun i hi => ?_⟩
                        rcases Nat.lt_succ_iff_lt_or_eq.1 hi with h3 | rfl
                        · exact h2 i h3
                        · rw [← Hz.out]; exact ⟨hr1, hr2⟩
                  · have Hr := Lib.hid hr; clear hr
                    by_cases hz1 : z < 1
                    · go_wp2
                      go_roundg (ln - (j + 1))
                      case measure => omega
                      case rel => exact ⟨rfl, j + 1, by omega, rfl, by go_num, Or.inl ⟨rfl, j, by omega, by rw [← Hz.out]; exact Hr.out⟩⟩
                    · have hz2 : 32 < z := by have := Hr.out; omega
                      go_wp2
                      go_roundg (ln - (j + 1))
                      case measure => omega
                      case rel => exact ⟨rfl, j + 1, by omega, rfl, by go_num, Or.inl ⟨rfl, j, by omega, by rw [← Hz.out]; exact Hr.out⟩⟩
                · obtain rfl : j = ln := by omega
                  have Hd := Lib.hid hd; clear hd
                  go_wp2_with fail
                  go_meet
                  case rel => exact ⟨rfl, Hd.out⟩
            case rest =>
              obtain ⟨rfl, hg14⟩ := hcut
              have hlft := fun q => fstr_size ((unpack bs).drop q)
              go_upto_block 6 with (fail)
              go_cut [12, 13, 14] (fun s12 s13 s14 wc => New wT wc ∧ ((∃ gd, s14 = .int .i64 gd ∧ gd ≠ 0 ∧ gd = chk f ln (8 * bs.length - p)) ∨ (s14 = .int .i64 0 ∧ 0 = chk f ln (8 * bs.length - p) ∧ ∃ A' c', s12 = .slice A' ln c' ∧ wc.ownsRow wT.heap.size 3 1 (.slice A' ln c') ln ((List.range ln).map (nums bs p (fun i => (f i).toNat))) ∧ s13 = .string (fstr ((unpack bs).drop (p + sumN (fun i => (f i).toNat) ln))))))
              case first =>
                clear hlft
                rcases hg14 with ⟨rfl, hbad⟩ | ⟨rfl, hall⟩
                · have hck : chk f ln (8 * bs.length - p) = 2 := by unfold chk; rw [if_pos hbad]
                  have Hck := Lib.hid hck; clear hck
                  obtain ⟨i, hil, _⟩ := hbad
                  have hl0 : 0 < ln := by omega
                  go_wp2_with fail
                  refine wp_loop_rounds 1 ?_
                  rw [rounds_succ]
                  go_wp2
                  go_meet
                  case rel => exact ⟨Chg.refl _ _, Or.inl ⟨2, rfl, by decide, Hck.out.symm⟩⟩
                · have Hall := Lib.hid hall; clear hall
                  go_wp2_with fail
                  go_loopg [12, 13, 14, 16] ln (fun gk s12 s13 s14 s16 wx => ∃ (j : Nat) (A' : Option Addr) (c' : Nat), j ≤ ln ∧ gk = ln - j ∧ s16 = .int .i64 j ∧ s14 = .int .i64 0 ∧ s12 = .slice A' j c' ∧ wx.ownsRow wT.heap.size 3 1 (.slice A' j c') j ((List.range j).map (nums bs p (fun i => (f i).toNat))) ∧ s13 = .string (fstr ((unpack bs).drop (p + sumN (fun i => (f i).toNat) j))) ∧ p + sumN (fun i => (f i).toNat) j ≤ 8 * bs.length ∧ New wT wx)
                  case atStart => exact ⟨0, none, 0, by omega, by omega, rfl, rfl, rfl, World.ownsRow_nil _ _ _ _, rfl, by simp only [sumN]; omega, Chg.refl _ _⟩
                  case round =>
                    obtain ⟨j, A', c', hj, rfl, rfl, rfl, rfl, hO, rfl, hq, hNx⟩ := hrel
                    have hNw := HNT.out.then_new hNx
                    have hcx := HcB.out wr hNw
                    obtain ⟨q, hqe⟩ : ∃ q, q = p + sumN (fun i => (f i).toNat) j := ⟨_, rfl⟩
                    rw [← hqe] at hq ⊢
                    have Hqe := Lib.hid hqe; clear hqe
                    obtain ⟨D, hD⟩ : ∃ D, D = (unpack bs).drop q := ⟨_, rfl⟩
                    have hDl : D.length = 8 * bs.length - q := by rw [hD, List.length_drop, unpack_length]
                    have hDs : (fstr D).size = D.length := fstr_size D
                    rw [← hD]
                    have HD := Lib.hid hD; clear hD
                    have HO := Lib.hid hO; clear hO
                    have HNx := Lib.hid hNx; clear hNx
                    have HNw := Lib.hid hNw; clear hNw
                    have HDl := Lib.hid hDl
                    by_cases hjl : j < ln
                    · obtain ⟨b, hb, _, hcj⟩ := (Hat.out wr HNw.out).2 j hjl
                      subst hb
                      dsimp only at hcj
                      have hrj := Hall.out j hjl
                      obtain ⟨x, hx⟩ : ∃ x : Nat, (x : Int) = f j := ⟨(f j).toNat, by omega⟩
                      have hxn : (f j).toNat = x := by omega
                      rw [← hx] at hcj hrj
                      clear hx
                      have Hxn := Lib.hid hxn; clear hxn
                      by_cases hxD : x ≤ D.length
                      · have hDb : D.length ≤ 3200 := by rw [HDl.out]; omega
                        clear hDl
                        have hsl1 : (fstr D).extract 0 x = fstr (D.take x) := by rw [fstr_extract]; simp
                        have hsl2 : (fstr D).extract x D.length = fstr (D.drop x) := by
                          rw [fstr_extract, List.take_of_length_le (by rw [List.length_drop]; omega)]
                        have hNu := fun wx => Number_any (D.take x) wx (by rw [List.length_take]; omega)
                        have HNu := Lib.hid hNu; clear hNu
                        go_wp2_with (first
                          | (go_at_call 17; with_reducible refine (HNu.out _).mono ?_; rintro e w' ⟨rfl, rfl⟩)
                          | (at_builtin; refine wpList_append_one rfl _ _ 42 rfl wT.heap.size 3 i1 (.int .i64 0) 1 8 Try.underlying42 hi1 hy0 hy1 hy2 rfl (by decide) _ j ((List.range j).map (nums bs p (fun i => (f i).toNat))) rfl HO.out #[_] rfl rfl ?a1 ?a2 ?a3 ?a4 ?_))
                        case a1 => first | rfl | (intro u hu; simp at hu; subst hu; rfl)
                        case a2 => simp only [maxLen]; omega
                        case a3 => omega
                        case a4 => exact HNx.out.size
                        intro A2' c2' w5 hO5 hC5 _
                        have hNx5 : New wT w5 := HNx.out.trans hC5 (fun i hi hk => by have := (HO.out.lt i hk).1; omega)
                        have hNw5 := HNT.out.then_new hNx5
                        have hcx5 := HcB.out w5 hNw5
                        have hcj5 : w5.cell? (b.add j) = some (.int .i64 (x : Int)) := by
                          obtain ⟨b', hb', hbl', _⟩ := (Hat.out wr HNw.out).2 j hjl
                          simp only [Option.some.injEq] at hb'
                          subst hb'
                          refine (hC5.cell (by rw [add_block]; have := HNw.out.size; omega) (fun hk => ?_)).trans hcj
                          rw [add_block] at hk
                          have := (HO.out.lt _ hk).1
                          have := HNT.out.size
                          omega
                        have HO5 : Hid (w5.ownsRow wT.heap.size 3 1 (.slice A2' (j + 1) c2') (j + 1) ((List.range (j + 1)).map (nums bs p (fun i => (f i).toNat)))) := by
                          rw [range_snoc]
                          have : nums bs p (fun i => (f i).toNat) j = .int .i64 (numOf (D.take x) : Int) := by
                            unfold nums iV numAt
                            dsimp only
                            rw [Hxn.out, ← Hqe.out, ← HD.out]
                          rw [this]; exact hO5
                        have HN5 := Lib.hid hNx5
                        clear hO5 hC5 hNx5 hNw5 hcx hcj HNu
                        go_wp2
                        go_roundg (ln - (j + 1))
                        case measure => omega
                        case rel =>
                          refine ⟨j + 1, A2', c2', by omega, rfl, by go_num, rfl, rfl, HO5.out, ?_, ?_, HN5.out⟩
                          · have e1 : p + sumN (fun i => (f i).toNat) (j + 1) = q + x := by
                              simp only [sumN, Hxn.out]; have := Hqe.out; omega
                            rw [e1, HD.out, List.drop_drop]
                          · have e1 : p + sumN (fun i => (f i).toNat) (j + 1) = q + x := by
                              simp only [sumN, Hxn.out]; have := Hqe.out; omega
                            rw [e1]; have := HDl.out; omega
                      · have hck : chk f ln (8 * bs.length - p) = 10 := by
                          have h1 := sumTo_nat f ln (fun i hi => by have := Hall.out i hi; omega)
                          have h2 := sumN_mono (fun i => (f i).toNat) (show j + 1 ≤ ln by omega)
                          have h3 : sumN (fun i => (f i).toNat) (j + 1) = sumN (fun i => (f i).toNat) j + x := by simp only [sumN, Hxn.out]
                          have h4 := Hqe.out
                          have h5 := HDl.out
                          unfold chk
                          rw [if_neg, if_pos]
                          · rw [h1]; omega
                          · rintro ⟨i, hi, hb⟩; exact hb (Hall.out i hi)
                        have Hck := Lib.hid hck; clear hck
                        have hDb : D.length ≤ 3200 := by rw [HDl.out]; omega
                        clear hDl
                        go_wp2
                        go_meet
                        case rel => exact ⟨HNx.out, Or.inl ⟨10, rfl, by decide, Hck.out.symm⟩⟩
                    · obtain rfl : j = ln := by omega
                      have hck : chk f j (8 * bs.length - p) = 0 := by
                        have h1 := sumTo_nat f j (fun i hi => by have := Hall.out i hi; omega)
                        have h4 := Hqe.out
                        unfold chk
                        rw [if_neg, if_neg]
                        · rw [h1]; omega
                        · rintro ⟨i, hi, hb⟩; exact hb (Hall.out i hi)
                      have Hck := Lib.hid hck; clear hck hDl
                      go_wp2
                      go_meet
                      case rel => exact ⟨HNx.out, Or.inr ⟨rfl, Hck.out.symm, A', c', rfl, HO.out, by rw [← Hqe.out, ← HD.out]⟩⟩
              case rest =>
                clear hlft hg14
                obtain ⟨hNc, hgood⟩ := hcut
                obtain ⟨hT1, hT2, hT3, hT4⟩ := HTook.out
                have HT1 := Lib.hid hT1; clear hT1
                have HT4 := Lib.hid hT4; clear hT4
                have HG := Lib.hid hgood; clear hgood
                have hRc : Rd wc br bs p' er' := hT3.new hNc
                have HRc := Lib.hid hRc; clear hRc hT3
                have HNc := Lib.hid hNc; clear hNc
                have HNw := Lib.hid (HNT.out.then_new HNc.out)
                -- what the law's own reckoning has come to: 'first' is er', 's' is what is left behind p', 'want' is what Take has given
                have hsl' : (fstr ((unpack bs).drop p')).size = 8 * bs.length - p' := by rw [fstr_size, List.length_drop, unpack_length]
                go_upto_if 139 with (fail)
                go_cut [9] (fun s9 wx => wc = wx ∧ s9 = .int .i64 er')
                case first =>
                  have hT1 := HT1.out
                  have hgood := HG.out
                  by_cases he : er = 0
                  · subst he
                    rw [if_pos rfl] at hT1
                    have hs14 : u14 = .int .i64 er' := by
                      rcases hgood with ⟨gd, h1, _, h3⟩ | ⟨h1, h2, _⟩
                      · rw [h1, hT1, h3]
                      · rw [h1, hT1, ← h2]
                    clear hgood hT1
                    subst hs14
                    go_wp2
                    go_meet
                    case rel => exact ⟨rfl, rfl⟩
                  · have heb : (er == 0) = false := by simpa using he
                    rw [if_neg he] at hT1
                    have HT1 := Lib.hid hT1; clear hT1 he hgood
                    go_wp2
                    go_meet
                    case rel => exact ⟨rfl, by rw [HT1.out]⟩
                case rest =>
                  obtain ⟨rfl, rfl⟩ := hcut
                  go_upto_if 142 with (fail)
                  go_cut [8, 12] (fun s8 s12 wx => wc = wx ∧ s8 = .string (fstr ((unpack bs).drop p')) ∧ ∃ A'' c'', s12 = .slice A'' vn c'' ∧ ∀ j, j < vn → ∃ g1 g2 y, vA = some ⟨g1, 0, none⟩ ∧ A'' = some ⟨g2, 0, none⟩ ∧ wc.cell? ⟨g1, j, none⟩ = some (.int .i64 y) ∧ wc.cell? ⟨g2, j, none⟩ = some (.int .i64 y))
                  case first =>
                    rcases HT4.out with ⟨he', rfl, rfl⟩ | ⟨rfl, rfl, rfl, hall, base, hrow⟩
                    · have heb : (er' != 0) = true := by simpa using he'
                      clear he'
                      go_wp2
                      go_meet
                      case rel => exact ⟨rfl, rfl, none, 0, rfl, fun j hj => by omega⟩
                    · have hT1 := HT1.out
                      have hgood := HG.out
                      have her : er = 0 := by
                        apply Classical.byContradiction
                        intro h
                        rw [if_neg h] at hT1
                        exact h hT1.symm
                      rw [if_pos her] at hT1
                      obtain ⟨A'', c'', hu12, hrow2, hu13⟩ : ∃ A'' c'', u12 = .slice A'' vn c'' ∧ wc.ownsRow wT.heap.size 3 1 (.slice A'' vn c'') vn ((List.range vn).map (nums bs p (fun i => (f i).toNat))) ∧ u13 = .string (fstr ((unpack bs).drop (p + sumN (fun i => (f i).toNat) vn))) := by
                        rcases hgood with ⟨gd, _, h2, h3⟩ | ⟨_, _, h4⟩
                        · rw [← hT1] at h3; exact absurd h3 h2
                        · exact h4
                      have hrow1 := own_new hrow HNc.out
                      clear hgood hT1 her hrow hall
                      subst hu12
                      subst hu13
                      have Hrow1 := Lib.hid hrow1; clear hrow1
                      have Hrow2 := Lib.hid hrow2; clear hrow2
                      go_wp2
                      go_meet
                      case rel =>
                        refine ⟨rfl, rfl, A'', c'', rfl, fun j hj => ?_⟩
                        obtain ⟨g1, h1, h2⟩ := own_some Hrow1.out hj
                        obtain ⟨g2, h3, h4⟩ := own_some Hrow2.out hj
                        refine ⟨g1, g2, (numAt bs (p + sumN (fun i => (f i).toNat) j) (f j).toNat : Nat), h1, h3, ?_, ?_⟩
                        · rw [h2 j hj]; simp [hj, nums, iV]
                        · rw [h4 j hj]; simp [hj, nums, iV]
                  case rest =>
                    obtain ⟨rfl, rfl, A'', c'', rfl, hrows⟩ := hcut
                    clear HG HT4 HT1
                    have Hrows := Lib.hid hrows; clear hrows
                    have HE := Lib.hid (err_any br bs p' er' wc HRc.out)
                    have HL := Lib.hid (rd_left br bs p' er' wc HRc.out (by omega) hT2)
                    have hb1 : (er' != er') = false := by simp
                    have hb2 : (8 * (bs.length : Int) - (p' : Int) != ((8 * bs.length - p' : Nat) : Int)) = false := by
                      have : ((8 * bs.length - p' : Nat) : Int) = 8 * (bs.length : Int) - (p' : Int) := by omega
                      rw [this]; simp
                    go_wp2_with fail
                    with_reducible refine HE.out.mono ?_
                    rintro e w6 ⟨rfl, rfl⟩
                    go_wp2_with fail
                    with_reducible refine HL.out.mono ?_
                    rintro e w6 ⟨rfl, kk, rfl⟩
                    go_wp2_with fail
                    have hvm : vn ≤ 17592186043904 := by
                      rcases HTook.out.2.2.2 with ⟨_, h, _⟩ | ⟨_, h, _⟩ <;> omega
                    go_loopg [17] vn (fun gk s17 wx => ∃ j q : Nat, j ≤ vn ∧ gk = vn - j ∧ s17 = .int .i64 j ∧ wx = wc.drewN q)
                    case atStart => exact ⟨0, kk, by omega, by omega, rfl, rfl⟩
                    case round =>
                      obtain ⟨j, q, hj, rfl, rfl, rfl⟩ := hrel
                      by_cases hjl : j < vn
                      · obtain ⟨g1, g2, y, h1, h2, hc1, hc2⟩ := Hrows.out j hjl
                        subst h1
                        subst h2
                        go_wp2_with fail
                        go_quiet (fail)
                        go_wp2
                        go_roundg (vn - (j + 1))
                        case measure => omega
                        case rel => exact ⟨j + 1, _, by omega, rfl, by go_num, rfl⟩
                      · go_wp2
                        go_roundg (40 - (k + 1))
                        case measure => omega
                        case rel => exact ⟨k + 1, p', er', by omega, by omega, rfl, by go_num, rfl, rfl, hT2, HRc.out.chg (S := fun _ => False) ((Chg.refl _ _).drewN _) (fun _ _ f => f), HNw.out.drewN _⟩
          · have HL := Lib.hid (rd_left br bs p er wr HR.out (by omega) hp)
            have hb2 : (8 * (bs.length : Int) - (p : Int) == ((8 * bs.length - p : Nat) : Int)) = true := by
              have : ((8 * bs.length - p : Nat) : Int) = 8 * (bs.length : Int) - (p : Int) := by omega
              rw [this]; simp
            by_cases hkm2 : k < m
            · have hk2 : ¬ k < 40 := by omega
              clear hlt
              go_wp2_with fail
              with_reducible refine HL.out.mono ?_
              rintro e w6 ⟨rfl, kk, rfl⟩
              go_wp2_with fail
              go_ret
              exact ⟨by first | rfl | simp [hb2], HN.out.drewN _⟩
            · clear hlt
              have hkd : decide (k < m) = false := by simp; omega
              go_wp2_with fail
              with_reducible refine HL.out.mono ?_
              rintro e w6 ⟨rfl, kk, rfl⟩
              go_wp2_with fail
              go_ret
              exact ⟨by first | rfl | simp [hb2], HN.out.drewN _⟩
  · have hd1 : decide ((400 : Int) < (n : Int)) = true := by simp; omega
    clear h400
    go_enter Try.func4, Try.ntmps4
    go_wp2_with fail
    refine (awake_any _).mono ?_
    rintro e w1 ⟨rfl, hN1⟩
    have HN1 := Lib.hid hN1; clear hN1
    go_wp2_with fail
    refine (awake_any _).mono ?_
    rintro e w2 ⟨rfl, hN2⟩
    have HN2 := Lib.hid hN2; clear hN2
    go_wp2_with fail
    go_ret
    exact ⟨rfl, HN1.out.then_new HN2.out⟩
theorem takes_law {W : World} (A : Option Addr) (n c : Nat) (h : ∃ bs : List Nat, bs.length = n ∧ Arr W (· < W.heap.size) A n (fun i => bV (bs.getD i 0)) ∧ (∀ x ∈ bs, x < 256) ∧ n ≤ c ∧ c ≤ maxLen ∧ (A = none → n = 0 ∧ c = 0))
    (B : Option Addr) (m d : Nat) (h' : Intss W B m ∧ d ≤ maxLen ∧ m ≤ d) :
    Calls Try.prog 4 #[.slice A n c, .slice B m d] W fun e w' => e = .returned (.bool true) ∧ New W w' := by
  obtain ⟨bs, h1, h2, h3, h4, _, h5⟩ := h
  exact takes_walk A n c bs B m d W h1 h2 h3 h5 h'.1 (by have := h'.2.1; simp only [maxLen] at this; omega)
end Go.Proofs.Ytemhcfbdpplcgaa
