import Derived.Test.YtkcokcanakljnaaNumB
import Derived.Test.YtkcokcanakljnaaTRefC
namespace Go.Proofs.Ytkcokcanakljnaa
open Go.RowKit
/-- a number's bytes in new memory -/
def NumR (w : World) (n : Int) (e : Ending) (w' : World) : Prop := ∃ A k c, e = .returned (.slice A k c) ∧ k = (be n.toNat).length ∧ k ≤ 8 ∧ w'.ownsRow w.heap.size 5 1 (.slice A k c) k ((be n.toNat).map bV)
theorem be_eight {n : Int} (h : n ≤ 9223372036854775807) : (be n.toNat).length ≤ 8 := be_len_le 8 _ (by rw [show (256 : Nat) ^ 8 = 18446744073709551616 by decide]; omega)
set_option maxRecDepth 100000 in
set_option maxHeartbeats 2000000 in
theorem RNum_any : ∀ (N : Nat) (n : Int), n.toNat < N → n ≤ 9223372036854775807 → ∀ (w : World), Calls Try.prog 43 #[.int .i64 n] w fun e w' => NumR w n e w' ∧ New w w' := by
  intro N
  induction N with
  | zero => intro n h; omega
  | succ N ih =>
    intro n hn hb w
    rcases Int.lt_or_le 0 n with hp | hp
    · obtain ⟨r, rfl⟩ : ∃ r : Nat, n = (r : Int) := ⟨n.toNat, by omega⟩
      rw [Int.toNat_natCast] at hn
      have hr0 : 0 < r := by omega
      obtain ⟨q, hq⟩ : ∃ q, q = r / 256 := ⟨_, rfl⟩
      obtain ⟨d, hd⟩ : ∃ d, d = r % 256 := ⟨_, rfl⟩
      have Hbe : Hid (be (r : Int).toNat = be (q : Int).toNat ++ [d]) := by rw [Hid, Int.toNat_natCast, Int.toNat_natCast, be_pos r hr0, ← hq, ← hd]
      have hqr : q ≤ r := by omega
      have hd256 : d < 256 := by omega
      have HC := Lib.hid (ih (q : Int) (by rw [Int.toNat_natCast]; omega) (by omega) w)
      have f1 : Int.tdiv (r : Int) 256 = (q : Int) := by rw [Int.tdiv_eq_ediv_of_nonneg (by omega)]; omega
      have f2 : Int.tmod (r : Int) 256 = (d : Int) := by rw [Int.tmod_eq_emod_of_nonneg (by omega)]; omega
      have f3 : (r : Int) / 256 = (q : Int) := by omega
      have f4 : (r : Int) % 256 = (d : Int) := by omega
      have f5 : IntKind.u8.wrap (d : Int) = (d : Int) := by rw [IntKind.wrap_u8]; omega
      have Hk := Lib.hid (be_eight (n := (r : Int)) hb)
      clear ih hn hq hd
      go_enter Try.func43, Try.ntmps43
      go_wp2_with fail
      with_reducible refine HC.out.mono ?_
      rintro e w1 ⟨⟨A1, k1, c1, rfl, hk1, hk8, hO1⟩, hN1⟩
      have HO1 := Lib.hid hO1; clear hO1
      have HN1 := Lib.hid hN1; clear hN1
      have Hk1 := Lib.hid hk1; clear hk1
      go_wp2_with (first | (at_builtin; refine wpList_app (wX := w) rfl (HN1.out.alloc _) _ _ rfl _ k1 (be (q : Int).toNat) rfl (own_new HO1.out ((Chg.refl _ _).alloc _)) _ 1 1 [d] (· = w1.heap.size) rfl (arr_one (Has.new w1 5 _)) rfl (fun h => by cases h) (by omega) ?_; intro A2 c2 w2 hO2 hN2; have HO2 := Lib.hid hO2; have HN2 := Lib.hid hN2; clear hO2 hN2) | fail)
      go_ret
      refine ⟨⟨A2, k1 + 1, c2, rfl, by rw [Hbe.out, List.length_append, Hk1.out]; rfl, ?_, by rw [Hbe.out]; exact HO2.out⟩, HN2.out⟩
      have := Hk.out
      rw [Hbe.out, List.length_append, ← Hk1.out] at this
      exact this
    · have Hbe : Hid (be n.toNat = []) := by rw [Hid, show n.toNat = 0 by omega, be_zero]
      clear ih
      go_enter Try.func43, Try.ntmps43
      go_wp2_with fail
      go_ret
      exact ⟨⟨none, 0, 0, rfl, by rw [Hbe.out]; rfl, by omega, by rw [Hbe.out]; exact World.ownsRow_nil _ _ _ _⟩, Chg.refl _ _⟩
set_option maxRecDepth 100000 in
set_option maxHeartbeats 4000000 in
theorem Reverse_any (xs : List Nat) (base n c g : Nat) (w : World) (hO : w.ownsRow base 5 1 (.slice (some ⟨g, 0, none⟩) n c) n (xs.map bV)) (h256 : ∀ x ∈ xs, x < 256) (hn : n ≤ 100) :
    Calls Try.prog 71 #[.slice (some ⟨g, 0, none⟩) n c] w fun e w' => e = .returned (.tuple #[]) ∧ w'.ownsRow base 5 1 (.slice (some ⟨g, 0, none⟩) n c) n (xs.reverse.map bV) ∧ Chg (· = g) w w' := by
  have hl := own_length hO
  have Hl := Lib.hid hl; clear hl
  have HO := Lib.hid hO; clear hO
  have H256 := Lib.hid h256; clear h256
  go_enter Try.func71, Try.ntmps71
  go_wp2_with fail
  go_loopg [2, 3] n (fun gk i j wr => ∃ (k : Nat) (ys : List Nat), 2 * k ≤ n + 1 ∧ gk = n - k ∧ i = .int .i64 k ∧ j = .int .i64 ((n : Int) - 1 - k) ∧ ys.length = n ∧ (∀ y ∈ ys, y < 256) ∧ (∀ p, p < n → ys[p]? = if p < k ∨ n - 1 - k < p then xs[n - 1 - p]? else xs[p]?) ∧
    wr.ownsRow base 5 1 (.slice (some ⟨g, 0, none⟩) n c) n (ys.map bV) ∧ Chg (· = g) w wr)
  case atStart =>
    refine ⟨0, xs, by omega, by omega, rfl, by simp, Hl.out, H256.out, fun p hp => ?_, HO.out, Chg.refl _ _⟩
    rw [if_neg (by omega)]
  case round =>
    obtain ⟨k, ys, hk, rfl, rfl, rfl, hyl, hy256, hys, hOr, hCr⟩ := hrel
    by_cases hlt : 2 * k + 1 < n
    · obtain ⟨y1, hy1⟩ : ∃ y, ys[k]? = some y := ⟨_, List.getElem?_eq_getElem (by omega)⟩
      obtain ⟨j, hj⟩ : ∃ j, j + k + 1 = n := ⟨n - 1 - k, by omega⟩
      have hji : (n : Int) - 1 - k = (j : Int) := by omega
      obtain ⟨y2, hy2⟩ : ∃ y, ys[j]? = some y := ⟨_, List.getElem?_eq_getElem (by omega)⟩
      have hc1 : wr.cell? ⟨g, k, none⟩ = some (.int .u8 (y1 : Int)) := by rw [hOr.cellAt k (by omega), List.getElem?_map, hy1]; rfl
      have hc2 : wr.cell? ⟨g, j, none⟩ = some (.int .u8 (y2 : Int)) := by rw [hOr.cellAt j (by omega), List.getElem?_map, hy2]; rfl
      have hf1 := own_free hOr k
      have hf2 := own_free hOr j
      have hkj : k < j := by omega
      have hjn : j < n := by omega
      rw [hji]
      have HOr := Lib.hid hOr; clear hOr
      have HCr := Lib.hid hCr; clear hCr
      have Hys := Lib.hid hys; clear hys
      have Hyl := Lib.hid hyl; clear hyl
      have Hy256 := Lib.hid hy256; clear hy256
      have Hy1 := Lib.hid hy1; clear hy1
      have Hy2 := Lib.hid hy2; clear hy2
      have Hj := Lib.hid hj; clear hj hji hlt hk
      go_upto_region 3 with (fail)
      go_region
      go_wp2_with fail
      go_roundg (n - (k + 1))
      case measure => omega
      case rel =>
        have hj := Hj.out
        have e1 : xs[k]? = some y1 := by have := Hys.out k (by omega); rw [if_neg (by omega), Hy1.out] at this; exact this.symm
        have e2 : xs[j]? = some y2 := by have := Hys.out j (by omega); rw [if_neg (by omega), Hy2.out] at this; exact this.symm
        refine ⟨k + 1, (ys.set k y2).set j y1, by omega, rfl, by go_num, by first | (congr 1; omega) | (rw [show (n : Int) - 1 - ((k + 1 : Nat) : Int) = (j : Int) - 1 by omega]; go_num), by simp [Hyl.out], ?_, ?_, ?_, ?_⟩
        · intro y hy
          have h1 := Hy256.out y1 (List.mem_of_getElem? Hy1.out)
          have h2 := Hy256.out y2 (List.mem_of_getElem? Hy2.out)
          rcases List.mem_or_eq_of_mem_set hy with hy | rfl
          · rcases List.mem_or_eq_of_mem_set hy with hy | rfl
            · exact Hy256.out y hy
            · exact h2
          · exact h1
        · intro p hp
          have hpy := Hys.out p hp
          by_cases hpj : p = j
          · subst hpj
            rw [List.getElem?_set_self (by rw [List.length_set, Hyl.out]; exact hp), if_pos (by omega), show n - 1 - p = k by omega, e1]
          · rw [List.getElem?_set_ne (by omega)]
            by_cases hpk : p = k
            · subst hpk
              rw [List.getElem?_set_self (by rw [Hyl.out]; exact hp), if_pos (by omega), show n - 1 - p = j by omega, e2]
            · rw [List.getElem?_set_ne (by omega), hpy]
              by_cases hc : p < k ∨ n - 1 - k < p
              · rw [if_pos hc, if_pos (by omega)]
              · rw [if_neg hc, if_neg (by omega)]
        · have h1 := own_put (own_put HOr.out k (bV y2)) j (bV y1)
          rw [← List.map_set, ← List.map_set] at h1
          exact own_new h1 ((Chg.refl _ _).drew)
        · exact ((HCr.out.setCell (fun _ => rfl) _).setCell (fun _ => rfl) _).drew
    · have hrev : ys = xs.reverse := by
        apply List.ext_getElem?
        intro p
        rcases Nat.lt_or_ge p n with hp | hp
        · rw [hys p hp, List.getElem?_reverse (by rw [Hl.out]; exact hp), Hl.out]
          by_cases hc : p < k ∨ n - 1 - k < p
          · rw [if_pos hc]
          · rw [if_neg hc, show n - 1 - p = p by omega]
        · rw [List.getElem?_eq_none (by omega), List.getElem?_eq_none (by rw [List.length_reverse, Hl.out]; exact hp)]
      subst hrev
      have HOr := Lib.hid hOr; clear hOr
      have HCr := Lib.hid hCr; clear hCr
      clear hys hyl hy256
      have hge : (n : Int) - 1 - k ≤ (k : Int) := by omega
      obtain ⟨j, hj⟩ : ∃ j : Int, j = (n : Int) - 1 - k := ⟨_, rfl⟩
      rw [← hj] at hge ⊢
      clear hj
      go_wp2_with fail
      go_end0
      exact ⟨rfl, HOr.out, HCr.out⟩
set_option maxRecDepth 100000 in
set_option maxHeartbeats 4000000 in
theorem Reverse_nil (w : World) : Calls Try.prog 71 #[.slice none 0 0] w fun e w' => e = .returned (.tuple #[]) ∧ w' = w := by
  go_enter Try.func71, Try.ntmps71
  go_wp2_with fail
  go_loopg [2, 3] 1 (fun gk i j wr => gk = 1 ∧ i = .int .i64 0 ∧ j = .int .i64 (-1) ∧ w = wr)
  case atStart => exact ⟨rfl, rfl, rfl, rfl⟩
  case round =>
    obtain ⟨rfl, rfl, rfl, rfl⟩ := hrel
    go_wp2_with fail
    go_end0
    exact ⟨rfl, rfl⟩
set_option maxRecDepth 100000 in
set_option maxHeartbeats 4000000 in
theorem Num_any (n : Int) (hlo : -9223372036854775808 ≤ n) (hb : n ≤ 9223372036854775807) (w : World) : Calls Try.prog 35 #[.int .i64 n] w fun e w' => NumR w n e w' ∧ New w w' := by
  rcases Int.lt_or_le 0 n with hp | hp
  · obtain ⟨r0, rfl⟩ : ∃ r : Nat, n = (r : Int) := ⟨n.toNat, by omega⟩
    have hl8 : (le r0).length ≤ 8 := le_len 8 _ (by rw [show (256 : Nat) ^ 8 = 18446744073709551616 by decide]; omega)
    have Hl8 := Lib.hid hl8; clear hl8
    go_enter Try.func35, Try.ntmps35
    go_wp2_with fail
    go_loopg [0, 3] r0 (fun gk s b wr => ∃ (r : Nat) (out : List Nat) (A3 : Option Addr) (k c3 : Nat), gk = r ∧ r ≤ r0 ∧ s = .int .i64 r ∧ b = .slice A3 k c3 ∧ k = out.length ∧ le r0 = out ++ le r ∧ (∀ x ∈ out, x < 256) ∧ wr.ownsRow w.heap.size 5 1 (.slice A3 k c3) k (out.map bV) ∧ New w wr)
    case atStart => exact ⟨r0, [], none, 0, 0, rfl, Nat.le_refl _, rfl, rfl, rfl, rfl, by simp, World.ownsRow_nil _ _ _ _, Chg.refl _ _⟩
    case round =>
      obtain ⟨r, out, A3, k, c3, rfl, hrr, rfl, rfl, hk, hle, ho256, hO, hN⟩ := hrel
      have hk8 : k ≤ 8 := by have := Hl8.out; rw [hle, List.length_append] at this; omega
      have HO := Lib.hid hO; clear hO
      have HN := Lib.hid hN; clear hN
      have Ho256 := Lib.hid ho256; clear ho256
      have Hk := Lib.hid hk; clear hk
      rcases Nat.eq_zero_or_pos gk with hz | hz
      · subst hz
        have hout : out = le r0 := by rw [hle, le_zero, List.append_nil]
        have Hbe : Hid (be (r0 : Int).toNat = out.reverse) := by rw [Hid, Int.toNat_natCast, be, hout]
        have hk0 : 0 < k := by rw [Hk.out, hout, le_pos r0 (by omega)]; simp
        clear hle hout
        obtain ⟨g, rfl⟩ : ∃ g, A3 = some ⟨g, 0, none⟩ := by
          obtain ⟨g, hg, _⟩ := own_some HO.out (i := 0) hk0
          exact ⟨g, hg⟩
        have HRv := Lib.hid (Reverse_any out w.heap.size k c3 g wr HO.out Ho256.out (by omega))
        go_wp2_with fail
        with_reducible refine HRv.out.mono ?_
        rintro e w2 ⟨rfl, hO2, hC2⟩
        have HO2 := Lib.hid hO2; clear hO2
        have hgb := (HO.out.lt g rfl).1
        have HN2 : Hid (New w w2) := HN.out.trans hC2 (fun i hi hk => by omega)
        clear hC2
        go_wp2_with fail
        go_ret
        exact ⟨⟨_, k, c3, rfl, by rw [Hbe.out, List.length_reverse, Hk.out], by omega, by rw [Hbe.out]; exact HO2.out⟩, HN2.out⟩
      · obtain ⟨q, hq⟩ : ∃ q, q = gk / 256 := ⟨_, rfl⟩
        obtain ⟨d, hd⟩ : ∃ d, d = gk % 256 := ⟨_, rfl⟩
        have Hle : Hid (le r0 = (out ++ [d]) ++ le q) := by rw [Hid, hle, le_pos gk hz, ← hq, ← hd]; simp
        have hqr : q < gk := by omega
        have hd256 : d < 256 := by omega
        have f1 : Int.tdiv (gk : Int) 256 = (q : Int) := by rw [Int.tdiv_eq_ediv_of_nonneg (by omega)]; omega
        have f2 : Int.tmod (gk : Int) 256 = (d : Int) := by rw [Int.tmod_eq_emod_of_nonneg (by omega)]; omega
        have f3 : (gk : Int) / 256 = (q : Int) := by omega
        have f4 : (gk : Int) % 256 = (d : Int) := by omega
        have f5 : IntKind.u8.wrap (d : Int) = (d : Int) := by rw [IntKind.wrap_u8]; omega
        clear hle hq hd
        go_wp2_with (first | (at_builtin; refine wpList_app (wX := w) rfl (HN.out.alloc _) _ _ rfl _ k out rfl (own_new HO.out ((Chg.refl _ _).alloc _)) _ 1 1 [d] (· = wr.heap.size) rfl (arr_one (Has.new wr 5 _)) rfl (fun h => by cases h) (by omega) ?_; intro A2 c2 w2 hO2 hN2; have HO2 := Lib.hid hO2; have HN2 := Lib.hid hN2; clear hO2 hN2) | fail)
        go_roundg q
        case measure => exact hqr
        case rel =>
          refine ⟨q, out ++ [d], A2, k + 1, c2, rfl, by omega, rfl, rfl, by rw [List.length_append, Hk.out]; rfl, Hle.out, ?_, HO2.out, HN2.out⟩
          intro x hx
          rcases List.mem_append.1 hx with hx | hx
          · exact Ho256.out x hx
          · simp at hx; omega
  · have Hbe : Hid (be n.toNat = []) := by rw [Hid, show n.toNat = 0 by omega, be_zero]
    go_enter Try.func35, Try.ntmps35
    go_wp2_with fail
    go_loopg [0, 3] 1 (fun gk s b wr => gk = 1 ∧ s = .int .i64 n ∧ b = .slice none 0 0 ∧ w = wr)
    case atStart => exact ⟨rfl, rfl, rfl, rfl⟩
    case round =>
      obtain ⟨rfl, rfl, rfl, rfl⟩ := hrel
      go_wp2_with fail
      with_reducible refine (Reverse_nil w).mono ?_
      rintro e w2 ⟨rfl, rfl⟩
      go_wp2_with fail
      go_ret
      exact ⟨⟨none, 0, 0, rfl, by rw [Hbe.out]; rfl, by omega, by rw [Hbe.out]; exact World.ownsRow_nil _ _ _ _⟩, Chg.refl _ _⟩
end Go.Proofs.Ytkcokcanakljnaa
