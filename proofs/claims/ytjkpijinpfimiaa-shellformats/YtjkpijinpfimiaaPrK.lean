/-
  What the program's Body does, Read of no card, and slices.Clone, Grow and Concat of entries.
-/
import Derived.Test.YtjkpijinpfimiaaPrJ
import Derived.Test.YtjkpijinpfimiaaRefQ
namespace Go.Proofs.Ytjkpijinpfimiaa
open Go.RowKit
set_option maxRecDepth 100000 in
set_option maxHeartbeats 2000000 in
theorem Read_nil (w : World) : Calls Try.prog 10 #[.pointer none] w fun e w' => e = .returned (.tuple #[.agg #[.int .i64 0, .int .i64 0, .int .i64 0, .int .i64 0, .slice none 0 0], .int .i64 2]) ∧ New w w' := by
  obtain ⟨rb, hrb⟩ : ∃ rb, rb = w.heap.size := ⟨_, rfl⟩
  go_enter Try.func10, Try.ntmps10
  go_upto_region 1 with (fail)
  obtain ⟨w1, hw1⟩ : ∃ w1, w1 = w.alloc (.cells #[.int .i64 0, .int .i64 0, .int .i64 0, .int .i64 0, .slice none 0 0] 30) := ⟨_, rfl⟩
  have HB1 : Hid (Has w1 rb 30 #[.int .i64 0, .int .i64 0, .int .i64 0, .int .i64 0, .slice none 0 0]) := by rw [hw1, hrb]; exact Has.new w 30 _
  have HN1 : Hid (New w w1) := by rw [hw1]; exact (Chg.refl _ _).alloc _
  have Hrb : Hid (w.heap.size ≤ rb) := by show _ ≤ _; omega
  rw [← hw1, ← hrb]
  clear hw1 hrb
  have r0 : w1.cell? ⟨rb, 0, none⟩ = some (.int .i64 0) := (HB1.out.cell 0).trans rfl
  have r1 : w1.cell? ⟨rb, 1, none⟩ = some (.int .i64 0) := (HB1.out.cell 1).trans rfl
  have r2 : w1.cell? ⟨rb, 2, none⟩ = some (.int .i64 0) := (HB1.out.cell 2).trans rfl
  have r3 : w1.cell? ⟨rb, 3, none⟩ = some (.int .i64 0) := (HB1.out.cell 3).trans rfl
  have r4 : w1.cell? ⟨rb, 4, none⟩ = some (.slice none 0 0) := (HB1.out.cell 4).trans rfl
  have z0 := HB1.out.free 0
  have z1 := HB1.out.free 1
  have z2 := HB1.out.free 2
  have z3 := HB1.out.free 3
  have z4 := HB1.out.free 4
  go_wp2_with fail
  obtain ⟨hX, hGX⟩ := setV HB1.out (.int .i64 0) (.int .i64 0) (.int .i64 0) (.int .i64 0) (.slice none 0 0)
  generalize (((((w1.setCell ⟨rb, 0, none⟩ (.int .i64 0)).setCell ⟨rb, 1, none⟩ (.int .i64 0)).setCell ⟨rb, 2, none⟩ (.int .i64 0)).setCell ⟨rb, 3, none⟩ (.int .i64 0)).setCell ⟨rb, 4, none⟩ (.slice none 0 0)) = wX at hX hGX ⊢
  have g0 := (hX.cell 0).trans rfl
  have g1 := (hX.cell 1).trans rfl
  have g2 := (hX.cell 2).trans rfl
  have g3 := (hX.cell 3).trans rfl
  have g4 := (hX.cell 4).trans rfl
  refine bodyPost_ret (v := .tuple #[.agg #[.int .i64 0, .int .i64 0, .int .i64 0, .int .i64 0, .slice none 0 0], .int .i64 2]) (by simp [results, Try.results10, go_sem, g0, g1, g2, g3, g4]) rfl ?_
  exact ⟨rfl, HN1.out.trans hGX (fun i hi h => by have := Hrb.out; omega)⟩
theorem Lists.two {w : World} {F : Nat → Prop} {g : Nat} {t : TypeId} {v1 v2 : Value} {b1 b2 : List Nat} (hg : Has w g t #[v1, v2]) (h1 : Byts w F v1 b1) (h2 : Byts w F v2 b2) : Lists w (fun k => F k ∨ k = g) (some ⟨g, 0, none⟩) [b1, b2] :=
  Lists.of_has (vs := [v1, v2]) hg rfl fun i hi => by
    rcases (show i = 0 ∨ i = 1 by simp at hi; omega) with rfl | rfl
    · exact h1
    · exact h2
set_option maxRecDepth 100000 in
set_option maxHeartbeats 2000000 in
theorem Body_in (g s : Nat) (B : List Nat) (p : Int) (w : World) (hC : Cd w g B p) (hs : s < 6) :
    Calls Try.prog 13 #[.pointer (some ⟨g, 0, none⟩), .int .i64 (s : Int)] w fun e w' => ∃ A c, e = .returned (.tuple #[.slice A 64 c, .int .i64 0]) ∧ w'.ownsRow w.heap.size 5 1 (.slice A 64 c) 64 ((bodyI B s).map bV) ∧ New w w' := by
  have HC := Lib.hid hC; clear hC
  have ht : decide (0 ≤ (s : Int) ∧ (s : Int) ≤ 5) = true := by simp only [decide_eq_true_eq]; omega
  have f1 : wrap64 (3 + 2 * (s : Int) + 1) = 3 + 2 * (s : Int) + 1 := by unfold wrap64; omega
  go_enter Try.func13, Try.ntmps13
  go_wp2_with fail
  with_reducible refine (rightSlot_any (s : Int) w).mono ?_
  rintro e w1 ⟨rfl, hw⟩
  obtain rfl : w = w1 := hw.symm
  clear hw
  rw [ht]
  go_wp2_with fail
  with_reducible refine (slotSector_any (s : Int) w (by omega)).mono ?_
  rintro e w1 ⟨rfl, hw⟩
  obtain rfl : w = w1 := hw.symm
  clear hw
  go_wp2_with fail
  with_reducible refine (Read_any g (3 + 2 * (s : Int)) B p w HC.out (by omega)).mono ?_
  rw [show (3 + 2 * (s : Int)).toNat = 3 + 2 * s by omega]
  rintro e w1 ⟨A1, c1, rfl, hO1, hN1⟩
  have HO1 := Lib.hid hO1
  have HN1 := Lib.hid hN1
  clear hO1 hN1
  go_wp2_with fail
  with_reducible refine (slotSector_any (s : Int) w1 (by omega)).mono ?_
  rintro e w2 ⟨rfl, hw⟩
  obtain rfl : w1 = w2 := hw.symm
  clear hw
  go_wp2_with fail
  with_reducible refine (Read_any g (3 + 2 * (s : Int) + 1) B p w1 (HC.out.new HN1.out) (by omega)).mono ?_
  rw [show (3 + 2 * (s : Int) + 1).toNat = 4 + 2 * s by omega]
  rintro e w2 ⟨A2, c2, rfl, hO2, hN2⟩
  have HO1' := Lib.hid (own_new HO1.out hN2)
  have HO2 := Lib.hid hO2
  have HN2 := Lib.hid (HN1.out.then_new hN2)
  clear hO2 hN2
  have HB : Hid (∀ (wx : World) (b : Nat), New w2 wx → Has wx b 22 #[.slice A1 32 c1, .slice A2 32 c2] → Calls Try.prog 42 #[.slice (some ⟨b, 0, none⟩) 2 2] wx fun e w' => ∃ A c, e = .returned (.slice A 64 c) ∧ w'.ownsRow w.heap.size 5 1 (.slice A 64 c) 64 ((bodyI B s).map bV) ∧ New w w') := by
    intro wx b hx hb
    have l1 : (sec B (3 + 2 * s)).length = 32 := sec_len HC.out.len (by omega)
    have l2 : (sec B (4 + 2 * s)).length = 32 := sec_len HC.out.len (by omega)
    have hfl : [sec B (3 + 2 * s), sec B (4 + 2 * s)].flatten = bodyI B s := by simp [bodyI]
    have hbl : (bodyI B s).length = 64 := by unfold bodyI; rw [List.length_append, l1, l2]
    refine (Concat_any (some ⟨b, 0, none⟩) 2 2 _ [sec B (3 + 2 * s), sec B (4 + 2 * s)] wx (Lists.two hb (Byts.own_any HO1'.out hx (sec_small HC.out.small) (by omega)) (Byts.own_any HO2.out hx (sec_small HC.out.small) (by omega))) (fun k hk => by rcases hk with hk | hk; exact hk; rw [hk]; exact hb.lt) rfl (by omega) (by rw [hfl, hbl]; omega)).mono ?_
    rintro e w' ⟨A, m, c, rfl, hm, hO, hN⟩
    rw [hfl] at hm hO
    obtain rfl : m = 64 := hm.trans hbl
    exact ⟨A, c, rfl, own_base hO (fun k hk => Nat.le_trans (Nat.le_trans HN2.out.size hx.size) (hO.lt k hk).1), (HN2.out.then_new hx).then_new hN⟩
  clear f1
  go_wp2_with fail
  with_reducible refine (HB.out _ _ ((Chg.refl _ _).alloc _) (Has.new w2 22 _)).mono ?_
  rintro e w3 ⟨A3, c3, rfl, hO3, hN3⟩
  have HO3 := Lib.hid hO3
  have HN3 := Lib.hid hN3
  clear hO3 hN3
  go_wp2_with fail
  go_ret2
  exact ⟨A3, c3, rfl, HO3.out, HN3.out⟩
set_option maxRecDepth 100000 in
set_option maxHeartbeats 2000000 in
theorem Body_out (g : Nat) (s : Int) (w : World) (hs : ¬ (0 ≤ s ∧ s ≤ 5)) :
    Calls Try.prog 13 #[.pointer (some ⟨g, 0, none⟩), .int .i64 s] w fun e w' => e = .returned (.tuple #[.slice none 0 0, .int .i64 2]) ∧ w' = w := by
  have ht : decide (0 ≤ s ∧ s ≤ 5) = false := decide_eq_false hs
  clear hs
  go_enter Try.func13, Try.ntmps13
  go_wp2_with fail
  with_reducible refine (rightSlot_any s w).mono ?_
  rintro e w1 ⟨rfl, hw⟩
  obtain rfl : w = w1 := hw.symm
  clear hw
  rw [ht]
  go_wp2_with fail
  go_ret2
  exact ⟨rfl, rfl⟩
set_option maxRecDepth 100000 in
set_option maxHeartbeats 1000000 in
theorem CloneE_any (A : Option Addr) (n c : Nat) (F : Nat → Prop) (l : List En) (w : World) (hE : Ents w F A l) (hF : ∀ k, F k → k < w.heap.size) (hl : l.length = n) (hnil : A = none → n = 0 ∧ c = 0) (hn : n ≤ 1000) :
    Calls Try.prog 74 #[.slice A n c] w fun e w' => ∃ A' c', e = .returned (.slice A' n c') ∧ w'.ownsRow w.heap.size 60 4 (.slice A' n c') n (enRow l) ∧ New w w' := by
  obtain ⟨i0, hi, hz0, hz1, hz2⟩ := info_parts Try.info60
  have HE := Lib.hid hE; clear hE
  have HF := Lib.hid hF; clear hF
  have Hl := Lib.hid hl; clear hl
  have hnl := fun w => Lib.run_eql_slice_nil (P := Try.prog) w 28 60 A n c 0 0 Try.underlying28
  cases A with
  | none =>
    obtain ⟨rfl, rfl⟩ := hnil rfl
    have Hl0 : Hid (l = []) := List.eq_nil_of_length_eq_zero Hl.out
    go_enter Try.func74, Try.ntmps74
    go_wp2_with fail
    go_ret
    rw [Hl0.out]
    exact ⟨_, _, rfl, World.ownsRow_nil _ _ _ _, Chg.refl _ _⟩
  | some ad =>
    have Hnil := Lib.hid hnil; clear hnil
    go_enter Try.func74, Try.ntmps74
    go_wp2_with (at_builtin; refine wpList_append_src rfl _ _ 28 rfl w.heap.size 60 i0 (.agg #[.int .i64 0, .int .i64 0, .int .i64 0, .int .i64 0]) 4 32 Try.underlying28 hi hz0 hz1 hz2 rfl (by decide) _ 0 [] rfl (own_emptyE (Has.new w 60 _) (Nat.le_refl _)) (some ad) n c (enRow l) rfl Hnil.out (by rw [enRow_len, Hl.out]) ((HE.out.new ((Chg.refl _ _).alloc _) HF.out).news) (enRow_one l) (by simp only [maxLen]; omega) (by omega) (by simp) ?_)
    intro A3 c3 w3 hO3 hC3 _
    have HO3 := Lib.hid hO3
    have HN3 : Hid (New w w3) := ((Chg.refl _ _).alloc _).trans hC3 (fun i hi h => by simp [Value.ownBlock] at h; omega)
    clear hO3 hC3
    go_wp2_with fail
    go_ret
    exact ⟨A3, c3, rfl, HO3.out, HN3.out⟩
set_option maxRecDepth 100000 in
set_option maxHeartbeats 1000000 in
theorem GrowE_nil (n : Nat) (w : World) (hn : n ≤ 1000) :
    Calls Try.prog 73 #[.slice none 0 0, .int .i64 n] w fun e w' => ∃ A c, e = .returned (.slice A 0 c) ∧ w'.ownsRow w.heap.size 60 4 (.slice A 0 c) 0 [] ∧ New w w' := by
  obtain ⟨i0, hi, hz0, hz1, hz2⟩ := info_parts Try.info60
  rcases Nat.eq_zero_or_pos n with rfl | h0
  · go_enter Try.func73, Try.ntmps73
    go_wp2
    go_ret
    exact ⟨none, 0, rfl, World.ownsRow_nil _ _ _ _, Chg.refl _ _⟩
  · have h1 : decide ((0 : Int) < n) = true := by simp only [decide_eq_true_eq]; omega
    go_enter Try.func73, Try.ntmps73
    go_wp2_with (first | (at_builtin; refine wpList_append_zeros rfl _ _ 28 3 rfl 60 .i64 i0 (.agg #[.int .i64 0, .int .i64 0, .int .i64 0, .int .i64 0]) Try.underlying28 Try.underlying3 hi hz0 (by rw [hz1]; rfl) (by rw [hz1]; decide) rfl n rfl h0 (by simp only [maxLen]; omega) (by rw [hz2]; omega) ?_; intro c cur hnc hcm hcs; have Hcs := Lib.hid hcs; clear hcs) | go_in)
    go_ret
    refine ⟨_, c, rfl, World.ownsRow_made (base := w.heap.size) (e := 60) (size := 4) w cur c (Nat.le_refl _) hcm (by rw [Hcs.out, hz1]), ((Chg.refl _ _).alloc _).drew⟩
/-- rows of entries laid in a row -/
def ListsE (w : World) (F : Nat → Prop) (A : Option Addr) (L : List (List En)) : Prop := ∃ vs : Nat → Value, Arr w F A L.length vs ∧ ∀ i, i < L.length → ∃ B c, vs i = .slice B (L.getD i []).length c ∧ Ents w F B (L.getD i []) ∧ (B = none → (L.getD i []).length = 0 ∧ c = 0)
theorem flatE_take (L : List (List En)) (i : Nat) (h : i < L.length) : (L.take (i + 1)).flatten = (L.take i).flatten ++ L.getD i [] := by
  rw [List.take_add_one, List.flatten_append, List.getElem?_eq_getElem h, List.getD_eq_getElem?_getD, List.getElem?_eq_getElem h]
  simp
theorem flatE_len_le (L : List (List En)) (k : Nat) : (L.take k).flatten.length ≤ L.flatten.length := by
  have := congrArg List.length (congrArg List.flatten (List.take_append_drop k L))
  rw [List.flatten_append, List.length_append] at this
  omega
theorem enRow_append (a b : List En) : enRow (a ++ b) = enRow a ++ enRow b := by simp [enRow]
set_option maxRecDepth 100000 in
set_option maxHeartbeats 2000000 in
theorem ConcatE_any (A : Option Addr) (n c : Nat) (F : Nat → Prop) (L : List (List En)) (w : World) (hA : ListsE w F A L) (hF : ∀ k, F k → k < w.heap.size) (hn : L.length = n) (hb : n ≤ 1000) (hT : L.flatten.length ≤ 1000) :
    Calls Try.prog 55 #[.slice A n c] w fun e w' => ∃ A' m c', e = .returned (.slice A' m c') ∧ m = L.flatten.length ∧ w'.ownsRow w.heap.size 60 4 (.slice A' m c') m (enRow L.flatten) ∧ New w w' := by
  obtain ⟨i0, hi, hz0, hz1, hz2⟩ := info_parts Try.info60
  obtain ⟨vs, hV, hB⟩ := hA
  rw [hn] at hV hB
  have HV := Lib.hid hV; clear hV
  have HB := Lib.hid hB; clear hB
  have Hn := Lib.hid hn; clear hn
  have HF := Lib.hid hF; clear hF
  have HT := Lib.hid hT; clear hT
  go_enter Try.func55, Try.ntmps55
  go_wp2_with fail
  go_loopg [3, 11] n (fun gk a i wr => ∃ k : Nat, k ≤ n ∧ gk = n - k ∧ a = .int .i64 ((L.take k).flatten.length : Nat) ∧ i = .int .i64 k ∧ w = wr)
  case atStart => exact ⟨0, by omega, by omega, rfl, rfl, rfl⟩
  case round =>
    obtain ⟨k, hk, rfl, rfl, rfl, rfl⟩ := hrel
    by_cases hlt : k < n
    · obtain ⟨a, rfl, _, hc⟩ := HV.out k hlt
      obtain ⟨B, cb, hve, hBA, hnil⟩ := HB.out k hlt
      rw [hve] at hc
      have HFl : Hid ((L.take (k + 1)).flatten.length = (L.take k).flatten.length + (L.getD k []).length) := by
        rw [Hid, flatE_take L k (by rw [Hn.out]; exact hlt), List.length_append]
      have hle : (L.take (k + 1)).flatten.length ≤ 1000 := Nat.le_trans (flatE_len_le L (k + 1)) HT.out
      rw [HFl.out] at hle
      obtain ⟨m, hm⟩ : ∃ m, m = (L.getD k []).length := ⟨_, rfl⟩
      obtain ⟨q, hq⟩ : ∃ q, q = (L.take k).flatten.length := ⟨_, rfl⟩
      rw [← hm] at hc HFl hle
      rw [← hq] at HFl hle ⊢
      clear hm hq hBA hve hnil
      go_wp2
      go_roundg (n - (k + 1))
      case measure => omega
      case rel => exact ⟨k + 1, by omega, rfl, by rw [HFl.out]; go_num, by go_num, rfl⟩
    · obtain rfl : k = n := by omega
      have hall : L.take k = L := List.take_of_length_le (by rw [Hn.out]; omega)
      rw [hall]
      clear hall
      have hT := HT.out
      obtain ⟨T, hTe⟩ : ∃ T, T = L.flatten.length := ⟨_, rfl⟩
      rw [← hTe] at hT ⊢
      have HTe := Lib.hid hTe; clear hTe
      go_wp2_with fail
      with_reducible refine (GrowE_nil T w hT).mono ?_
      rintro e w1 ⟨A1, c1, rfl, hO1, hN1⟩
      have HO1 := Lib.hid hO1; clear hO1
      have HN1 := Lib.hid hN1; clear hN1
      go_wp2_with fail
      go_loopg [6, 27] k (fun gk a i wy => ∃ (j : Nat) (A2 : Option Addr) (m c2 : Nat), j ≤ k ∧ gk = k - j ∧ a = .slice A2 m c2 ∧ m = (L.take j).flatten.length ∧ i = .int .i64 j ∧ wy.ownsRow w.heap.size 60 4 (.slice A2 m c2) m (enRow (L.take j).flatten) ∧ New w wy)
      case atStart => exact ⟨0, _, 0, _, by omega, by omega, rfl, rfl, rfl, HO1.out, HN1.out⟩
      case round =>
        obtain ⟨j, A2, m, c2, hj, rfl, rfl, hm, rfl, hO, hN⟩ := hrel
        by_cases hlt : j < k
        · obtain ⟨a, rfl, hab, hc⟩ := HV.out.new hN HF.out j hlt
          obtain ⟨B, cb, hve, hBA, hnil⟩ := HB.out j hlt
          rw [hve] at hc
          have HFl : Hid ((L.take (j + 1)).flatten = (L.take j).flatten ++ L.getD j []) := flatE_take L j (by rw [Hn.out]; exact hlt)
          have hle : (L.take (j + 1)).flatten.length ≤ 1000 := Nat.le_trans (flatE_len_le L (j + 1)) HT.out
          rw [HFl.out, List.length_append, ← hm] at hle
          obtain ⟨bs, hbs⟩ : ∃ bs, bs = L.getD j [] := ⟨_, rfl⟩
          rw [← hbs] at hc hBA HFl hle hnil
          clear hbs hve
          obtain ⟨p, hp⟩ : ∃ p, p = bs.length := ⟨_, rfl⟩
          rw [← hp] at hc hle hnil
          have Hp := Lib.hid hp; clear hp
          have HNil := Lib.hid hnil; clear hnil
          have HBA := Lib.hid (hBA.new hN HF.out); clear hBA
          have Hm := Lib.hid hm; clear hm
          have HO := Lib.hid hO; clear hO
          have HN := Lib.hid hN; clear hN
          clear HO1 HN1
          go_wp2_with (first | (at_builtin; refine wpList_append_src rfl _ _ 28 rfl w.heap.size 60 i0 (.agg #[.int .i64 0, .int .i64 0, .int .i64 0, .int .i64 0]) 4 32 Try.underlying28 hi hz0 hz1 hz2 rfl (by decide) _ m _ rfl HO.out B p cb (enRow bs) rfl HNil.out (by rw [enRow_len, Hp.out]) HBA.out.news (enRow_one bs) (by simp only [maxLen]; omega) (by omega) HN.out.size ?_; intro A3 c3 w3 hO3 hC3 hf3; have HO3 := Lib.hid hO3; have HC3 := Lib.hid hC3; clear hO3 hC3 hf3) | go_in)
          go_roundg (k - (j + 1))
          case measure => omega
          case rel =>
            refine ⟨j + 1, A3, m + p, c3, by omega, rfl, rfl, ?_, by go_num, ?_, ?_⟩
            · rw [HFl.out, List.length_append, Hm.out, Hp.out]
            · rw [HFl.out, enRow_append]; exact HO3.out
            · exact HN.out.trans HC3.out (fun i hi hk => by have := (HO.out.lt i hk).1; omega)
        · obtain rfl : j = k := by omega
          have hall : L.take j = L := List.take_of_length_le (by rw [Hn.out]; omega)
          rw [hall] at hm hO
          have Hm := Lib.hid hm; clear hm
          have HO := Lib.hid hO; clear hO
          have HN := Lib.hid hN; clear hN
          clear hall HO1 HN1
          go_wp2
          go_ret
          exact ⟨A2, m, c2, rfl, Hm.out, HO.out, HN.out⟩
end Go.Proofs.Ytjkpijinpfimiaa
