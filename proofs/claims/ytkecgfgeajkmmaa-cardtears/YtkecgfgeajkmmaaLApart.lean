/-
  What the law CardApart does: it returns true and turns nothing that was there.
-/
import Derived.Test.YtkecgfgeajkmmaaAwake
namespace Go.Proofs.Ytkecgfgeajkmmaa
open Go.RowKit
/-- a Write with unlimited power is good just if the sector is there and the bytes are as many as it has -/
theorem wE_free (i : Int) (m : Nat) (p : Int) (hp : p ≠ 0) : wE i m p = 0 ↔ (0 ≤ i ∧ i < 16) ∧ m = 32 := by
  unfold wE
  by_cases h : 0 ≤ i ∧ i < 16
  · rw [if_pos h]
    by_cases hs : szE m 32 = 0
    · rw [if_pos hs, if_neg hp]
      exact ⟨fun _ => ⟨h, szE_zero hs⟩, fun _ => rfl⟩
    · rw [if_neg hs]
      exact ⟨fun k => absurd k hs, fun k => by rw [k.2]; exact szE_same 32⟩
  · rw [if_neg h]
    exact ⟨fun k => (by cases k), fun k => absurd k.1 h⟩
theorem lB_same {B bs : List Nat} (h : bs.length = 512) : lB B bs = bs := by unfold lB; rw [h, szE_same, if_pos rfl]
theorem slice_row (a k : Nat) (hk : k < 16) (w : World) : (Instr.slice 28 (.slice (some ⟨a, 0, none⟩) 512 512) (some (.int .i64 (32 * (k : Int)))) (some (.int .i64 (32 * (k : Int) + 32))) none).run Try.prog w = .ok (.slice (some ⟨a, 32 * k, none⟩) 32 (512 - 32 * k)) w := by
  have he : Try.prog.elem 28 = 5 := by kernel_rfl
  rw [run_slice_lh w 28 (some ⟨a, 0, none⟩) 512 512 (by rw [he]; exact Try.underlying28) .i64 .i64 _ _ (by omega) (by omega) (by omega), he, Try.size5, Result.andThen_ok]
  have e1 : (32 * (k : Int)).toNat = 32 * k := by omega
  have e2 : (32 * (k : Int) + 32).toNat = 32 * k + 32 := by omega
  have hadd : (⟨a, 0, none⟩ : Addr).add (32 * k * 1) = ⟨a, 32 * k, none⟩ := by unfold Addr.add; split <;> simp_all
  unfold sliced
  rw [e1, e2, if_neg (by omega), Option.map_some, hadd]
  congr 2
  omega
theorem Row.part {w : World} {g k : Nat} {B : List Nat} (h : Row w g B) (hB : B.length = 512) (hk : k < 16) : Arr w (· = g) (some ⟨g, 32 * k, none⟩) 32 (fun i => bV ((sec B k).getD i 0)) := by
  intro i hi
  refine ⟨_, rfl, rfl, ?_⟩
  have hadd : (⟨g, 32 * k, none⟩ : Addr).add i = ⟨g, 32 * k + i, none⟩ := by unfold Addr.add; split <;> simp_all
  have hl : 32 * k + i < B.length := by omega
  rw [hadd, Has.cell h]
  simp [sec, hl, hi]
set_option maxRecDepth 100000 in
set_option maxHeartbeats 4000000 in
theorem apart_walk (A : Option Addr) (n c : Nat) (i : Int) (A2 : Option Addr) (m c2 : Nat) (bs cs : List Nat) (w : World)
    (hA : Arr w (· < w.heap.size) A n (fun i => bV (bs.getD i 0))) (hl : bs.length = n) (h256 : ∀ x ∈ bs, x < 256)
    (hA2 : Arr w (· < w.heap.size) A2 m (fun i => bV (cs.getD i 0))) (hl2 : cs.length = m) (k256 : ∀ x ∈ cs, x < 256) (hnil : A2 = none → m = 0 ∧ c2 = 0) (hm : m ≤ 140737488351232) (_hi : -9223372036854775808 ≤ i ∧ i ≤ 9223372036854775807) :
    Calls Try.prog 6 #[.slice A n c, .int .i64 i, .slice A2 m c2] w fun e w' => e = .returned (.bool true) ∧ New w w' := by
  have HA := Lib.hid hA; clear hA
  have HA2 := Lib.hid hA2; clear hA2
  have Hl := Lib.hid hl; clear hl
  have Hl2 := Lib.hid hl2; clear hl2
  have H256 := Lib.hid h256; clear h256
  have K256 := Lib.hid k256; clear k256
  have Hnil := Lib.hid hnil; clear hnil
  go_enter Try.func6, Try.ntmps6
  go_wp2_with fail
  with_reducible refine (awake_any _).mono ?_
  rintro e w1 ⟨rfl, hN1⟩
  have HN1 := Lib.hid hN1; clear hN1
  go_wp2_with fail
  with_reducible refine (NewC w1).mono ?_
  rintro e w2 ⟨g, rfl, Hg, hC2, hN2⟩
  have HC2 := Lib.hid hC2; clear hC2
  have HN2 := Lib.hid (HN1.out.then_new hN2); clear hN2
  go_wp2_with (at_make; refine wpList_make_row rfl _ _ rfl 512 512 rfl rfl rfl (by omega) ?_)
  intro a w3 Ha hR3 hN3
  have HR3 := Lib.hid hR3; clear hR3
  have HC3 := Lib.hid (HC2.out.new hN3)
  have Hne : Hid (a ≠ g) := HR3.out.apart HC3.out
  have HN3 := Lib.hid (HN2.out.then_new hN3); clear hN3
  have HA3 := Lib.hid (HA.out.new HN3.out (fun _ h => h))
  go_wp2_with (refine wpList_copy_pad rfl _ _ rfl a 512 rfl A n c rfl HR3.out _ bs HA3.out Hl.out ?_)
  intro w4 hR4 hG4
  have HR4 := Lib.hid hR4; clear hR4
  have HC4 := Lib.hid (HC3.out.chg hG4 (fun h => Hne.out h.symm))
  have HN4 : Hid (New w w4) := HN3.out.trans hG4 (fun i hi h => by have := Ha.out; have := HN2.out.size; omega)
  clear hG4
  obtain ⟨P, hP⟩ : ∃ P, P = pad 512 bs := ⟨_, rfl⟩
  have HPl : Hid (P.length = 512) := by rw [hP]; exact pad_len 512 bs
  have HPs : Hid (∀ x ∈ P, x < 256) := by rw [hP]; exact pad_small 512 bs H256.out
  rw [← hP] at HR4
  clear hP
  go_wp2_with fail
  with_reducible refine (Load_any g _ P _ (some ⟨a, 0, none⟩) 512 512 _ w4 HC4.out (HR4.out.arr HPl.out) HPl.out HPs.out).mono ?_
  rintro e w5 ⟨rfl, hC5, hG5⟩
  rw [lB_same HPl.out] at hC5
  rw [szE_same]
  have HC5 := Lib.hid hC5; clear hC5
  have HR5 := Lib.hid (HR4.out.chg hG5 Hne.out)
  have HN5 : Hid (New w w5) := HN4.out.trans hG5 (fun i hi h => by have := Hg.out; have := HN1.out.size; omega)
  clear hG5
  have HA5 := Lib.hid (HA2.out.new HN5.out (fun _ h => h))
  go_wp2_with (at_builtin; refine wpList_copy rfl _ _ rfl rfl A2 m c2 cs _ rfl HA5.out (fun k hk => Nat.lt_of_lt_of_le hk HN5.out.size) Hl2.out Hnil.out (by omega) ?_; intro A6 c6 w6 hO6 hN6; have HO6 := Lib.hid hO6; have HN6 := Lib.hid hN6; clear hO6 hN6)
  have HC6 := Lib.hid (HC5.out.new HN6.out)
  have HR6 := Lib.hid (HR5.out.new HN6.out)
  have HN6' := Lib.hid (HN5.out.then_new HN6.out)
  with_reducible refine (Write_any g i _ cs _ A6 m c6 _ w6 HC6.out (own_arr_bs Hl2.out HO6.out) (fun k hk => ⟨fun h => by have := (HO6.out.lt k hk).1; have := HC5.out.lt; omega, (HO6.out.lt k hk).2⟩) Hl2.out K256.out).mono ?_
  rintro e w7 ⟨rfl, hC7, hG7⟩
  have HC7 := Lib.hid hC7; clear hC7
  have HR7 := Lib.hid (HR6.out.chg hG7 Hne.out)
  have HN7 : Hid (New w w7) := HN6'.out.trans hG7 (fun i hi h => by have := Hg.out; have := HN1.out.size; omega)
  clear hG7 HN6' HR6 HC6 HO6 HN6 HA5 HC5 HR5 HN5 HC4 HR4 HN4 HA3 HN3 HC3 HR3 HN2 HC2
  have HE := Lib.hid (wE_free i m (-1) (by omega))
  obtain ⟨E, hE⟩ : ∃ E, E = wE i m (-1) := ⟨_, rfl⟩
  have HS : Hid (∀ k : Nat, k < 16 → sec (wB P cs i (-1)) k = if E = 0 ∧ (k : Int) = i then cs else sec P k) := by
    intro k hk
    unfold wB
    rw [Hl2.out, ← hE]
    by_cases h0 : E = 0
    · rw [if_pos h0]
      have hq := HE.out.1 (by rw [← hE]; exact h0)
      by_cases hki : (k : Int) = i
      · rw [if_pos ⟨h0, hki⟩]
        subst hki
        rw [Int.toNat_natCast]
        exact sec_same HPl.out hk (by rw [Hl2.out]; exact hq.2)
      · rw [if_neg (fun h => hki h.2)]
        exact sec_other HPl.out (by omega) (by rw [Hl2.out]; exact hq.2) (by omega)
    · rw [if_neg h0, if_neg (fun h => h0 h.1)]
  rw [← hE] at HE ⊢
  obtain ⟨q, hq⟩ : ∃ q, q = wP m i (-1) := ⟨_, rfl⟩
  obtain ⟨B, hB⟩ : ∃ B, B = wB P cs i (-1) := ⟨_, rfl⟩
  rw [← hq, ← hB] at HC7
  rw [← hB] at HS
  clear hq hB hE
  go_wp2_with fail
  go_loopg [10] 16 (fun gk x wr => ∃ k : Nat, k ≤ 16 ∧ gk = 16 - k ∧ x = .int .i64 k ∧ Cd wr g B q ∧ Row wr a P ∧ New w wr)
  case atStart => exact ⟨0, by omega, by omega, rfl, HC7.out, HR7.out, HN7.out⟩
  case round =>
    clear HC7 HR7 HN7
    obtain ⟨k, hk, rfl, rfl, hC, hR, hN⟩ := hrel
    have HC := Lib.hid hC; clear hC
    have HR := Lib.hid hR; clear hR
    have HN := Lib.hid hN; clear hN
    by_cases hlt : k < 16
    · go_wp2_with fail
      with_reducible refine (Read_in g k B q wr HC.out hlt).mono ?_
      rintro e w8 ⟨A8, c8, rfl, hO8, hN8⟩
      have hsx := own_str hO8
      have HR8 := Lib.hid (HR.out.new hN8)
      have HC8 := Lib.hid (HC.out.new hN8)
      have HN8 := Lib.hid (HN.out.then_new hN8)
      have hsl := fun w => slice_row a k hlt w
      have hsp : (convert 28 9 (.slice (some ⟨a, 32 * k, none⟩) 32 (512 - 32 * k))).run Try.prog w8 = .ok (.string (bstr (sec P k))) w8 :=
        arr_string Try.underlying28 Try.underlying5 Try.underlying9 (HR8.out.part HPl.out hlt) (sec_len HPl.out hlt) (sec_small HPs.out) (fun h => by cases h)
      have hsb : (convert 28 9 (.slice A2 m c2)).run Try.prog w8 = .ok (.string (bstr cs)) w8 :=
        arr_string Try.underlying28 Try.underlying5 Try.underlying9 (HA2.out.new HN8.out (fun _ h => h)) Hl2.out K256.out Hnil.out
      rw [HS.out k hlt] at hsx
      clear hO8 hN8
      by_cases h0 : E = 0 ∧ (k : Int) = i
      case' pos =>
        rw [if_pos h0] at hsx
        obtain ⟨rfl, rfl⟩ := h0
        go_wp2_with fail
      case' neg =>
        rw [if_neg h0] at hsx
        by_cases hE : E = 0
        case' pos =>
          have t : ((k : Int) == i) = false := by simpa using fun h => h0 ⟨hE, h⟩
          clear h0
          subst hE
          go_wp2_with fail
        case' neg =>
          have t : (E == 0) = false := by simpa using hE
          clear h0 hE
          go_wp2_with fail
      all_goals
        go_roundg (16 - (k + 1))
        case measure => omega
        case rel => exact ⟨k + 1, by omega, rfl, by go_num, HC8.out, HR8.out, HN8.out⟩
    · obtain rfl : k = 16 := by omega
      clear HS
      have hE := HE.out
      clear HE hlt
      have hall : ((E == 0) = true ∧ decide (0 ≤ i) = true ∧ decide (i < 16) = true ∧ m = 32) ∨ ((E == 0) = false ∧ decide (0 ≤ i) = false) ∨ ((E == 0) = false ∧ decide (0 ≤ i) = true ∧ decide (i < 16) = false) ∨ ((E == 0) = false ∧ decide (0 ≤ i) = true ∧ decide (i < 16) = true ∧ ((m : Int) == 32) = false) := by
        simp only [beq_iff_eq, beq_eq_false_iff_ne, decide_eq_true_eq, decide_eq_false_iff_not, ne_eq]
        omega
      clear hE
      rcases hall with ⟨t, t0, t1, rfl⟩ | ⟨t, t0⟩ | ⟨t, t0, t1⟩ | ⟨t, t0, t1, t2⟩
      · go_wp2_with fail
        go_ret
        exact ⟨by simp, HN.out⟩
      · go_wp2_with fail
        go_ret
        exact ⟨by simp, HN.out⟩
      · go_wp2_with fail
        go_ret
        exact ⟨by simp, HN.out⟩
      · go_wp2_with fail
        go_ret
        exact ⟨by simp, HN.out⟩
theorem apart_law {w : World} (A : Option Addr) (n c : Nat) (z : (∃ bs : List Nat, bs.length = n ∧ Arr w (· < w.heap.size) A n (fun i => bV (bs.getD i 0)) ∧ (∀ x ∈ bs, x < 256) ∧ n ≤ c ∧ c ≤ maxLen ∧ (A = none → n = 0 ∧ c = 0)) ∧ n ≤ 140737488351232) (i : Int) (wf : (Lit.int .i64 i).wf = true)
    (A2 : Option Addr) (m c2 : Nat) (z2 : (∃ bs : List Nat, bs.length = m ∧ Arr w (· < w.heap.size) A2 m (fun i => bV (bs.getD i 0)) ∧ (∀ x ∈ bs, x < 256) ∧ m ≤ c2 ∧ c2 ≤ maxLen ∧ (A2 = none → m = 0 ∧ c2 = 0)) ∧ m ≤ 140737488351232) :
    Calls Try.prog 6 #[.slice A n c, .int .i64 i, .slice A2 m c2] w fun e w' => e = .returned (.bool true) ∧ New w w' := by
  obtain ⟨⟨bs, hl, hA, h256, _, _, _⟩, _⟩ := z
  obtain ⟨⟨cs, hl2, hA2, k256, _, _, hnil⟩, hm⟩ := z2
  exact apart_walk A n c i A2 m c2 bs cs w hA hl h256 hA2 hl2 k256 hnil hm (i64_wf wf)
end Go.Proofs.Ytkecgfgeajkmmaa
