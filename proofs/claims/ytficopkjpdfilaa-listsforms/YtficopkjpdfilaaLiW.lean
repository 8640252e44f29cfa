/-
  The document's Get.
-/
import Derived.Test.YtficopkjpdfilaaLiV
import Derived.Test.YtficopkjpdfilaaLiQ
namespace Go.Proofs.Ytficopkjpdfilaa
open Go.RowKit
theorem Try.elems56 : Try.prog.elem 56 = 5 := by kernel_rfl
theorem add_zero (a : Addr) : a.add 0 = a := by unfold Addr.add; simp
theorem slice_to (a : Addr) (n c h : Nat) (h2 : h ≤ c) (w : World) : (Instr.slice 56 (.slice (some a) n c) none (some (.int .i64 (h : Int))) none).run Try.prog w = .ok (.slice (some a) h c) w := by
  rw [run_slice_h w 56 (some a) n c (by rw [Try.elems56]; exact Try.underlying56) .i64 _ (by omega) (by omega), Try.elems56, Try.size5, Result.andThen_ok]
  unfold sliced
  rw [Int.toNat_natCast, Option.map_some, Nat.zero_mul, add_zero, Nat.sub_zero, Nat.sub_zero]
  split <;> rfl
theorem slice_cut (a : Addr) (n c l h : Nat) (h1 : l ≤ h) (h2 : h ≤ c) (h3 : l < c) (w : World) : (Instr.slice 56 (.slice (some a) n c) (some (.int .i64 (l : Int))) (some (.int .i64 (h : Int))) none).run Try.prog w = .ok (.slice (some (a.add l)) (h - l) (c - l)) w := by
  rw [run_slice_lh w 56 (some a) n c (by rw [Try.elems56]; exact Try.underlying56) .i64 .i64 _ _ (by omega) (by omega) (by omega), Try.elems56, Try.size5, Result.andThen_ok]
  unfold sliced
  rw [Int.toNat_natCast, Int.toNat_natCast, if_neg (by omega), Option.map_some, Nat.mul_one]
theorem slice_from (a : Addr) (n c l : Nat) (h1 : l ≤ n) (h3 : l < c) (w : World) : (Instr.slice 56 (.slice (some a) n c) (some (.int .i64 (l : Int))) none none).run Try.prog w = .ok (.slice (some (a.add l)) (n - l) (c - l)) w := by
  rw [run_slice_l w 56 (some a) n c (by rw [Try.elems56]; exact Try.underlying56) .i64 _ (by omega) (by omega), Try.elems56, Try.size5, Result.andThen_ok]
  unfold sliced
  rw [Int.toNat_natCast, if_neg (by omega), Option.map_some, Nat.mul_one]
theorem add_add (a : Addr) (l i : Nat) : (a.add l).add i = a.add (l + i) := by
  unfold Addr.add
  by_cases hl : l = 0
  · subst hl; simp
  · by_cases hi : i = 0
    · subst hi; simp
    · rw [if_neg hl, if_neg hi, if_neg (by omega)]
      simp [Nat.add_assoc]
theorem Arr.cut {w : World} {F : Nat → Prop} {a : Addr} {n l m : Nat} {bs : List Nat} (h : Arr w F (some a) n (fun i => bV (bs.getD i 0))) (hm : l + m ≤ n) : Arr w F (some (a.add l)) m (fun i => bV (((bs.drop l).take m).getD i 0)) := by
  intro i hi
  obtain ⟨a', ha, hF, hc⟩ := h (l + i) (by omega)
  cases ha
  refine ⟨_, rfl, by rw [add_block]; exact hF, ?_⟩
  rw [add_add, hc]
  exact congrArg (fun x => some (bV x)) (by rw [List.getD_eq_getElem?_getD, List.getD_eq_getElem?_getD, List.getElem?_take_of_lt hi, List.getElem?_drop])
theorem Try.elems26 : Try.prog.elem 26 = 44 := by kernel_rfl
theorem Try.sizeIt (w : World) : (sizeOf 44).run Try.prog w = .ok 5 w := by
  obtain ⟨i, hi, hs⟩ := Option.map_eq_some_iff.1 (show (Try.prog.info? 44).map (·.size) = some 5 by kernel_rfl)
  simp [sizeOf, typeInfo, hi, hs]
theorem sliceI_to (a : Addr) (n c h : Nat) (h2 : h ≤ c) (w : World) : (Instr.slice 26 (.slice (some a) n c) none (some (.int .i64 (h : Int))) none).run Try.prog w = .ok (.slice (some a) h c) w := by
  rw [run_slice_h w 26 (some a) n c (by rw [Try.elems26]; exact Try.underlying26) .i64 _ (by omega) (by omega), Try.elems26, Try.sizeIt, Result.andThen_ok]
  unfold sliced
  rw [Int.toNat_natCast, Option.map_some, Nat.zero_mul, add_zero, Nat.sub_zero, Nat.sub_zero]
  split <;> rfl
/-- 'l[k:]' -/
theorem sliceI_behind (a : Addr) (n c k : Nat) (h1 : k ≤ n) (hc : n ≤ c) : ∃ a2 : Addr, (∀ w, (Instr.slice 26 (.slice (some a) n c) (some (.int .i64 (k : Int))) none none).run Try.prog w = .ok (.slice (some a2) (n - k) (c - k)) w) ∧ ∀ (w : World) (F : Nat → Prop) (l : List It), l.length = n → Its w F (some a) l → Its w F (some a2) (l.drop k) := by
  by_cases h : k < c
  · refine ⟨a.add (k * 5), fun w => ?_, fun w F l _ hE => ?_⟩
    · rw [run_slice_l w 26 (some a) n c (by rw [Try.elems26]; exact Try.underlying26) .i64 _ (by omega) (by omega), Try.elems26, Try.sizeIt, Result.andThen_ok]
      unfold sliced
      rw [Int.toNat_natCast, if_neg (by omega), Option.map_some]
    · intro j e he
      rw [List.getElem?_drop] at he
      obtain ⟨a', ha, hb, h0, h1, h2, h3, h4⟩ := hE (k + j) e he
      cases ha
      have hadd : (a.add (k * 5)).add (j * 5) = a.add ((k + j) * 5) := by rw [add_add]; congr 1; omega
      refine ⟨_, rfl, by rw [add_block]; exact hb, ?_, ?_, ?_, ?_, ?_⟩ <;> rw [hadd] <;> assumption
  · refine ⟨a, fun w => ?_, fun w F l hl hE => ?_⟩
    · rw [run_slice_l w 26 (some a) n c (by rw [Try.elems26]; exact Try.underlying26) .i64 _ (by omega) (by omega), Try.elems26, Try.sizeIt, Result.andThen_ok]
      unfold sliced
      rw [Int.toNat_natCast, if_pos (by omega)]
    · rw [List.drop_of_length_le (by omega)]
      exact Its.empty
theorem sliceI_nil (w : World) : (Instr.slice 26 (.slice none 0 0) none (some (.int .i64 0)) none).run Try.prog w = .ok (.slice none 0 0) w ∧ (Instr.slice 26 (.slice none 0 0) (some (.int .i64 0)) none none).run Try.prog w = .ok (.slice none 0 0) w := by
  constructor <;> kernel_rfl
theorem docnum (bs : List Nat) (a : Addr) (n j n' c' : Nat) (F : Nat → Prop) (w : World) (hA : Arr w F (some a) n (fun i => bV (bs.getD i 0))) (hj : j + 4 ≤ n) (hn' : 4 ≤ n') (hb : n' ≤ 1000000000000000000) (h256 : ∀ x ∈ bs, x < 256) :
    Calls Try.prog 53 #[.slice (some (a.add j)) n' c'] w fun e w' => e = .returned (.int .i64 (num4 bs j : Int)) ∧ New w w' := by
  have e : ∀ k, bs.getD k 0 < 256 := fun k => by
    rw [List.getD_eq_getElem?_getD]
    rcases Nat.lt_or_ge k bs.length with hk | hk
    · rw [List.getElem?_eq_getElem hk]; exact h256 _ (List.getElem_mem hk)
    · rw [List.getElem?_eq_none hk]; decide
  have c : ∀ k, k < 4 → w.cell? ((a.add j).add k) = some (bV (bs.getD (j + k) 0)) := fun k hk => by
    obtain ⟨a', ha, _, hc⟩ := hA (j + k) (by omega)
    cases ha
    rw [add_add]; exact hc
  have c0 := c 0 (by omega)
  rw [add_zero] at c0
  exact num_any _ _ _ _ (e j) (e (j + 1)) (e (j + 2)) (e (j + 3)) (a.add j) n' c' hn' hb w c0 (c 1 (by omega)) (c 2 (by omega)) (c 3 (by omega))
def GetD (w : World) (bs : List Nat) (e : Ending) (w' : World) : Prop :=
  (∃ A1 n1 c1 A2 n2 c2, e = .returned (.tuple #[.agg #[.int .i64 (getT bs), .slice A1 n1 c1, .slice A2 n2 c2], .int .i64 (getE bs)]) ∧ (getA bs).length = n1 ∧ (getO bs).length = n2 ∧ Its w' (· < w'.heap.size) A1 (getA bs) ∧ Its w' (· < w'.heap.size) A2 (getO bs)) ∧ New w w'
theorem GetD.no {w w' : World} {bs : List Nat} {x : Int} (h : getE bs = x) (hx : x ≠ 0) (hN : New w w') : GetD w bs (.returned (.tuple #[.agg #[.int .i64 0, .slice none 0 0, .slice none 0 0], .int .i64 x])) w' := by
  subst h
  refine ⟨⟨none, 0, 0, none, 0, 0, ?_⟩, hN⟩
  unfold getT getA getO
  rw [if_neg hx, if_neg hx, if_neg hx]
  exact ⟨rfl, rfl, rfl, Its.empty, Its.empty⟩
theorem GetD.yes {w w' : World} {bs : List Nat} {n m c1 c2 : Nat} {A1 A2 : Option Addr} {tv : Int} (h : getE bs = 0) (hn : n = bs.getD 4 0) (hm : m = bs.getD 5 0) (ht : tv = (num4 bs 0 : Int)) (h1 : Its w' (· < w'.heap.size) A1 (getIts bs 6 n)) (h2 : Its w' (· < w'.heap.size) A2 (getIts bs (6 + 20 * n) m)) (hN : New w w') : GetD w bs (.returned (.tuple #[.agg #[.int .i64 tv, .slice A1 n c1, .slice A2 m c2], .int .i64 0])) w' := by
  subst hn hm ht
  refine ⟨⟨A1, bs.getD 4 0, c1, A2, bs.getD 5 0, c2, ?_⟩, hN⟩
  unfold getT getA getO
  rw [h, if_pos rfl, if_pos rfl, if_pos rfl, getIts_len, getIts_len]
  exact ⟨rfl, rfl, rfl, h1, h2⟩
theorem getIts_mem (bs : List Nat) (j : Nat) : ∀ (n i : Nat), i < n → getIt bs (j + 20 * i) ∈ getIts bs j n := by
  intro n
  induction n with
  | zero => intro i h; omega
  | succ n ih =>
    intro i h
    simp only [getIts, List.mem_append, List.mem_singleton]
    rcases Nat.lt_or_ge i n with h1 | h1
    · exact Or.inl (ih i h1)
    · obtain rfl : i = n := by omega
      exact Or.inr rfl
theorem get_bad {bs : List Nat} {i n : Nat} (h : i < n) (hx : layB (getIt bs (6 + 20 * i)) = false) : (getIts bs 6 n).all layB = false := by
  rw [List.all_eq_false]
  exact ⟨_, getIts_mem bs 6 n i h, by rw [hx]; decide⟩
theorem getIts_drop (bs : List Nat) (n m : Nat) : (getIts bs 6 (n + m)).take n = getIts bs 6 n ∧ (getIts bs 6 (n + m)).drop n = getIts bs (6 + 20 * n) m := by
  rw [getIts_add]
  exact ⟨by rw [List.take_append_of_le_length (by rw [getIts_len]; omega), List.take_of_length_le (by rw [getIts_len]; omega)], by rw [List.drop_append_of_le_length (by rw [getIts_len]; omega), List.drop_of_length_le (by rw [getIts_len]; omega), List.nil_append]⟩
theorem Its.take {w : World} {F : Nat → Prop} {A : Option Addr} {l : List It} (h : Its w F A l) (n : Nat) : Its w F A (l.take n) := fun j x hj => by
  rw [List.getElem?_take] at hj
  split at hj
  · exact h j x hj
  · cases hj
theorem get_tests {tn an on : Nat} : (inB 1 2147483647 [(tn : Int)] = true ↔ ¬ ((tn : Int) < 1) ∧ ¬ (2147483647 < (tn : Int))) ∧ (inB 0 64 [(an : Int), (on : Int)] = true ↔ ¬ (64 < (an : Int)) ∧ ¬ (64 < (on : Int))) := by
  constructor
  · simp [inB]
  · simp [inB]
theorem bool_no {b : Bool} {P : Prop} (h : b = true ↔ P) (hP : ¬ P) : b = false := by
  cases hb : b with
  | false => rfl
  | true => exact absurd (h.1 hb) hP
set_option maxRecDepth 100000 in
set_option maxHeartbeats 16000000 in
theorem docGet_any (bs : List Nat) (A : Option Addr) (n c : Nat) (F : Nat → Prop) (w : World) (hA : Arr w F A n (fun i => bV (bs.getD i 0))) (hF : ∀ k, F k → k < w.heap.size) (hlen : bs.length = n) (hc : n ≤ c) (hb : n ≤ 140737488351232) (h256 : ∀ x ∈ bs, x < 256) :
    Calls Try.prog 24 #[.slice A n c] w fun e w' => GetD w bs e w' := by
  have HA := Lib.hid hA; clear hA
  have HF := Lib.hid hF; clear hF
  have Hlen := Lib.hid hlen; clear hlen
  have H256 := Lib.hid h256; clear h256
  obtain ⟨w0, hw0⟩ : ∃ w0, w0 = (w.alloc (.cells #[.int .i64 0, .slice none 0 0, .slice none 0 0] 63)).alloc (.cells #[.int .i64 0, .slice none 0 0, .slice none 0 0] 63) := ⟨_, rfl⟩
  have HZ : Hid (Has w0 w.heap.size 63 #[.int .i64 0, .slice none 0 0, .slice none 0 0]) := by rw [Hid, hw0]; exact (Has.new _ _ _).alloc _
  have HD : Hid (Has w0 (w.heap.size + 1) 63 #[.int .i64 0, .slice none 0 0, .slice none 0 0]) := by rw [Hid, hw0]; exact Has.new_at _ _ _ _ (by simp)
  have HN : Hid (New w w0) := by rw [Hid, hw0]; exact ((Chg.refl _ _).alloc _).alloc _
  go_enter Try.func24, Try.ntmps24
  go_upto_region 2 with (fail)
  rw [← hw0]
  clear hw0
  by_cases hs : n < 6
  · have HE : Hid (getE bs = 10) := getE_short (by rw [Hlen.out]; exact hs)
    have t1 : decide ((n : Int) < 6) = true := decide_eq_true (by omega)
    have zl := HZ.out.lt
    have z0 : w0.cell? ⟨w.heap.size, 0, none⟩ = some (.int .i64 0) := (HZ.out.cell 0).trans rfl
    have z1 : w0.cell? ⟨w.heap.size, 1, none⟩ = some (.slice none 0 0) := (HZ.out.cell 1).trans rfl
    have z2 : w0.cell? ⟨w.heap.size, 2, none⟩ = some (.slice none 0 0) := (HZ.out.cell 2).trans rfl
    have y0 := HZ.out.free 0
    have y1 := HZ.out.free 1
    have y2 := HZ.out.free 2
    have dl := HD.out.lt
    have d0 : w0.cell? ⟨w.heap.size + 1, 0, none⟩ = some (.int .i64 0) := (HD.out.cell 0).trans rfl
    have d1 : w0.cell? ⟨w.heap.size + 1, 1, none⟩ = some (.slice none 0 0) := (HD.out.cell 1).trans rfl
    have d2 : w0.cell? ⟨w.heap.size + 1, 2, none⟩ = some (.slice none 0 0) := (HD.out.cell 2).trans rfl
    go_wp2_with fail
    obtain ⟨s1, s2⟩ := set3 HZ.out (.int .i64 0) (.slice none 0 0) (.slice none 0 0)
    generalize ((w0.setCell ⟨w.heap.size, 0, none⟩ (.int .i64 0)).setCell ⟨w.heap.size, 1, none⟩ (.slice none 0 0)).setCell ⟨w.heap.size, 2, none⟩ (.slice none 0 0) = w99 at s1 s2 ⊢
    have q0 := (s1.cell 0).trans rfl
    have q1 := (s1.cell 1).trans rfl
    have q2 := (s1.cell 2).trans rfl
    refine bodyPost_ret (v := .tuple #[.agg #[.int .i64 0, .slice none 0 0, .slice none 0 0], .int .i64 10]) (by simp [results, Try.results24, go_sem, q0, q1, q2]) rfl ?_
    exact GetD.no HE.out (by decide) (New.set HN.out s2 (Nat.le_refl _))
  have h6 : 6 ≤ n := by omega
  have t1 : decide ((n : Int) < 6) = false := decide_eq_false (by omega)
  obtain ⟨a, ha, _, _⟩ := HA.out 0 (by omega)
  subst ha
  obtain ⟨tn, htn⟩ : ∃ t, t = num4 bs 0 := ⟨_, rfl⟩
  obtain ⟨an, han⟩ : ∃ t, t = bs.getD 4 0 := ⟨_, rfl⟩
  obtain ⟨on, hon⟩ : ∃ t, t = bs.getD 5 0 := ⟨_, rfl⟩
  have HF0 := Lib.hid (getE_form (bs := bs) (by rw [Hlen.out]; exact h6))
  have HR0 := Lib.hid (getE_rest (bs := bs) (by rw [Hlen.out]; exact h6))
  have HNm := Lib.hid (docnum bs a n 0 n c F w0 (HA.out.new HN.out HF.out) (by omega) (by omega) (by omega) H256.out)
  rw [add_zero] at HNm
  rw [← htn, ← han, ← hon] at HF0 HR0
  rw [← htn] at HNm
  have hcell : ∀ wy, New w wy → ∀ k, k < n → wy.cell? (a.add k) = some (bV (bs.getD k 0)) := fun wy hy k hk => by
    obtain ⟨a', ha', _, hc'⟩ := (HA.out.new hy HF.out) k hk
    cases ha'
    exact hc'
  have HCe := Lib.hid hcell; clear hcell
  rw [Hlen.out] at HR0
  have Htn := Lib.hid htn; clear htn
  have Han := Lib.hid han; clear han
  have Hon := Lib.hid hon; clear hon
  go_wp2_with fail
  with_reducible refine HNm.out.mono ?_
  rintro e w1 ⟨rfl, hN1⟩
  have HZ1 := Lib.hid (HZ.out.keep hN1)
  have HD1 := Lib.hid (HD.out.keep hN1)
  have HN1 := Lib.hid (HN.out.then_new hN1)
  clear hN1 HNm
  have b4 : w1.cell? (a.add 4) = some (.int .u8 (an : Int)) := by rw [Han.out]; exact HCe.out w1 HN1.out 4 (by omega)
  have b5 : w1.cell? (a.add 5) = some (.int .u8 (on : Int)) := by rw [Hon.out]; exact HCe.out w1 HN1.out 5 (by omega)
  have hadd : ∀ k, 0 < k → a.add k = ⟨a.block, a.off + k, none⟩ := fun k hk => by unfold Addr.add; rw [if_neg (by omega)]
  have b4' := b4
  have b5' := b5
  rw [hadd 4 (by omega)] at b4'
  rw [hadd 5 (by omega)] at b5'
  clear hadd
  have hby : ∀ k, bs.getD k 0 < 256 := fun k => by
    rw [List.getD_eq_getElem?_getD]
    rcases Nat.lt_or_ge k bs.length with hk | hk
    · rw [List.getElem?_eq_getElem hk]; exact H256.out _ (List.getElem_mem hk)
    · rw [List.getElem?_eq_none hk]; decide
  have han256 : an < 256 := by rw [Han.out]; exact hby 4
  have hon256 : on < 256 := by rw [Hon.out]; exact hby 5
  clear hby
  have wa : wrap64 (an : Int) = (an : Int) := by unfold wrap64; omega
  have wo : wrap64 (on : Int) = (on : Int) := by unfold wrap64; omega
  have r4 : (4 : Int) < (n : Int) := by omega
  have r5 : (5 : Int) < (n : Int) := by omega
  obtain ⟨gt1, gt2⟩ := @get_tests tn an on
  have GT1 := Lib.hid gt1; clear gt1
  have GT2 := Lib.hid gt2; clear gt2
  by_cases p1 : (tn : Int) < 1
  · have e1 : decide ((tn : Int) < 1) = true := decide_eq_true p1
    have HE : Hid (getE bs = 12) := HF0.out (Or.inl (bool_no GT1.out (fun h => h.1 p1)))
    clear p1
    have zl := HZ1.out.lt
    have z0 : w1.cell? ⟨w.heap.size, 0, none⟩ = some (.int .i64 0) := (HZ1.out.cell 0).trans rfl
    have z1 : w1.cell? ⟨w.heap.size, 1, none⟩ = some (.slice none 0 0) := (HZ1.out.cell 1).trans rfl
    have z2 : w1.cell? ⟨w.heap.size, 2, none⟩ = some (.slice none 0 0) := (HZ1.out.cell 2).trans rfl
    have y0 := HZ1.out.free 0
    have y1 := HZ1.out.free 1
    have y2 := HZ1.out.free 2
    have dl := HD1.out.lt
    have d0 : w1.cell? ⟨w.heap.size + 1, 0, none⟩ = some (.int .i64 0) := (HD1.out.cell 0).trans rfl
    have d1 : w1.cell? ⟨w.heap.size + 1, 1, none⟩ = some (.slice none 0 0) := (HD1.out.cell 1).trans rfl
    have d2 : w1.cell? ⟨w.heap.size + 1, 2, none⟩ = some (.slice none 0 0) := (HD1.out.cell 2).trans rfl
    go_wp2_with fail
    obtain ⟨s1, s2⟩ := set3 HZ1.out (.int .i64 0) (.slice none 0 0) (.slice none 0 0)
    generalize ((w1.setCell ⟨w.heap.size, 0, none⟩ (.int .i64 0)).setCell ⟨w.heap.size, 1, none⟩ (.slice none 0 0)).setCell ⟨w.heap.size, 2, none⟩ (.slice none 0 0) = w99 at s1 s2 ⊢
    have q0 := (s1.cell 0).trans rfl
    have q1 := (s1.cell 1).trans rfl
    have q2 := (s1.cell 2).trans rfl
    refine bodyPost_ret (v := .tuple #[.agg #[.int .i64 0, .slice none 0 0, .slice none 0 0], .int .i64 12]) (by simp [results, Try.results24, go_sem, q0, q1, q2]) rfl ?_
    exact GetD.no HE.out (by decide) (New.set HN1.out s2 (Nat.le_refl _))
  have e1 : decide ((tn : Int) < 1) = false := decide_eq_false p1
  by_cases p2 : 2147483647 < (tn : Int)
  · have e2 : decide (2147483647 < (tn : Int)) = true := decide_eq_true p2
    have HE : Hid (getE bs = 12) := HF0.out (Or.inl (bool_no GT1.out (fun h => h.2 p2)))
    clear p1 p2
    have zl := HZ1.out.lt
    have z0 : w1.cell? ⟨w.heap.size, 0, none⟩ = some (.int .i64 0) := (HZ1.out.cell 0).trans rfl
    have z1 : w1.cell? ⟨w.heap.size, 1, none⟩ = some (.slice none 0 0) := (HZ1.out.cell 1).trans rfl
    have z2 : w1.cell? ⟨w.heap.size, 2, none⟩ = some (.slice none 0 0) := (HZ1.out.cell 2).trans rfl
    have y0 := HZ1.out.free 0
    have y1 := HZ1.out.free 1
    have y2 := HZ1.out.free 2
    have dl := HD1.out.lt
    have d0 : w1.cell? ⟨w.heap.size + 1, 0, none⟩ = some (.int .i64 0) := (HD1.out.cell 0).trans rfl
    have d1 : w1.cell? ⟨w.heap.size + 1, 1, none⟩ = some (.slice none 0 0) := (HD1.out.cell 1).trans rfl
    have d2 : w1.cell? ⟨w.heap.size + 1, 2, none⟩ = some (.slice none 0 0) := (HD1.out.cell 2).trans rfl
    go_wp2_with fail
    obtain ⟨s1, s2⟩ := set3 HZ1.out (.int .i64 0) (.slice none 0 0) (.slice none 0 0)
    generalize ((w1.setCell ⟨w.heap.size, 0, none⟩ (.int .i64 0)).setCell ⟨w.heap.size, 1, none⟩ (.slice none 0 0)).setCell ⟨w.heap.size, 2, none⟩ (.slice none 0 0) = w99 at s1 s2 ⊢
    have q0 := (s1.cell 0).trans rfl
    have q1 := (s1.cell 1).trans rfl
    have q2 := (s1.cell 2).trans rfl
    refine bodyPost_ret (v := .tuple #[.agg #[.int .i64 0, .slice none 0 0, .slice none 0 0], .int .i64 12]) (by simp [results, Try.results24, go_sem, q0, q1, q2]) rfl ?_
    exact GetD.no HE.out (by decide) (New.set HN1.out s2 (Nat.le_refl _))
  have e2 : decide (2147483647 < (tn : Int)) = false := decide_eq_false p2
  by_cases p3 : 64 < (an : Int)
  · have e3 : decide (64 < (an : Int)) = true := decide_eq_true p3
    have HE : Hid (getE bs = 12) := HF0.out (Or.inr (bool_no GT2.out (fun h => h.1 p3)))
    clear p1 p2 p3
    have zl := HZ1.out.lt
    have z0 : w1.cell? ⟨w.heap.size, 0, none⟩ = some (.int .i64 0) := (HZ1.out.cell 0).trans rfl
    have z1 : w1.cell? ⟨w.heap.size, 1, none⟩ = some (.slice none 0 0) := (HZ1.out.cell 1).trans rfl
    have z2 : w1.cell? ⟨w.heap.size, 2, none⟩ = some (.slice none 0 0) := (HZ1.out.cell 2).trans rfl
    have y0 := HZ1.out.free 0
    have y1 := HZ1.out.free 1
    have y2 := HZ1.out.free 2
    have dl := HD1.out.lt
    have d0 : w1.cell? ⟨w.heap.size + 1, 0, none⟩ = some (.int .i64 0) := (HD1.out.cell 0).trans rfl
    have d1 : w1.cell? ⟨w.heap.size + 1, 1, none⟩ = some (.slice none 0 0) := (HD1.out.cell 1).trans rfl
    have d2 : w1.cell? ⟨w.heap.size + 1, 2, none⟩ = some (.slice none 0 0) := (HD1.out.cell 2).trans rfl
    go_wp2_with fail
    obtain ⟨s1, s2⟩ := set3 HZ1.out (.int .i64 0) (.slice none 0 0) (.slice none 0 0)
    generalize ((w1.setCell ⟨w.heap.size, 0, none⟩ (.int .i64 0)).setCell ⟨w.heap.size, 1, none⟩ (.slice none 0 0)).setCell ⟨w.heap.size, 2, none⟩ (.slice none 0 0) = w99 at s1 s2 ⊢
    have q0 := (s1.cell 0).trans rfl
    have q1 := (s1.cell 1).trans rfl
    have q2 := (s1.cell 2).trans rfl
    refine bodyPost_ret (v := .tuple #[.agg #[.int .i64 0, .slice none 0 0, .slice none 0 0], .int .i64 12]) (by simp [results, Try.results24, go_sem, q0, q1, q2]) rfl ?_
    exact GetD.no HE.out (by decide) (New.set HN1.out s2 (Nat.le_refl _))
  have e3 : decide (64 < (an : Int)) = false := decide_eq_false p3
  by_cases p4 : 64 < (on : Int)
  · have e4 : decide (64 < (on : Int)) = true := decide_eq_true p4
    have HE : Hid (getE bs = 12) := HF0.out (Or.inr (bool_no GT2.out (fun h => h.2 p4)))
    clear p1 p2 p3 p4
    have zl := HZ1.out.lt
    have z0 : w1.cell? ⟨w.heap.size, 0, none⟩ = some (.int .i64 0) := (HZ1.out.cell 0).trans rfl
    have z1 : w1.cell? ⟨w.heap.size, 1, none⟩ = some (.slice none 0 0) := (HZ1.out.cell 1).trans rfl
    have z2 : w1.cell? ⟨w.heap.size, 2, none⟩ = some (.slice none 0 0) := (HZ1.out.cell 2).trans rfl
    have y0 := HZ1.out.free 0
    have y1 := HZ1.out.free 1
    have y2 := HZ1.out.free 2
    have dl := HD1.out.lt
    have d0 : w1.cell? ⟨w.heap.size + 1, 0, none⟩ = some (.int .i64 0) := (HD1.out.cell 0).trans rfl
    have d1 : w1.cell? ⟨w.heap.size + 1, 1, none⟩ = some (.slice none 0 0) := (HD1.out.cell 1).trans rfl
    have d2 : w1.cell? ⟨w.heap.size + 1, 2, none⟩ = some (.slice none 0 0) := (HD1.out.cell 2).trans rfl
    go_wp2_with fail
    obtain ⟨s1, s2⟩ := set3 HZ1.out (.int .i64 0) (.slice none 0 0) (.slice none 0 0)
    generalize ((w1.setCell ⟨w.heap.size, 0, none⟩ (.int .i64 0)).setCell ⟨w.heap.size, 1, none⟩ (.slice none 0 0)).setCell ⟨w.heap.size, 2, none⟩ (.slice none 0 0) = w99 at s1 s2 ⊢
    have q0 := (s1.cell 0).trans rfl
    have q1 := (s1.cell 1).trans rfl
    have q2 := (s1.cell 2).trans rfl
    refine bodyPost_ret (v := .tuple #[.agg #[.int .i64 0, .slice none 0 0, .slice none 0 0], .int .i64 12]) (by simp [results, Try.results24, go_sem, q0, q1, q2]) rfl ?_
    exact GetD.no HE.out (by decide) (New.set HN1.out s2 (Nat.le_refl _))
  have e4 : decide (64 < (on : Int)) = false := decide_eq_false p4
  have HE0 := Lib.hid (HR0.out (GT1.out.2 ⟨p1, p2⟩) (GT2.out.2 ⟨p3, p4⟩))
  have ha64 : an ≤ 64 := by omega
  have ho64 : on ≤ 64 := by omega
  clear p1 p2 p3 p4
  by_cases p5 : (n : Int) < 6 + 20 * ((an : Int) + (on : Int))
  · have e5 : decide ((n : Int) < 6 + 20 * ((an : Int) + (on : Int))) = true := decide_eq_true p5
    have HE : Hid (getE bs = 10) := HE0.out.trans (if_pos (by omega))
    clear p5
    have zl := HZ1.out.lt
    have z0 : w1.cell? ⟨w.heap.size, 0, none⟩ = some (.int .i64 0) := (HZ1.out.cell 0).trans rfl
    have z1 : w1.cell? ⟨w.heap.size, 1, none⟩ = some (.slice none 0 0) := (HZ1.out.cell 1).trans rfl
    have z2 : w1.cell? ⟨w.heap.size, 2, none⟩ = some (.slice none 0 0) := (HZ1.out.cell 2).trans rfl
    have y0 := HZ1.out.free 0
    have y1 := HZ1.out.free 1
    have y2 := HZ1.out.free 2
    have dl := HD1.out.lt
    have d0 : w1.cell? ⟨w.heap.size + 1, 0, none⟩ = some (.int .i64 0) := (HD1.out.cell 0).trans rfl
    have d1 : w1.cell? ⟨w.heap.size + 1, 1, none⟩ = some (.slice none 0 0) := (HD1.out.cell 1).trans rfl
    have d2 : w1.cell? ⟨w.heap.size + 1, 2, none⟩ = some (.slice none 0 0) := (HD1.out.cell 2).trans rfl
    go_wp2_with fail
    obtain ⟨s1, s2⟩ := set3 HZ1.out (.int .i64 0) (.slice none 0 0) (.slice none 0 0)
    generalize ((w1.setCell ⟨w.heap.size, 0, none⟩ (.int .i64 0)).setCell ⟨w.heap.size, 1, none⟩ (.slice none 0 0)).setCell ⟨w.heap.size, 2, none⟩ (.slice none 0 0) = w99 at s1 s2 ⊢
    have q0 := (s1.cell 0).trans rfl
    have q1 := (s1.cell 1).trans rfl
    have q2 := (s1.cell 2).trans rfl
    refine bodyPost_ret (v := .tuple #[.agg #[.int .i64 0, .slice none 0 0, .slice none 0 0], .int .i64 10]) (by simp [results, Try.results24, go_sem, q0, q1, q2]) rfl ?_
    exact GetD.no HE.out (by decide) (New.set HN1.out s2 (Nat.le_refl _))
  have e5 : decide ((n : Int) < 6 + 20 * ((an : Int) + (on : Int))) = false := decide_eq_false p5
  by_cases p6 : 6 + 20 * ((an : Int) + (on : Int)) < (n : Int)
  · have e6 : decide (6 + 20 * ((an : Int) + (on : Int)) < (n : Int)) = true := decide_eq_true p6
    have HE : Hid (getE bs = 14) := HE0.out.trans (by rw [if_neg (by omega), if_pos (by omega)])
    clear p5 p6
    have zl := HZ1.out.lt
    have z0 : w1.cell? ⟨w.heap.size, 0, none⟩ = some (.int .i64 0) := (HZ1.out.cell 0).trans rfl
    have z1 : w1.cell? ⟨w.heap.size, 1, none⟩ = some (.slice none 0 0) := (HZ1.out.cell 1).trans rfl
    have z2 : w1.cell? ⟨w.heap.size, 2, none⟩ = some (.slice none 0 0) := (HZ1.out.cell 2).trans rfl
    have y0 := HZ1.out.free 0
    have y1 := HZ1.out.free 1
    have y2 := HZ1.out.free 2
    have dl := HD1.out.lt
    have d0 : w1.cell? ⟨w.heap.size + 1, 0, none⟩ = some (.int .i64 0) := (HD1.out.cell 0).trans rfl
    have d1 : w1.cell? ⟨w.heap.size + 1, 1, none⟩ = some (.slice none 0 0) := (HD1.out.cell 1).trans rfl
    have d2 : w1.cell? ⟨w.heap.size + 1, 2, none⟩ = some (.slice none 0 0) := (HD1.out.cell 2).trans rfl
    go_wp2_with fail
    obtain ⟨s1, s2⟩ := set3 HZ1.out (.int .i64 0) (.slice none 0 0) (.slice none 0 0)
    generalize ((w1.setCell ⟨w.heap.size, 0, none⟩ (.int .i64 0)).setCell ⟨w.heap.size, 1, none⟩ (.slice none 0 0)).setCell ⟨w.heap.size, 2, none⟩ (.slice none 0 0) = w99 at s1 s2 ⊢
    have q0 := (s1.cell 0).trans rfl
    have q1 := (s1.cell 1).trans rfl
    have q2 := (s1.cell 2).trans rfl
    refine bodyPost_ret (v := .tuple #[.agg #[.int .i64 0, .slice none 0 0, .slice none 0 0], .int .i64 14]) (by simp [results, Try.results24, go_sem, q0, q1, q2]) rfl ?_
    exact GetD.no HE.out (by decide) (New.set HN1.out s2 (Nat.le_refl _))
  have e6 : decide (6 + 20 * ((an : Int) + (on : Int)) < (n : Int)) = false := decide_eq_false p6
  have HL : Hid (6 + 20 * (an + on) = n) := by rw [Hid]; omega
  have HE1 : Hid (getE bs = if !((getIts bs 6 (an + on)).all layB) then 12 else 0) := HE0.out.trans (by rw [if_neg (by omega), if_neg (by omega)])
  clear p5 p6 HE0
  go_upto_block 0 with (fail)
  clear wa wo b4 b5 b4' b5' r4 r5 e1 e2 e3 e4 e5 e6 t1
  go_cut [8] (fun s8 wc => ∃ A c, s8 = .slice A (an + on) c ∧ wc.ownsRow w.heap.size 44 5 (.slice A (an + on) c) (an + on) (ics (getIts bs 6 (an + on))) ∧ (getIts bs 6 (an + on)).all layB = true ∧ Has wc w.heap.size 63 #[.int .i64 0, .slice none 0 0, .slice none 0 0] ∧ New w wc)
  case first =>
    go_wp2_with fail
    go_loopg [9, 8] (an + on) (fun gk j s8 wr => ∃ (i : Nat) (A : Option Addr) (c : Nat), i ≤ an + on ∧ gk = an + on - i ∧ j = .int .i64 i ∧ s8 = .slice A i c ∧ wr.ownsRow w.heap.size 44 5 (.slice A i c) i (ics (getIts bs 6 i)) ∧ (getIts bs 6 i).all layB = true ∧ Has wr w.heap.size 63 #[.int .i64 0, .slice none 0 0, .slice none 0 0] ∧ Has wr (w.heap.size + 1) 63 #[.int .i64 0, .slice none 0 0, .slice none 0 0] ∧ New w wr)
    case atStart => exact ⟨0, none, 0, by omega, by omega, rfl, rfl, nil_own _ _, rfl, HZ1.out, HD1.out, HN1.out⟩
    case round =>
      obtain ⟨w9, hw9⟩ : ∃ w9, w9 = wr := ⟨_, rfl⟩
      rw [← hw9] at hrel ⊢
      clear hw9 HZ1 HD1 HN1 HZ HD HN
      obtain ⟨i, A8, c8, hi, rfl, rfl, rfl, hO, hv, hZ, hD, hN⟩ := hrel
      have HO := Lib.hid hO
      have HV := Lib.hid hv
      have HZ := Lib.hid hZ
      have HD := Lib.hid hD
      have HN := Lib.hid hN
      clear hO hv hZ hD hN
      by_cases hlt : i < an + on
      case neg =>
        obtain rfl : i = an + on := by omega
        have t1 : decide (((an + on : Nat) : Int) < (an : Int) + (on : Int)) = false := decide_eq_false (by omega)
        go_wp2_with fail
        go_meet
        exact ⟨A8, c8, rfl, HO.out, HV.out, HZ.out, HN.out⟩
      have t1 : decide ((i : Int) < (an : Int) + (on : Int)) = true := decide_eq_true (by omega)
      have hcx : 20 ≤ c - (6 + 20 * i) := by have := HL.out; omega
      obtain ⟨cx, hcx2⟩ : ∃ x, x = c - (6 + 20 * i) := ⟨_, rfl⟩
      rw [← hcx2] at hcx
      have hsl : ∀ wy, (Instr.slice 56 (.slice (some a) n c) (some (.int .i64 (6 + 20 * (i : Int)))) (some (.int .i64 (26 + 20 * (i : Int)))) none).run Try.prog wy = .ok (.slice (some (a.add (6 + 20 * i))) 20 cx) wy := fun wy => by
        have h := slice_cut a n c (6 + 20 * i) (26 + 20 * i) (by omega) (by have := HL.out; omega) (by have := HL.out; omega) wy
        rw [show 26 + 20 * i - (6 + 20 * i) = 20 by omega, ← hcx2] at h
        push_cast at h
        exact h
      clear hcx2
      have HLi : Hid (6 + 20 * i + 20 ≤ n) := by have := HL.out; rw [Hid]; omega
      go_upto_block 2 with (fail)
      clear hsl t1
      obtain ⟨gy, hgy⟩ : ∃ g, g = w9.heap.size := ⟨_, rfl⟩
      obtain ⟨w10, hw10⟩ : ∃ w, w = w9.alloc (.cells #[.int .i64 0, .int .i64 0, .int .i64 0, .int .i64 0, .int .i64 0] 103) := ⟨_, rfl⟩
      have HY : Hid (Has w10 gy 103 #[.int .i64 0, .int .i64 0, .int .i64 0, .int .i64 0, .int .i64 0]) := by rw [Hid, hw10, hgy]; exact Has.new _ _ _
      have hN10 : New w9 w10 := by rw [hw10]; exact (Chg.refl _ _).alloc _
      have hgw : w.heap.size + 1 < gy := by rw [hgy]; exact HD.out.lt
      have HO10 := Lib.hid (own_new HO.out hN10)
      have HZ10 := Lib.hid (HZ.out.keep hN10)
      have HD10 := Lib.hid (HD.out.keep hN10)
      have HN10 := Lib.hid (HN.out.then_new hN10)
      rw [← hw10, ← hgy]
      clear hw10 hgy hN10 HO HZ HD HN
      obtain ⟨ax, hax⟩ : ∃ x, x = a.add (6 + 20 * i) := ⟨_, rfl⟩
      rw [← hax]
      have Hax := Lib.hid hax
      clear hax
      have HNa : Hid (∀ (wy : World) (d n' c' : Nat), New w wy → d + 4 ≤ 20 → 4 ≤ n' → n' ≤ 20 → Calls Try.prog 53 #[.slice (some (ax.add d)) n' c'] wy fun e w' => e = .returned (.int .i64 (num4 bs (6 + 20 * i + d) : Int)) ∧ New wy w') := fun wy d n' c' hy hd h4 h20 => by
        rw [Hax.out, add_add]
        exact docnum bs a n (6 + 20 * i + d) n' c' F wy (HA.out.new hy HF.out) (by have := HLi.out; omega) h4 (by omega) H256.out
      go_cut [] (fun wc => Has wc gy 103 #[.int .i64 (num4 bs (6 + 20 * i) : Int), .int .i64 (num4 bs (6 + 20 * i + 4) : Int), .int .i64 (num4 bs (6 + 20 * i + 8) : Int), .int .i64 (num4 bs (6 + 20 * i + 12) : Int), .int .i64 (num4 bs (6 + 20 * i + 16) : Int)] ∧ layB (getIt bs (6 + 20 * i)) = true ∧ wc.ownsRow w.heap.size 44 5 (.slice A8 i c8) i (ics (getIts bs 6 i)) ∧ Has wc w.heap.size 63 #[.int .i64 0, .slice none 0 0, .slice none 0 0] ∧ Has wc (w.heap.size + 1) 63 #[.int .i64 0, .slice none 0 0, .slice none 0 0] ∧ New w wc)
      case first =>
        go_wp2_with fail
        go_loopg [12] 5 (fun gk j wr => ∃ (t : Nat) (v0 v1 v2 v3 v4 : Int), t ≤ 5 ∧ gk = 5 - t ∧ j = .int .i64 t ∧ ((0 < t → v0 = (num4 bs (6 + 20 * i + 0) : Int) ∧ v0 ≤ 2147483648) ∧ (1 < t → v1 = (num4 bs (6 + 20 * i + 4) : Int) ∧ v1 ≤ 2147483648) ∧ (2 < t → v2 = (num4 bs (6 + 20 * i + 8) : Int) ∧ v2 ≤ 2147483648) ∧ (3 < t → v3 = (num4 bs (6 + 20 * i + 12) : Int) ∧ v3 ≤ 2147483648) ∧ (4 < t → v4 = (num4 bs (6 + 20 * i + 16) : Int) ∧ v4 ≤ 2147483648)) ∧ Has wr gy 103 #[.int .i64 v0, .int .i64 v1, .int .i64 v2, .int .i64 v3, .int .i64 v4] ∧ wr.ownsRow w.heap.size 44 5 (.slice A8 i c8) i (ics (getIts bs 6 i)) ∧ Has wr w.heap.size 63 #[.int .i64 0, .slice none 0 0, .slice none 0 0] ∧ Has wr (w.heap.size + 1) 63 #[.int .i64 0, .slice none 0 0, .slice none 0 0] ∧ New w wr)
        case atStart => exact ⟨0, 0, 0, 0, 0, 0, by omega, by omega, rfl, ⟨fun h => by omega, fun h => by omega, fun h => by omega, fun h => by omega, fun h => by omega⟩, HY.out, HO10.out, HZ10.out, HD10.out, HN10.out⟩
        case round =>
          clear HY HO10 HZ10 HD10 HN10
          obtain ⟨t, v0, v1, v2, v3, v4, ht, rfl, rfl, hk, hY, hO, hZ, hD, hN⟩ := hrel
          have HKn := Lib.hid hk
          have HY := Lib.hid hY
          have HO := Lib.hid hO
          have HZ := Lib.hid hZ
          have HD := Lib.hid hD
          have HN := Lib.hid hN
          clear hk hY hO hZ hD hN
          rcases (show t = 0 ∨ t = 1 ∨ t = 2 ∨ t = 3 ∨ t = 4 ∨ t = 5 by omega) with rfl | rfl | rfl | rfl | rfl | rfl
          · have hsl : ∀ wy, (Instr.slice 56 (.slice (some ax) 20 cx) (some (.int .i64 0)) none none).run Try.prog wy = .ok (.slice (some (ax.add 0)) 20 (cx - 0)) wy := fun wy => slice_from ax 20 cx 0 (by omega) (by omega) wy
            have HC := Lib.hid (HNa.out wr 0 20 (cx - 0) HN.out (by omega) (by omega) (by omega))
            rw [add_zero, Nat.sub_zero] at HC
            obtain ⟨nv, hnv⟩ : ∃ v : Int, v = (num4 bs (6 + 20 * i + 0) : Int) := ⟨_, rfl⟩
            rw [← hnv] at HC
            have HNv := Lib.hid hnv
            clear hnv
            go_wp2_with fail
            with_reducible refine HC.out.mono ?_
            rintro e w11 ⟨rfl, hN11⟩
            have HY11 := Lib.hid (HY.out.keep hN11)
            have HO11 := Lib.hid (own_new HO.out hN11)
            have HZ11 := Lib.hid (HZ.out.keep hN11)
            have HD11 := Lib.hid (HD.out.keep hN11)
            have HN11 := Lib.hid (HN.out.then_new hN11)
            clear hN11 hsl HC
            have yl := HY11.out.lt
            have yc : w11.cell? ⟨gy, 0, none⟩ = some (.int .i64 v0) := (HY11.out.cell 0).trans rfl
            have yf := HY11.out.free 0
            obtain ⟨w12, hw12⟩ : ∃ w, w = w11.setCell ⟨gy, 0, none⟩ (.int .i64 nv) := ⟨_, rfl⟩
            have hC12 : Chg (· = gy) w11 w12 := by rw [hw12]; exact Chg.setCell (S := (· = gy)) (p := ⟨gy, 0, none⟩) (Chg.refl _ _) (fun _ => rfl) _
            have HY12 : Hid (Has w12 gy 103 #[.int .i64 nv, .int .i64 v1, .int .i64 v2, .int .i64 v3, .int .i64 v4]) := by rw [Hid, hw12]; exact HY11.out.set 0 _
            have HO12 := Lib.hid (own_chg HO11.out hC12 (fun k hk e => own_apart HO11.out HY11.out (by decide) (by rw [hk]; exact congrArg some e)))
            have HZ12 := Lib.hid (HZ11.out.chg hC12 (by omega))
            have HD12 := Lib.hid (HD11.out.chg hC12 (by omega))
            have HN12 := Lib.hid (New.set HN11.out hC12 (by omega))
            clear hC12
            go_upto_region 23 with (fail)
            rw [← hw12]
            clear hw12 yl yc yf
            have yl := HY12.out.lt
            have yc : w12.cell? ⟨gy, 0, none⟩ = some (.int .i64 nv) := (HY12.out.cell 0).trans rfl
            by_cases p2 : 2147483648 < nv
            · have e2 : decide (2147483648 < nv) = true := decide_eq_true p2
              have HE : Hid (getE bs = 12) := HE1.out.trans (by rw [get_bad hlt (lay_no (k := 0) (z := nv) (by rw [HNv.out]; rfl) (Or.inr p2))]; rfl)
              clear p2
              have zl := HZ12.out.lt
              have z0 : w12.cell? ⟨w.heap.size, 0, none⟩ = some (.int .i64 0) := (HZ12.out.cell 0).trans rfl
              have z1 : w12.cell? ⟨w.heap.size, 1, none⟩ = some (.slice none 0 0) := (HZ12.out.cell 1).trans rfl
              have z2 : w12.cell? ⟨w.heap.size, 2, none⟩ = some (.slice none 0 0) := (HZ12.out.cell 2).trans rfl
              have y0 := HZ12.out.free 0
              have y1 := HZ12.out.free 1
              have y2 := HZ12.out.free 2
              have dl := HD12.out.lt
              have d0 : w12.cell? ⟨w.heap.size + 1, 0, none⟩ = some (.int .i64 0) := (HD12.out.cell 0).trans rfl
              have d1 : w12.cell? ⟨w.heap.size + 1, 1, none⟩ = some (.slice none 0 0) := (HD12.out.cell 1).trans rfl
              have d2 : w12.cell? ⟨w.heap.size + 1, 2, none⟩ = some (.slice none 0 0) := (HD12.out.cell 2).trans rfl
              go_wp2_with fail
              obtain ⟨s1, s2⟩ := set3 HZ12.out (.int .i64 0) (.slice none 0 0) (.slice none 0 0)
              generalize ((w12.setCell ⟨w.heap.size, 0, none⟩ (.int .i64 0)).setCell ⟨w.heap.size, 1, none⟩ (.slice none 0 0)).setCell ⟨w.heap.size, 2, none⟩ (.slice none 0 0) = w99 at s1 s2 ⊢
              have q0 := (s1.cell 0).trans rfl
              have q1 := (s1.cell 1).trans rfl
              have q2 := (s1.cell 2).trans rfl
              refine bodyPost_ret (v := .tuple #[.agg #[.int .i64 0, .slice none 0 0, .slice none 0 0], .int .i64 12]) (by simp [results, Try.results24, go_sem, q0, q1, q2]) rfl ?_
              exact GetD.no HE.out (by decide) (New.set HN12.out s2 (Nat.le_refl _))
            have e2 : decide (2147483648 < nv) = false := decide_eq_false p2
            go_wp2_with fail
            go_roundg 4
            case measure => omega
            case rel => exact ⟨1, nv, v1, v2, v3, v4, by omega, by omega, rfl, ⟨fun _ => ⟨HNv.out, by omega⟩, fun h => by omega, fun h => by omega, fun h => by omega, fun h => by omega⟩, HY12.out, HO12.out, HZ12.out, HD12.out, HN12.out⟩
          · have hsl : ∀ wy, (Instr.slice 56 (.slice (some ax) 20 cx) (some (.int .i64 4)) none none).run Try.prog wy = .ok (.slice (some (ax.add 4)) 16 (cx - 4)) wy := fun wy => slice_from ax 20 cx 4 (by omega) (by omega) wy
            have HC := Lib.hid (HNa.out wr 4 16 (cx - 4) HN.out (by omega) (by omega) (by omega))
            rw [show ax.add 4 = ⟨ax.block, ax.off + 4, none⟩ from by unfold Addr.add; rw [if_neg (by omega)]] at HC
            obtain ⟨nv, hnv⟩ : ∃ v : Int, v = (num4 bs (6 + 20 * i + 4) : Int) := ⟨_, rfl⟩
            rw [← hnv] at HC
            have HNv := Lib.hid hnv
            clear hnv
            go_wp2_with fail
            with_reducible refine HC.out.mono ?_
            rintro e w11 ⟨rfl, hN11⟩
            have HY11 := Lib.hid (HY.out.keep hN11)
            have HO11 := Lib.hid (own_new HO.out hN11)
            have HZ11 := Lib.hid (HZ.out.keep hN11)
            have HD11 := Lib.hid (HD.out.keep hN11)
            have HN11 := Lib.hid (HN.out.then_new hN11)
            clear hN11 hsl HC
            have yl := HY11.out.lt
            have yc : w11.cell? ⟨gy, 1, none⟩ = some (.int .i64 v1) := (HY11.out.cell 1).trans rfl
            have yf := HY11.out.free 1
            obtain ⟨w12, hw12⟩ : ∃ w, w = w11.setCell ⟨gy, 1, none⟩ (.int .i64 nv) := ⟨_, rfl⟩
            have hC12 : Chg (· = gy) w11 w12 := by rw [hw12]; exact Chg.setCell (S := (· = gy)) (p := ⟨gy, 1, none⟩) (Chg.refl _ _) (fun _ => rfl) _
            have HY12 : Hid (Has w12 gy 103 #[.int .i64 v0, .int .i64 nv, .int .i64 v2, .int .i64 v3, .int .i64 v4]) := by rw [Hid, hw12]; exact HY11.out.set 1 _
            have HO12 := Lib.hid (own_chg HO11.out hC12 (fun k hk e => own_apart HO11.out HY11.out (by decide) (by rw [hk]; exact congrArg some e)))
            have HZ12 := Lib.hid (HZ11.out.chg hC12 (by omega))
            have HD12 := Lib.hid (HD11.out.chg hC12 (by omega))
            have HN12 := Lib.hid (New.set HN11.out hC12 (by omega))
            clear hC12
            go_upto_region 23 with (fail)
            rw [← hw12]
            clear hw12 yl yc yf
            have yl := HY12.out.lt
            have yc : w12.cell? ⟨gy, 1, none⟩ = some (.int .i64 nv) := (HY12.out.cell 1).trans rfl
            by_cases p2 : 2147483648 < nv
            · have e2 : decide (2147483648 < nv) = true := decide_eq_true p2
              have HE : Hid (getE bs = 12) := HE1.out.trans (by rw [get_bad hlt (lay_no (k := 1) (z := nv) (by rw [HNv.out]; rfl) (Or.inr p2))]; rfl)
              clear p2
              have zl := HZ12.out.lt
              have z0 : w12.cell? ⟨w.heap.size, 0, none⟩ = some (.int .i64 0) := (HZ12.out.cell 0).trans rfl
              have z1 : w12.cell? ⟨w.heap.size, 1, none⟩ = some (.slice none 0 0) := (HZ12.out.cell 1).trans rfl
              have z2 : w12.cell? ⟨w.heap.size, 2, none⟩ = some (.slice none 0 0) := (HZ12.out.cell 2).trans rfl
              have y0 := HZ12.out.free 0
              have y1 := HZ12.out.free 1
              have y2 := HZ12.out.free 2
              have dl := HD12.out.lt
              have d0 : w12.cell? ⟨w.heap.size + 1, 0, none⟩ = some (.int .i64 0) := (HD12.out.cell 0).trans rfl
              have d1 : w12.cell? ⟨w.heap.size + 1, 1, none⟩ = some (.slice none 0 0) := (HD12.out.cell 1).trans rfl
              have d2 : w12.cell? ⟨w.heap.size + 1, 2, none⟩ = some (.slice none 0 0) := (HD12.out.cell 2).trans rfl
              go_wp2_with fail
              obtain ⟨s1, s2⟩ := set3 HZ12.out (.int .i64 0) (.slice none 0 0) (.slice none 0 0)
              generalize ((w12.setCell ⟨w.heap.size, 0, none⟩ (.int .i64 0)).setCell ⟨w.heap.size, 1, none⟩ (.slice none 0 0)).setCell ⟨w.heap.size, 2, none⟩ (.slice none 0 0) = w99 at s1 s2 ⊢
              have q0 := (s1.cell 0).trans rfl
              have q1 := (s1.cell 1).trans rfl
              have q2 := (s1.cell 2).trans rfl
              refine bodyPost_ret (v := .tuple #[.agg #[.int .i64 0, .slice none 0 0, .slice none 0 0], .int .i64 12]) (by simp [results, Try.results24, go_sem, q0, q1, q2]) rfl ?_
              exact GetD.no HE.out (by decide) (New.set HN12.out s2 (Nat.le_refl _))
            have e2 : decide (2147483648 < nv) = false := decide_eq_false p2
            go_wp2_with fail
            go_roundg 3
            case measure => omega
            case rel => exact ⟨2, v0, nv, v2, v3, v4, by omega, by omega, rfl, ⟨fun h => HKn.out.1 (by omega), fun _ => ⟨HNv.out, by omega⟩, fun h => by omega, fun h => by omega, fun h => by omega⟩, HY12.out, HO12.out, HZ12.out, HD12.out, HN12.out⟩
          · have hsl : ∀ wy, (Instr.slice 56 (.slice (some ax) 20 cx) (some (.int .i64 8)) none none).run Try.prog wy = .ok (.slice (some (ax.add 8)) 12 (cx - 8)) wy := fun wy => slice_from ax 20 cx 8 (by omega) (by omega) wy
            have HC := Lib.hid (HNa.out wr 8 12 (cx - 8) HN.out (by omega) (by omega) (by omega))
            rw [show ax.add 8 = ⟨ax.block, ax.off + 8, none⟩ from by unfold Addr.add; rw [if_neg (by omega)]] at HC
            obtain ⟨nv, hnv⟩ : ∃ v : Int, v = (num4 bs (6 + 20 * i + 8) : Int) := ⟨_, rfl⟩
            rw [← hnv] at HC
            have HNv := Lib.hid hnv
            clear hnv
            go_wp2_with fail
            with_reducible refine HC.out.mono ?_
            rintro e w11 ⟨rfl, hN11⟩
            have HY11 := Lib.hid (HY.out.keep hN11)
            have HO11 := Lib.hid (own_new HO.out hN11)
            have HZ11 := Lib.hid (HZ.out.keep hN11)
            have HD11 := Lib.hid (HD.out.keep hN11)
            have HN11 := Lib.hid (HN.out.then_new hN11)
            clear hN11 hsl HC
            have yl := HY11.out.lt
            have yc : w11.cell? ⟨gy, 2, none⟩ = some (.int .i64 v2) := (HY11.out.cell 2).trans rfl
            have yf := HY11.out.free 2
            obtain ⟨w12, hw12⟩ : ∃ w, w = w11.setCell ⟨gy, 2, none⟩ (.int .i64 nv) := ⟨_, rfl⟩
            have hC12 : Chg (· = gy) w11 w12 := by rw [hw12]; exact Chg.setCell (S := (· = gy)) (p := ⟨gy, 2, none⟩) (Chg.refl _ _) (fun _ => rfl) _
            have HY12 : Hid (Has w12 gy 103 #[.int .i64 v0, .int .i64 v1, .int .i64 nv, .int .i64 v3, .int .i64 v4]) := by rw [Hid, hw12]; exact HY11.out.set 2 _
            have HO12 := Lib.hid (own_chg HO11.out hC12 (fun k hk e => own_apart HO11.out HY11.out (by decide) (by rw [hk]; exact congrArg some e)))
            have HZ12 := Lib.hid (HZ11.out.chg hC12 (by omega))
            have HD12 := Lib.hid (HD11.out.chg hC12 (by omega))
            have HN12 := Lib.hid (New.set HN11.out hC12 (by omega))
            clear hC12
            go_upto_region 23 with (fail)
            rw [← hw12]
            clear hw12 yl yc yf
            have yl := HY12.out.lt
            have yc : w12.cell? ⟨gy, 2, none⟩ = some (.int .i64 nv) := (HY12.out.cell 2).trans rfl
            by_cases p2 : 2147483648 < nv
            · have e2 : decide (2147483648 < nv) = true := decide_eq_true p2
              have HE : Hid (getE bs = 12) := HE1.out.trans (by rw [get_bad hlt (lay_no (k := 2) (z := nv) (by rw [HNv.out]; rfl) (Or.inr p2))]; rfl)
              clear p2
              have zl := HZ12.out.lt
              have z0 : w12.cell? ⟨w.heap.size, 0, none⟩ = some (.int .i64 0) := (HZ12.out.cell 0).trans rfl
              have z1 : w12.cell? ⟨w.heap.size, 1, none⟩ = some (.slice none 0 0) := (HZ12.out.cell 1).trans rfl
              have z2 : w12.cell? ⟨w.heap.size, 2, none⟩ = some (.slice none 0 0) := (HZ12.out.cell 2).trans rfl
              have y0 := HZ12.out.free 0
              have y1 := HZ12.out.free 1
              have y2 := HZ12.out.free 2
              have dl := HD12.out.lt
              have d0 : w12.cell? ⟨w.heap.size + 1, 0, none⟩ = some (.int .i64 0) := (HD12.out.cell 0).trans rfl
              have d1 : w12.cell? ⟨w.heap.size + 1, 1, none⟩ = some (.slice none 0 0) := (HD12.out.cell 1).trans rfl
              have d2 : w12.cell? ⟨w.heap.size + 1, 2, none⟩ = some (.slice none 0 0) := (HD12.out.cell 2).trans rfl
              go_wp2_with fail
              obtain ⟨s1, s2⟩ := set3 HZ12.out (.int .i64 0) (.slice none 0 0) (.slice none 0 0)
              generalize ((w12.setCell ⟨w.heap.size, 0, none⟩ (.int .i64 0)).setCell ⟨w.heap.size, 1, none⟩ (.slice none 0 0)).setCell ⟨w.heap.size, 2, none⟩ (.slice none 0 0) = w99 at s1 s2 ⊢
              have q0 := (s1.cell 0).trans rfl
              have q1 := (s1.cell 1).trans rfl
              have q2 := (s1.cell 2).trans rfl
              refine bodyPost_ret (v := .tuple #[.agg #[.int .i64 0, .slice none 0 0, .slice none 0 0], .int .i64 12]) (by simp [results, Try.results24, go_sem, q0, q1, q2]) rfl ?_
              exact GetD.no HE.out (by decide) (New.set HN12.out s2 (Nat.le_refl _))
            have e2 : decide (2147483648 < nv) = false := decide_eq_false p2
            go_wp2_with fail
            go_roundg 2
            case measure => omega
            case rel => exact ⟨3, v0, v1, nv, v3, v4, by omega, by omega, rfl, ⟨fun h => HKn.out.1 (by omega), fun h => HKn.out.2.1 (by omega), fun _ => ⟨HNv.out, by omega⟩, fun h => by omega, fun h => by omega⟩, HY12.out, HO12.out, HZ12.out, HD12.out, HN12.out⟩
          · have hsl : ∀ wy, (Instr.slice 56 (.slice (some ax) 20 cx) (some (.int .i64 12)) none none).run Try.prog wy = .ok (.slice (some (ax.add 12)) 8 (cx - 12)) wy := fun wy => slice_from ax 20 cx 12 (by omega) (by omega) wy
            have HC := Lib.hid (HNa.out wr 12 8 (cx - 12) HN.out (by omega) (by omega) (by omega))
            rw [show ax.add 12 = ⟨ax.block, ax.off + 12, none⟩ from by unfold Addr.add; rw [if_neg (by omega)]] at HC
            obtain ⟨nv, hnv⟩ : ∃ v : Int, v = (num4 bs (6 + 20 * i + 12) : Int) := ⟨_, rfl⟩
            rw [← hnv] at HC
            have HNv := Lib.hid hnv
            clear hnv
            go_wp2_with fail
            with_reducible refine HC.out.mono ?_
            rintro e w11 ⟨rfl, hN11⟩
            have HY11 := Lib.hid (HY.out.keep hN11)
            have HO11 := Lib.hid (own_new HO.out hN11)
            have HZ11 := Lib.hid (HZ.out.keep hN11)
            have HD11 := Lib.hid (HD.out.keep hN11)
            have HN11 := Lib.hid (HN.out.then_new hN11)
            clear hN11 hsl HC
            have yl := HY11.out.lt
            have yc : w11.cell? ⟨gy, 3, none⟩ = some (.int .i64 v3) := (HY11.out.cell 3).trans rfl
            have yf := HY11.out.free 3
            obtain ⟨w12, hw12⟩ : ∃ w, w = w11.setCell ⟨gy, 3, none⟩ (.int .i64 nv) := ⟨_, rfl⟩
            have hC12 : Chg (· = gy) w11 w12 := by rw [hw12]; exact Chg.setCell (S := (· = gy)) (p := ⟨gy, 3, none⟩) (Chg.refl _ _) (fun _ => rfl) _
            have HY12 : Hid (Has w12 gy 103 #[.int .i64 v0, .int .i64 v1, .int .i64 v2, .int .i64 nv, .int .i64 v4]) := by rw [Hid, hw12]; exact HY11.out.set 3 _
            have HO12 := Lib.hid (own_chg HO11.out hC12 (fun k hk e => own_apart HO11.out HY11.out (by decide) (by rw [hk]; exact congrArg some e)))
            have HZ12 := Lib.hid (HZ11.out.chg hC12 (by omega))
            have HD12 := Lib.hid (HD11.out.chg hC12 (by omega))
            have HN12 := Lib.hid (New.set HN11.out hC12 (by omega))
            clear hC12
            go_upto_region 23 with (fail)
            rw [← hw12]
            clear hw12 yl yc yf
            have yl := HY12.out.lt
            have yc : w12.cell? ⟨gy, 3, none⟩ = some (.int .i64 nv) := (HY12.out.cell 3).trans rfl
            by_cases p2 : 2147483648 < nv
            · have e2 : decide (2147483648 < nv) = true := decide_eq_true p2
              have HE : Hid (getE bs = 12) := HE1.out.trans (by rw [get_bad hlt (lay_no (k := 3) (z := nv) (by rw [HNv.out]; rfl) (Or.inr p2))]; rfl)
              clear p2
              have zl := HZ12.out.lt
              have z0 : w12.cell? ⟨w.heap.size, 0, none⟩ = some (.int .i64 0) := (HZ12.out.cell 0).trans rfl
              have z1 : w12.cell? ⟨w.heap.size, 1, none⟩ = some (.slice none 0 0) := (HZ12.out.cell 1).trans rfl
              have z2 : w12.cell? ⟨w.heap.size, 2, none⟩ = some (.slice none 0 0) := (HZ12.out.cell 2).trans rfl
              have y0 := HZ12.out.free 0
              have y1 := HZ12.out.free 1
              have y2 := HZ12.out.free 2
              have dl := HD12.out.lt
              have d0 : w12.cell? ⟨w.heap.size + 1, 0, none⟩ = some (.int .i64 0) := (HD12.out.cell 0).trans rfl
              have d1 : w12.cell? ⟨w.heap.size + 1, 1, none⟩ = some (.slice none 0 0) := (HD12.out.cell 1).trans rfl
              have d2 : w12.cell? ⟨w.heap.size + 1, 2, none⟩ = some (.slice none 0 0) := (HD12.out.cell 2).trans rfl
              go_wp2_with fail
              obtain ⟨s1, s2⟩ := set3 HZ12.out (.int .i64 0) (.slice none 0 0) (.slice none 0 0)
              generalize ((w12.setCell ⟨w.heap.size, 0, none⟩ (.int .i64 0)).setCell ⟨w.heap.size, 1, none⟩ (.slice none 0 0)).setCell ⟨w.heap.size, 2, none⟩ (.slice none 0 0) = w99 at s1 s2 ⊢
              have q0 := (s1.cell 0).trans rfl
              have q1 := (s1.cell 1).trans rfl
              have q2 := (s1.cell 2).trans rfl
              refine bodyPost_ret (v := .tuple #[.agg #[.int .i64 0, .slice none 0 0, .slice none 0 0], .int .i64 12]) (by simp [results, Try.results24, go_sem, q0, q1, q2]) rfl ?_
              exact GetD.no HE.out (by decide) (New.set HN12.out s2 (Nat.le_refl _))
            have e2 : decide (2147483648 < nv) = false := decide_eq_false p2
            go_wp2_with fail
            go_roundg 1
            case measure => omega
            case rel => exact ⟨4, v0, v1, v2, nv, v4, by omega, by omega, rfl, ⟨fun h => HKn.out.1 (by omega), fun h => HKn.out.2.1 (by omega), fun h => HKn.out.2.2.1 (by omega), fun _ => ⟨HNv.out, by omega⟩, fun h => by omega⟩, HY12.out, HO12.out, HZ12.out, HD12.out, HN12.out⟩
          · have hsl : ∀ wy, (Instr.slice 56 (.slice (some ax) 20 cx) (some (.int .i64 16)) none none).run Try.prog wy = .ok (.slice (some (ax.add 16)) 4 (cx - 16)) wy := fun wy => slice_from ax 20 cx 16 (by omega) (by omega) wy
            have HC := Lib.hid (HNa.out wr 16 4 (cx - 16) HN.out (by omega) (by omega) (by omega))
            rw [show ax.add 16 = ⟨ax.block, ax.off + 16, none⟩ from by unfold Addr.add; rw [if_neg (by omega)]] at HC
            obtain ⟨nv, hnv⟩ : ∃ v : Int, v = (num4 bs (6 + 20 * i + 16) : Int) := ⟨_, rfl⟩
            rw [← hnv] at HC
            have HNv := Lib.hid hnv
            clear hnv
            go_wp2_with fail
            with_reducible refine HC.out.mono ?_
            rintro e w11 ⟨rfl, hN11⟩
            have HY11 := Lib.hid (HY.out.keep hN11)
            have HO11 := Lib.hid (own_new HO.out hN11)
            have HZ11 := Lib.hid (HZ.out.keep hN11)
            have HD11 := Lib.hid (HD.out.keep hN11)
            have HN11 := Lib.hid (HN.out.then_new hN11)
            clear hN11 hsl HC
            have yl := HY11.out.lt
            have yc : w11.cell? ⟨gy, 4, none⟩ = some (.int .i64 v4) := (HY11.out.cell 4).trans rfl
            have yf := HY11.out.free 4
            obtain ⟨w12, hw12⟩ : ∃ w, w = w11.setCell ⟨gy, 4, none⟩ (.int .i64 nv) := ⟨_, rfl⟩
            have hC12 : Chg (· = gy) w11 w12 := by rw [hw12]; exact Chg.setCell (S := (· = gy)) (p := ⟨gy, 4, none⟩) (Chg.refl _ _) (fun _ => rfl) _
            have HY12 : Hid (Has w12 gy 103 #[.int .i64 v0, .int .i64 v1, .int .i64 v2, .int .i64 v3, .int .i64 nv]) := by rw [Hid, hw12]; exact HY11.out.set 4 _
            have HO12 := Lib.hid (own_chg HO11.out hC12 (fun k hk e => own_apart HO11.out HY11.out (by decide) (by rw [hk]; exact congrArg some e)))
            have HZ12 := Lib.hid (HZ11.out.chg hC12 (by omega))
            have HD12 := Lib.hid (HD11.out.chg hC12 (by omega))
            have HN12 := Lib.hid (New.set HN11.out hC12 (by omega))
            clear hC12
            go_upto_region 23 with (fail)
            rw [← hw12]
            clear hw12 yl yc yf
            have yl := HY12.out.lt
            have yc : w12.cell? ⟨gy, 4, none⟩ = some (.int .i64 nv) := (HY12.out.cell 4).trans rfl
            by_cases p2 : 2147483648 < nv
            · have e2 : decide (2147483648 < nv) = true := decide_eq_true p2
              have HE : Hid (getE bs = 12) := HE1.out.trans (by rw [get_bad hlt (lay_no (k := 4) (z := nv) (by rw [HNv.out]; rfl) (Or.inr p2))]; rfl)
              clear p2
              have zl := HZ12.out.lt
              have z0 : w12.cell? ⟨w.heap.size, 0, none⟩ = some (.int .i64 0) := (HZ12.out.cell 0).trans rfl
              have z1 : w12.cell? ⟨w.heap.size, 1, none⟩ = some (.slice none 0 0) := (HZ12.out.cell 1).trans rfl
              have z2 : w12.cell? ⟨w.heap.size, 2, none⟩ = some (.slice none 0 0) := (HZ12.out.cell 2).trans rfl
              have y0 := HZ12.out.free 0
              have y1 := HZ12.out.free 1
              have y2 := HZ12.out.free 2
              have dl := HD12.out.lt
              have d0 : w12.cell? ⟨w.heap.size + 1, 0, none⟩ = some (.int .i64 0) := (HD12.out.cell 0).trans rfl
              have d1 : w12.cell? ⟨w.heap.size + 1, 1, none⟩ = some (.slice none 0 0) := (HD12.out.cell 1).trans rfl
              have d2 : w12.cell? ⟨w.heap.size + 1, 2, none⟩ = some (.slice none 0 0) := (HD12.out.cell 2).trans rfl
              go_wp2_with fail
              obtain ⟨s1, s2⟩ := set3 HZ12.out (.int .i64 0) (.slice none 0 0) (.slice none 0 0)
              generalize ((w12.setCell ⟨w.heap.size, 0, none⟩ (.int .i64 0)).setCell ⟨w.heap.size, 1, none⟩ (.slice none 0 0)).setCell ⟨w.heap.size, 2, none⟩ (.slice none 0 0) = w99 at s1 s2 ⊢
              have q0 := (s1.cell 0).trans rfl
              have q1 := (s1.cell 1).trans rfl
              have q2 := (s1.cell 2).trans rfl
              refine bodyPost_ret (v := .tuple #[.agg #[.int .i64 0, .slice none 0 0, .slice none 0 0], .int .i64 12]) (by simp [results, Try.results24, go_sem, q0, q1, q2]) rfl ?_
              exact GetD.no HE.out (by decide) (New.set HN12.out s2 (Nat.le_refl _))
            have e2 : decide (2147483648 < nv) = false := decide_eq_false p2
            go_wp2_with fail
            go_roundg 0
            case measure => omega
            case rel => exact ⟨5, v0, v1, v2, v3, nv, by omega, by omega, rfl, ⟨fun h => HKn.out.1 (by omega), fun h => HKn.out.2.1 (by omega), fun h => HKn.out.2.2.1 (by omega), fun h => HKn.out.2.2.2.1 (by omega), fun _ => ⟨HNv.out, by omega⟩⟩, HY12.out, HO12.out, HZ12.out, HD12.out, HN12.out⟩
          · obtain ⟨⟨k0, l0⟩, ⟨k1, l1⟩, ⟨k2, l2⟩, ⟨k3, l3⟩, k4, l4⟩ : (v0 = (num4 bs (6 + 20 * i + 0) : Int) ∧ v0 ≤ 2147483648) ∧ (v1 = (num4 bs (6 + 20 * i + 4) : Int) ∧ v1 ≤ 2147483648) ∧ (v2 = (num4 bs (6 + 20 * i + 8) : Int) ∧ v2 ≤ 2147483648) ∧ (v3 = (num4 bs (6 + 20 * i + 12) : Int) ∧ v3 ≤ 2147483648) ∧ (v4 = (num4 bs (6 + 20 * i + 16) : Int) ∧ v4 ≤ 2147483648) := ⟨HKn.out.1 (by omega), HKn.out.2.1 (by omega), HKn.out.2.2.1 (by omega), HKn.out.2.2.2.1 (by omega), HKn.out.2.2.2.2 (by omega)⟩
            subst k0 k1 k2 k3 k4
            have HLy : Hid (layB (getIt bs (6 + 20 * i)) = true) := by
              simp only [Hid, layB, getIt, inB, List.all_cons, List.all_nil, Bool.and_true, Bool.and_eq_true, decide_eq_true_eq]
              rw [Nat.add_zero] at l0
              omega
            clear l0 l1 l2 l3 l4
            go_wp2_with fail
            go_meet
            exact ⟨HY.out, HLy.out, HO.out, HZ.out, HD.out, HN.out⟩
      case rest =>
        obtain ⟨hY, hly, hO, hZ, hD, hN⟩ := hcut
        have HO := Lib.hid hO
        have HZ := Lib.hid hZ
        have HD := Lib.hid hD
        have HN := Lib.hid hN
        have HLy := Lib.hid hly
        have Hg : Hid (getIts bs 6 (i + 1) = getIts bs 6 i ++ [getIt bs (6 + 20 * i)]) := rfl
        obtain ⟨y, hy⟩ : ∃ y, y = getIt bs (6 + 20 * i) := ⟨_, rfl⟩
        rw [← hy] at Hg HLy
        obtain ⟨f0, f1, f2, f3, f4⟩ := y
        simp only [getIt, It.mk.injEq] at hy
        rw [← hy.1, ← hy.2.1, ← hy.2.2.1, ← hy.2.2.2.1, ← hy.2.2.2.2] at hY
        have yl := hY.lt
        have c0 : wc.cell? ⟨gy, 0, none⟩ = some (.int .i64 f0) := (hY.cell 0).trans rfl
        have c1 : wc.cell? ⟨gy, 1, none⟩ = some (.int .i64 f1) := (hY.cell 1).trans rfl
        have c2 : wc.cell? ⟨gy, 2, none⟩ = some (.int .i64 f2) := (hY.cell 2).trans rfl
        have c3 : wc.cell? ⟨gy, 3, none⟩ = some (.int .i64 f3) := (hY.cell 3).trans rfl
        have c4 : wc.cell? ⟨gy, 4, none⟩ = some (.int .i64 f4) := (hY.cell 4).trans rfl
        clear hO hZ hD hN hly hy hY
        have hbs := HN.out.size
        go_wp2_with (at_builtin; refine wpList_push_item rfl w.heap.size hbs (.tmp 91) (.tmp 103) rfl (.slice A8 i c8) i _ rfl HO.out ⟨f0, f1, f2, f3, f4⟩ rfl (by omega) ?_; intro A' c' w' hO hC hf; have HO3 := Lib.hid hO; clear hO; have HC3 := Lib.hid hC; clear hC; clear hf)
        go_roundg (an + on - (i + 1))
        case measure => omega
        case rel => exact ⟨i + 1, A', c', by omega, rfl, by go_num, rfl, by rw [Hg.out]; exact HO3.out, by rw [Hg.out, List.all_append, HV.out]; simp [HLy.out], HZ.out.chg HC3.out (own_apart HO.out HZ.out (by decide)), HD.out.chg HC3.out (own_apart HO.out HD.out (by decide)), New.own HN.out HO.out HC3.out⟩
  case rest =>
    obtain ⟨A8, c8, hs8, hO, hv, hZ, hN⟩ := hcut
    subst hs8
    have HO := Lib.hid hO
    have HZ := Lib.hid hZ
    have HN := Lib.hid hN
    have HE : Hid (getE bs = 0) := HE1.out.trans (by rw [hv]; rfl)
    have hcap := own_cap hO
    have hnil := own_nil hO
    obtain ⟨hd1, hd2⟩ := getIts_drop bs an on
    have hIts := Its.of_own hO
    have hlt := own_lt hO
    have hlen : (getIts bs 6 (an + on)).length = an + on := getIts_len ..
    have hsl : ∃ A1 A2 : Option Addr, (∀ wy, (Instr.slice 26 (.slice A8 (an + on) c8) none (some (.int .i64 (an : Int))) none).run Try.prog wy = .ok (.slice A1 an c8) wy) ∧ (∀ wy, (Instr.slice 26 (.slice A8 (an + on) c8) (some (.int .i64 (an : Int))) none none).run Try.prog wy = .ok (.slice A2 on (c8 - an)) wy) ∧ Its wc (fun k => Value.ownBlock (.slice A8 (an + on) c8) = some k) A1 (getIts bs 6 an) ∧ Its wc (fun k => Value.ownBlock (.slice A8 (an + on) c8) = some k) A2 (getIts bs (6 + 20 * an) on) := by
      cases A8 with
      | none =>
        obtain ⟨h1, h2⟩ := hnil rfl
        obtain rfl : an = 0 := by omega
        obtain rfl : on = 0 := by omega
        subst h2
        exact ⟨none, none, fun wy => (sliceI_nil wy).1, fun wy => (sliceI_nil wy).2, Its.empty, Its.empty⟩
      | some a8 =>
        obtain ⟨a2, h1, h2⟩ := sliceI_behind a8 (an + on) c8 an (by omega) hcap
        refine ⟨some a8, some a2, fun wy => sliceI_to a8 (an + on) c8 an (by omega) wy, fun wy => ?_, by rw [← hd1]; exact hIts.take an, by rw [← hd2]; exact h2 wc _ _ hlen hIts⟩
        have := h1 wy
        rwa [show an + on - an = on by omega] at this
    obtain ⟨A1, A2, hs1, hs2, hI1, hI2⟩ := hsl
    have HI1 := Lib.hid hI1
    have HI2 := Lib.hid hI2
    have Hlt := Lib.hid hlt
    clear hO hv hZ hN hcap hnil hd1 hd2 hIts hlt hlen hI1 hI2
    have zl := HZ.out.lt
    have z0 : wc.cell? ⟨w.heap.size, 0, none⟩ = some (.int .i64 0) := (HZ.out.cell 0).trans rfl
    have z1 : wc.cell? ⟨w.heap.size, 1, none⟩ = some (.slice none 0 0) := (HZ.out.cell 1).trans rfl
    have z2 : wc.cell? ⟨w.heap.size, 2, none⟩ = some (.slice none 0 0) := (HZ.out.cell 2).trans rfl
    have y0 := HZ.out.free 0
    have y1 := HZ.out.free 1
    have y2 := HZ.out.free 2
    go_wp2_with fail
    go_region
    all_goals
      obtain ⟨s1, s2⟩ := set3 HZ.out (.int .i64 (tn : Int)) (.slice A1 an c8) (.slice A2 on (c8 - an))
      go_wp2_with fail
      generalize ((wc.setCell ⟨w.heap.size, 0, none⟩ (.int .i64 (tn : Int))).setCell ⟨w.heap.size, 1, none⟩ (.slice A1 an c8)).setCell ⟨w.heap.size, 2, none⟩ (.slice A2 on (c8 - an)) = w98 at s1 s2 ⊢
      have s3 := s1.drew
      have s4 := s2.drew
      generalize w98.drew = w99 at s3 s4 ⊢
      have q0 := (s3.cell 0).trans rfl
      have q1 := (s3.cell 1).trans rfl
      have q2 := (s3.cell 2).trans rfl
      refine bodyPost_ret (v := .tuple #[.agg #[.int .i64 (tn : Int), .slice A1 an c8, .slice A2 on (c8 - an)], .int .i64 0]) (by simp [results, Try.results24, go_sem, q0, q1, q2]) rfl ?_
      have hFF : ∀ k, Value.ownBlock (.slice A8 (an + on) c8) = some k → k < wc.heap.size ∧ ¬ k = w.heap.size := fun k hk => ⟨Hlt.out k hk, fun e => own_apart HO.out HZ.out (by decide) (by rw [hk, e])⟩
      exact GetD.yes HE.out Han.out Hon.out (by rw [Htn.out]) ((HI1.out.chg s4 hFF).mono fun k hk => Nat.lt_of_lt_of_le (Hlt.out k hk) s4.size) ((HI2.out.chg s4 hFF).mono fun k hk => Nat.lt_of_lt_of_le (Hlt.out k hk) s4.size) (New.set HN.out s4 (Nat.le_refl _))
end Go.Proofs.Ytficopkjpdfilaa
