/-
  What the document's own Done comes to: an image behind the first writes.
-/
import Derived.Test.YtjkpijinpfimiaaRefX
namespace Go.Proofs.Ytjkpijinpfimiaa
open Go.RowKit
theorem done_step {rs : List Wr} {r : Wr} : ∀ {i : Nat} {B : List Nat}, rs[i]? = some r → doneI B rs (i + 1) = splice (doneI B rs i) (32 * r.1) r.2 := by
  induction rs with
  | nil => intro i B h; simp at h
  | cons q rs ih =>
    intro i B h
    cases i with
    | zero =>
      simp only [List.getElem?_cons_zero, Option.some.injEq] at h
      subst h
      cases rs <;> rfl
    | succ i =>
      simp only [List.getElem?_cons_succ] at h
      exact ih h
theorem done_all {rs : List Wr} : ∀ {m : Nat} {B : List Nat}, rs.length ≤ m → doneI B rs m = doneI B rs rs.length := by
  induction rs with
  | nil => intro m B _; cases m <;> rfl
  | cons q rs ih =>
    intro m B h
    cases m with
    | zero => simp at h
    | succ m => exact ih (by simpa using h)
theorem splice_step {B x : List Nat} {off k : Nat} (hx : x.length = 32) (hk : k < 32) (hB : off + 32 ≤ B.length) : (splice B off (x.take k)).set (off + k) (x.getD k 0) = splice B off (x.take (k + 1)) := by
  unfold splice
  have h1 : (x.take k).length = k := by simp; omega
  have h2 : (x.take (k + 1)).length = k + 1 := by simp; omega
  have h3 : (B.take off).length = off := by simp; omega
  rw [h1, h2, List.set_append_right _ _ (by omega), h3, Nat.add_sub_cancel_left, List.set_append_right _ _ (by omega), h1, Nat.sub_self, List.take_add_one, List.getElem?_eq_getElem (by omega), Option.toList_some, List.append_assoc]
  congr 2
  rw [List.drop_eq_getElem_cons (show off + k < B.length by omega), List.set_cons_zero, List.getD_eq_getElem?_getD, List.getElem?_eq_getElem (by omega)]
  rfl
theorem splice_none (B x : List Nat) (off : Nat) : splice B off (x.take 0) = B := by unfold splice; simp
/-- one write in a slice of writes -/
def RwAt (w : World) (F : Nat → Prop) (A : Option Addr) (j : Nat) (r : Wr) : Prop :=
  ∃ a LA lc, A = some a ∧ F a.block ∧ w.cell? (a.add (j * 2)) = some (.int .i64 (r.1 : Int)) ∧ w.cell? ⟨(a.add (j * 2)).block, (a.add (j * 2)).off + 1, none⟩ = some (.slice LA 32 lc) ∧ Arr w F LA 32 (fun i => bV (r.2.getD i 0))
def Rws (w : World) (F : Nat → Prop) (A : Option Addr) (rs : List Wr) : Prop := ∀ j r, rs[j]? = some r → RwAt w F A j r
theorem RwAt.chg {w w' : World} {F S : Nat → Prop} {A : Option Addr} {j : Nat} {r : Wr} (h : RwAt w F A j r) (c : Chg S w w') (hF : ∀ k, F k → k < w.heap.size ∧ ¬ S k) : RwAt w' F A j r := by
  obtain ⟨a, LA, lc, rfl, hb, h0, h1, h2⟩ := h
  have hb1 : (a.add (j * 2)).block < w.heap.size := by rw [add_block]; exact (hF _ hb).1
  have hb2 : ¬ S (a.add (j * 2)).block := by rw [add_block]; exact (hF _ hb).2
  exact ⟨a, LA, lc, rfl, hb, (c.cell hb1 hb2).trans h0, (c.cell (p := ⟨(a.add (j * 2)).block, _, none⟩) hb1 hb2).trans h1, h2.chg c hF⟩
theorem Rws.new {w w' : World} {F : Nat → Prop} {A : Option Addr} {rs : List Wr} (h : Rws w F A rs) (c : New w w') (hF : ∀ k, F k → k < w.heap.size) : Rws w' F A rs := fun j r hr => (h j r hr).chg c fun k hk => ⟨hF k hk, fun f => f⟩
set_option maxRecDepth 100000 in
set_option maxHeartbeats 8000000 in
theorem rDone_any (A0 : Option Addr) (c0 : Nat) (A : Option Addr) (n c m : Nat) (F : Nat → Prop) (P : List Nat) (rs : List Wr) (w : World) (hA : Arr w F A0 512 (fun i => bV (P.getD i 0))) (hnil : A0 = none → 512 = 0 ∧ c0 = 0) (hF : ∀ k, F k → k < w.heap.size) (hl : P.length = 512) (hb : ∀ x ∈ P, x < 256) (hR : Rws w F A rs) (hn : rs.length = n) (hn3 : n ≤ 3) (hf : ∀ r ∈ rs, Wr.fine r) :
    Calls Try.prog 25 #[.slice A0 512 c0, .slice A n c, .int .i64 m] w fun e w' => ∃ A' c', e = .returned (.slice A' 512 c') ∧ w'.ownsRow w.heap.size 5 1 (.slice A' 512 c') 512 ((doneI P rs m).map bV) ∧ New w w' := by
  have HA := Lib.hid hA; clear hA
  have Hnil := Lib.hid hnil; clear hnil
  have HF := Lib.hid hF; clear hF
  have Hl := Lib.hid hl; clear hl
  have Hb := Lib.hid hb; clear hb
  have HRw := Lib.hid hR; clear hR
  have Hn := Lib.hid hn; clear hn
  have Hf := Lib.hid hf; clear hf
  have HD : Hid (∀ i, (doneI P rs i).length = 512 ∧ ∀ x ∈ doneI P rs i, x < 256) := fun i => done_fine Hl.out Hb.out Hf.out i
  go_enter Try.func25, Try.ntmps25
  go_wp2_with (at_builtin; refine wpList_copy rfl _ _ rfl rfl A0 512 c0 P F rfl HA.out HF.out Hl.out Hnil.out (by omega) ?_; intro O co w1 hO1 hN1; have HO1 := Lib.hid hO1; have HN1 := Lib.hid hN1; clear hO1 hN1)
  obtain ⟨q, rfl, hqq⟩ := own_some HO1.out (i := 0) (by omega)
  clear hqq
  have Hq : Hid (w.heap.size ≤ q) := (HO1.out.lt q rfl).1
  obtain ⟨N, hN⟩ : ∃ N, N = min n m := ⟨_, rfl⟩
  have hN1 : N ≤ n := by omega
  have hN2 : N ≤ m := by omega
  have HNd : Hid (n ≤ N ∨ m ≤ N) := by show _ ∨ _; omega
  clear hN
  go_loopg [8] N (fun gk x wr => ∃ i : Nat, i ≤ N ∧ gk = N - i ∧ x = .int .i64 i ∧ wr.ownsRow w.heap.size 5 1 (.slice (some ⟨q, 0, none⟩) 512 co) 512 ((doneI P rs i).map bV) ∧ New w wr)
  case atStart => exact ⟨0, by omega, by omega, rfl, by cases rs <;> exact HO1.out, HN1.out⟩
  case round =>
    clear HO1 HN1
    obtain ⟨i, hi, rfl, rfl, hO, hNr⟩ := hrel
    have HO := Lib.hid hO; clear hO
    have HNr := Lib.hid hNr; clear hNr
    by_cases hlt : i < N
    · obtain ⟨r, hr⟩ : ∃ r, rs[i]? = some r := ⟨_, List.getElem?_eq_getElem (by rw [Hn.out]; omega)⟩
      have hfr := Hf.out r (List.mem_of_getElem? hr)
      obtain ⟨s, hs⟩ : ∃ s, s = r.1 := ⟨_, rfl⟩
      obtain ⟨x, hx⟩ : ∃ x, x = r.2 := ⟨_, rfl⟩
      have hs16 : s < 16 := by rw [hs]; exact hfr.lt
      have Hx32 : Hid (x.length = 32) := by rw [hx]; exact hfr.len
      have Hxs : Hid (∀ y ∈ x, y < 256) := by rw [hx]; exact hfr.small
      have Hst : Hid (doneI P rs (i + 1) = splice (doneI P rs i) (32 * s) x) := by rw [hs, hx]; exact done_step hr
      obtain ⟨a, LA, lc, rfl, hab, _, _, _⟩ := HRw.out i r hr
      have HK : Hid (∀ wx, New w wx → ∃ LA lc, wx.cell? (a.add (i * 2)) = some (.int .i64 (s : Int)) ∧ wx.cell? ⟨(a.add (i * 2)).block, (a.add (i * 2)).off + 1, none⟩ = some (.slice LA 32 lc) ∧ Arr wx F LA 32 (fun j => bV (x.getD j 0))) := by
        intro wx hwx
        obtain ⟨a', LA, lc, ha, _, h0, h1, h2⟩ := (HRw.out.new hwx HF.out) i r hr
        cases ha
        rw [hs, hx]
        exact ⟨LA, lc, h0, h1, h2⟩
      clear hs hx hfr hr
      have ti : decide ((i : Int) < m) = true := by simp only [decide_eq_true_eq]; omega
      have ti2 : decide ((i : Int) < n) = true := by simp only [decide_eq_true_eq]; omega
      obtain ⟨D, hD⟩ : ∃ D, D = doneI P rs i := ⟨_, rfl⟩
      have HDl : Hid (D.length = 512) := by rw [hD]; exact (HD.out i).1
      have HDs : Hid (∀ y ∈ D, y < 256) := by rw [hD]; exact (HD.out i).2
      rw [← hD] at HO Hst
      clear hD
      go_wp2_with fail
      go_loopg [9] 32 (fun gk y wy => ∃ k : Nat, k ≤ 32 ∧ gk = 32 - k ∧ y = .int .i64 k ∧ wy.ownsRow w.heap.size 5 1 (.slice (some ⟨q, 0, none⟩) 512 co) 512 ((splice D (32 * s) (x.take k)).map bV) ∧ New w wy)
      case atStart => exact ⟨0, by omega, by omega, rfl, by rw [splice_none]; exact HO.out, HNr.out⟩
      case round =>
        clear HO HNr
        obtain ⟨k, hk, rfl, rfl, hO, hNy⟩ := hrel
        have HO := Lib.hid hO
        have HNy := Lib.hid hNy
        by_cases hkl : k < 32
        · obtain ⟨LA, lc, h0, h1, h2⟩ := HK.out wr hNy
          obtain ⟨b, rfl, hbb, hbc⟩ := h2 k hkl
          obtain ⟨y, hy⟩ : ∃ y, y = x.getD k 0 := ⟨_, rfl⟩
          replace hbc : wr.cell? (b.add k) = some (.int .u8 (y : Int)) := by rw [hy]; exact hbc
          have hst := splice_step (B := D) (x := x) (off := 32 * s) (k := k) Hx32.out hkl (by rw [HDl.out]; omega)
          rw [← hy] at hst
          have Hst2 := Lib.hid hst
          obtain ⟨y', hyc, _, hyf⟩ := own_byte (t := 32 * s + k) hO (splice_small HDs.out (fun z hz => Hxs.out z (List.mem_of_mem_take hz))) (by omega)
          have HT := Lib.hid (own_turn (t := 32 * s + k) (z := y) hO)
          have i0 : 0 ≤ 32 * (s : Int) + (k : Int) := by omega
          have i1 : 32 * (s : Int) + (k : Int) < 512 := by omega
          have i2 : (32 * (s : Int) + (k : Int)).toNat = 32 * s + k := by omega
          have w1' : IntKind.i64.wrap (32 * (s : Int)) = 32 * (s : Int) := IntWalk.i64_in _ (by omega)
          have w2' : IntKind.i64.wrap (32 * (s : Int) + (k : Int)) = 32 * (s : Int) + (k : Int) := IntWalk.i64_in _ (by omega)
          clear hO hNy h2 hst hy
          go_upto_region 8 with (fail)
          go_region
          go_wp2_with fail
          go_roundg (32 - (k + 1))
          case measure => omega
          case rel =>
            refine ⟨k + 1, by omega, rfl, by go_num, ?_, ?_⟩
            · rw [← Hst2.out]; exact own_new HT.out.1 (Chg.refl _ _).drew
            · exact (HNy.out.trans HT.out.2 (fun j hj h => by have := Hq.out; omega)).drew
        · obtain rfl : k = 32 := by omega
          have HO2 : Hid (wr.ownsRow w.heap.size 5 1 (.slice (some ⟨q, 0, none⟩) 512 co) 512 ((doneI P rs (i + 1)).map bV)) := by
            rw [Hid, Hst.out]
            have h := HO.out
            rw [List.take_of_length_le (by rw [Hx32.out]; omega)] at h
            exact h
          clear hO hNy HO
          go_wp2_with fail
          go_roundg (N - (i + 1))
          case measure => omega
          case rel => exact ⟨i + 1, by omega, rfl, by go_num, HO2.out, HNy.out⟩
    · obtain rfl : i = N := by omega
      have HO2 : Hid (wr.ownsRow w.heap.size 5 1 (.slice (some ⟨q, 0, none⟩) 512 co) 512 ((doneI P rs m).map bV)) := by
        have e : doneI P rs m = doneI P rs i := by
          rcases HNd.out with h | h
          · rw [done_all (m := m) (by rw [Hn.out]; omega), done_all (m := i) (by rw [Hn.out]; omega)]
          · have : i = m := by omega
            rw [this]
        rw [Hid, e]
        exact HO.out
      have hall : decide ((i : Int) < n) = false ∨ (decide ((i : Int) < n) = true ∧ decide ((i : Int) < m) = false) := by
        have := HNd.out
        simp only [decide_eq_false_iff_not, decide_eq_true_eq]
        omega
      clear HO
      rcases hall with t0 | ⟨t0, t1⟩
      · have t2 : ¬ (i < n) := by simp only [decide_eq_false_iff_not] at t0; omega
        go_wp2_with fail
        go_ret
        exact ⟨_, _, rfl, HO2.out, HNr.out⟩
      · have t2 : i < n := by simp only [decide_eq_true_eq] at t0; omega
        have t3 : ¬ ((i : Int) < m) := by simpa using t1
        go_wp2_with fail
        go_ret
        exact ⟨_, _, rfl, HO2.out, HNr.out⟩
end Go.Proofs.Ytjkpijinpfimiaa
