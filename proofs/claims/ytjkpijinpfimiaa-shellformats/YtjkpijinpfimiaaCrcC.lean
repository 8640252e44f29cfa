/-
  What crc.Seal and crc.Open come to, for every input within the stated bounds.
-/
import Derived.Test.YtjkpijinpfimiaaCrcA
import Derived.Test.YtjkpijinpfimiaaSeqC
namespace Go.Proofs.Ytjkpijinpfimiaa
open Go.RowKit
/-- bytes with their sum behind -/
def sealed (bs : List Nat) : List Nat := bs ++ [crc 65535 bs / 256, crc 65535 bs % 256]
set_option maxRecDepth 100000 in
set_option maxHeartbeats 1000000 in
theorem Seal_any (A : Option Addr) (n c : Nat) (F : Nat → Prop) (L : List (List Nat)) (w : World) (hA : Lists w F A L) (hF : ∀ k, F k → k < w.heap.size) (hn : L.length = n) (hb : n ≤ 1000) (hT : L.flatten.length + 2 ≤ 140737488355328) :
    Calls Try.prog 81 #[.slice A n c] w fun e w' => ∃ A' m c', e = .returned (.slice A' m c') ∧ m = L.flatten.length + 2 ∧ w'.ownsRow w.heap.size 5 1 (.slice A' m c') m ((sealed L.flatten).map bV) ∧ New w w' := by
  obtain ⟨i0, hi, hz0, hz1, hz2⟩ := info_parts Try.info5
  have H1 := Lib.hid (Sum_any A n c F L w hA hn hb)
  have H2 := Lib.hid (Concat_any A n c F L w hA hF hn hb (by omega))
  clear hA hF hn
  have hs := crc_lt L.flatten 65535 (by omega)
  have HS : Hid (sealed L.flatten = L.flatten ++ [crc 65535 L.flatten / 256, crc 65535 L.flatten % 256]) := rfl
  obtain ⟨s, hse⟩ : ∃ s, s = crc 65535 L.flatten := ⟨_, rfl⟩
  rw [← hse] at hs HS H1
  clear hse
  obtain ⟨T, hTe⟩ : ∃ T, T = L.flatten.length := ⟨_, rfl⟩
  rw [← hTe] at hT H2 ⊢
  clear hTe
  go_enter Try.func81, Try.ntmps81
  go_wp2_with fail
  with_reducible refine H1.out.mono ?_
  rintro e w1 ⟨rfl, rfl⟩
  go_wp2_with fail
  with_reducible refine H2.out.mono ?_
  rintro e w2 ⟨A2, m, c2, rfl, rfl, hO2, hN2⟩
  have HO2 := Lib.hid hO2; clear hO2
  have HN2 := Lib.hid hN2; clear hN2
  obtain ⟨hi8, hhi⟩ : ∃ q, q = s / 256 := ⟨_, rfl⟩
  obtain ⟨lo8, hlo⟩ : ∃ q, q = s % 256 := ⟨_, rfl⟩
  rw [← hhi, ← hlo] at HS
  have f0 : (s : Int) / 256 = (hi8 : Int) := by omega
  have f1 : IntKind.u8.wrap (hi8 : Int) = (hi8 : Int) := by rw [IntKind.wrap_u8]; omega
  have f2 : IntKind.u8.wrap (s : Int) = (lo8 : Int) := by rw [IntKind.wrap_u8]; omega
  clear hhi hlo hs
  go_wp2_with (first | (at_builtin; refine wpList_append_src rfl _ _ 22 rfl w1.heap.size 5 i0 (.int .u8 0) 1 1 Try.underlying22 hi hz0 hz1 hz2 rfl (by decide) _ m _ rfl (HO2.out.alloc _) (some ⟨w2.heap.size, 0, none⟩) 2 2 [bV hi8, bV lo8] rfl (by intro h; cases h) rfl (has_news (Has.new w2 5 #[bV hi8, bV lo8])) (by intro u hu; simp at hu; rcases hu with rfl | rfl <;> rfl) (by simp only [maxLen]; omega) (by omega) (by have := HN2.out.size; simp; omega) ?_; intro A3 c3 w3 hO3 hC3 hf3; have HO3 := Lib.hid hO3; have HC3 := Lib.hid hC3; clear hO3 hC3 hf3) | go_in)
  go_ret
  refine ⟨A3, m + 2, c3, rfl, rfl, ?_, ?_⟩
  · rw [HS.out, List.map_append]; exact HO3.out
  · exact (HN2.out.alloc _).trans HC3.out (fun i hi hk => by have := (HO2.out.lt i hk).1; omega)
def openE (bs : List Nat) : Int := if bs.length < 2 then 10 else if crc 65535 bs = 0 then 0 else 13
def openB (bs : List Nat) : List Nat := if openE bs = 0 then bs.take (bs.length - 2) else []
set_option maxRecDepth 100000 in
set_option maxHeartbeats 1000000 in
theorem Open_short (A : Option Addr) (n c : Nat) (w : World) (hn : n < 2) :
    Calls Try.prog 75 #[.slice A n c] w fun e w' => e = .returned (.tuple #[.slice none 0 0, .int .i64 10]) ∧ w' = w := by
  have h : decide ((n : Int) < 2) = true := by simp only [decide_eq_true_eq]; omega
  go_enter Try.func75, Try.ntmps75
  go_wp2
  go_ret2
  exact ⟨rfl, rfl⟩
theorem Sum_one (g : Nat) (v : Value) (F : Nat → Prop) (bs : List Nat) (w : World) (hg : Has w g 22 #[v]) (hv : Byts w F v bs) :
    Calls Try.prog 83 #[.slice (some ⟨g, 0, none⟩) 1 1] w fun e w' => e = .returned (.int .i64 (crc 65535 bs : Nat)) ∧ w' = w := by
  have h := Sum_any (some ⟨g, 0, none⟩) 1 1 _ [bs] w (Lists.one hg hv) rfl (by omega)
  simpa using h
/-- what Open has come to, of m bytes and two behind -/
def OpenR (bs : List Nat) (hi8 lo8 m : Nat) (w : World) (e : Ending) (w' : World) : Prop :=
  ∃ A' q c' er, e = .returned (.tuple #[.slice A' q c', .int .i64 er]) ∧ (if crc 65535 bs = 256 * hi8 + lo8 then er = 0 ∧ q = m ∧ w'.ownsRow w.heap.size 5 1 (.slice A' q c') q (bs.map bV) else er = 13 ∧ q = 0 ∧ A' = none ∧ c' = 0) ∧ New w w'
set_option maxRecDepth 100000 in
set_option maxHeartbeats 1000000 in
theorem Open_long (A : Option Addr) (n m c : Nat) (F : Nat → Prop) (bs : List Nat) (hi8 lo8 : Nat) (w : World) (hA : Arr w F A n (fun i => bV ((bs ++ [hi8, lo8]).getD i 0))) (hF : ∀ k, F k → k < w.heap.size) (hl : bs.length = m) (hn : n = m + 2) (hc : n ≤ c) (hm : n ≤ 140737488355328) (h256 : ∀ x ∈ bs, x < 256) (h1 : hi8 < 256) (h2 : lo8 < 256) :
    Calls Try.prog 75 #[.slice A n c] w (OpenR bs hi8 lo8 m w) := by
  obtain ⟨a, rfl, hab, hc0⟩ := hA m (by omega)
  obtain ⟨a', ha', _, hc1⟩ := hA (m + 1) (by omega)
  simp only [Option.some.injEq] at ha'
  subst ha'
  have e0 : (bs ++ [hi8, lo8]).getD m 0 = hi8 := by subst hl; simp
  have e1 : (bs ++ [hi8, lo8]).getD (m + 1) 0 = lo8 := by subst hl; simp
  simp only [e0, e1] at hc0 hc1
  have hB : Arr w F (some a) m (fun i => bV (bs.getD i 0)) := fun i hi => by
    obtain ⟨a', ha', hb', hc'⟩ := hA i (by omega)
    refine ⟨a', ha', hb', ?_⟩
    rw [hc']
    exact congrArg (fun x => some (bV x)) (getD_left bs _ i (by omega))
  have HB := Lib.hid hB; clear hB hA
  have Hl := Lib.hid hl; clear hl
  have HF := Lib.hid hF; clear hF
  have H256 := Lib.hid h256; clear h256
  have Hn := Lib.hid hn
  have g0 : (n : Int) - 2 = (m : Int) := by omega
  have g1 : decide ((n : Int) < 2) = false := by simp only [decide_eq_false_iff_not]; omega
  have g2 : (m : Int) ≤ (c : Int) := by omega
  have g3 : (m : Int) ≤ (n : Int) := by omega
  have g4 : m ≤ c := by omega
  have g5 : m ≤ n := by omega
  have Hc0 := Lib.hid hc0
  have Hc1 := Lib.hid hc1
  clear hn e0 e1 hc0 hc1
  go_enter Try.func75, Try.ntmps75
  go_wp2_with fail
  go_quiet (fail)
  have hnm : n - m = 2 := by have := Hn.out; omega
  rw [hnm]
  obtain ⟨w0, hw0⟩ : ∃ w0, w0 = w.drewN nq := ⟨_, rfl⟩
  rw [← hw0]
  have hN0 : New w w0 := by rw [hw0]; exact (Chg.refl _ _).drewN _
  have hd0 : w0.cell? (a.add m) = some (.int .u8 (hi8 : Int)) := by rw [hw0]; exact Hc0.out
  have hd1 : w0.cell? ((a.add m).add 1) = some (.int .u8 (lo8 : Int)) := by rw [hw0, Deep.add_add]; exact Hc1.out
  obtain ⟨a2, ha2⟩ : ∃ a2, a2 = a.add m := ⟨_, rfl⟩
  rw [← ha2] at hd0 hd1 ⊢
  have hadd : a2.add 1 = ⟨a2.block, a2.off + 1, none⟩ := by unfold Addr.add; simp
  rw [hadd] at hd1
  clear ha2 hw0 hadd
  have HK : Hid (∀ wy, New w0 wy → wy.cell? a2 = some (.int .u8 (hi8 : Int)) ∧ wy.cell? ⟨a2.block, a2.off + 1, none⟩ = some (.int .u8 (lo8 : Int))) := fun wy h =>
    ⟨(h.cell (World.block_lt_of_cell? _ _ hd0) (fun f => f)).trans hd0, (h.cell (World.block_lt_of_cell? _ _ hd1) (fun f => f)).trans hd1⟩
  have HBy : Hid (∀ wy, New w0 wy → Byts wy F (.slice (some a) m c) bs) := fun wy h =>
    ⟨some a, c, by rw [Hl.out], by rw [Hl.out]; exact HB.out.new (hN0.then_new h) HF.out, (fun h => by cases h), H256.out, by rw [Hl.out]; omega⟩
  have HN0 := Lib.hid hN0; clear hN0
  have hs := crc_lt bs 65535 (by omega)
  obtain ⟨s, hse⟩ : ∃ s, s = crc 65535 bs := ⟨_, rfl⟩
  rw [← hse] at hs
  have HSum : Hid (∀ g wy, Has wy g 22 #[.slice (some a) m c] → New w0 wy → Calls Try.prog 83 #[.slice (some ⟨g, 0, none⟩) 1 1] wy fun e w' => e = .returned (.int .i64 (s : Int)) ∧ w' = wy) := fun g wy h1 h2 => by
    rw [hse]; exact Sum_one g _ F bs wy h1 (HBy.out wy h2)
  have Hse := Lib.hid hse; clear hse
  have f1 : bits .or .i64 ((hi8 : Int) * 256) (lo8 : Int) = ((256 * hi8 + lo8 : Nat) : Int) := by
    have h := i64_or_small (256 * hi8) lo8 (by omega) (by omega)
    rw [or_bytes hi8 lo8 h2, Int.natCast_mul, Int.mul_comm] at h
    exact h
  obtain ⟨t, ht⟩ : ∃ t, t = 256 * hi8 + lo8 := ⟨_, rfl⟩
  rw [← ht] at f1
  have Ht := Lib.hid ht; clear ht
  have k1 : IntKind.i64.wrap (hi8 : Int) = (hi8 : Int) := IntWalk.i64_in _ (by omega)
  have k2 : IntKind.i64.wrap (lo8 : Int) = (lo8 : Int) := IntWalk.i64_in _ (by omega)
  have k3 : IntKind.i64.wrap ((hi8 : Int) * 256) = (hi8 : Int) * 256 := IntWalk.i64_in _ (by omega)
  have k4 : ((s : Int) != (t : Int)) = decide (s ≠ t) := by
    by_cases h : s = t
    · subst h; simp
    · have : (s : Int) ≠ (t : Int) := by omega
      simp [h, this]
  go_upto_region 4 with (fail)
  go_cut [32] (fun s32 wc => s32 = .bool (decide (s ≠ t)) ∧ New w0 wc)
  case first =>
    go_region_held3 (fun w' => w'.cell? a2 = some (.int .u8 (hi8 : Int)) ∧ w'.cell? ⟨a2.block, a2.off + 1, none⟩ = some (.int .u8 (lo8 : Int)))
      (exact HK.out _ (by repeat (first | exact Chg.refl _ _ | refine Chg.alloc ?_ _ | refine Chg.drew ?_)))
      (first | (go_at_call 83; (with_reducible refine (HSum.out _ _ (by first | exact Has.new _ _ _ | exact (Has.new _ _ _).drew) (by repeat (first | exact Chg.refl _ _ | refine Chg.alloc ?_ _ | refine Chg.drew ?_))).mono ?_); rintro e w' ⟨rfl, rfl⟩))
    all_goals
      go_wp2
      go_meet
      case rel => exact ⟨by simp, by repeat (first | exact Chg.refl _ _ | refine Chg.alloc ?_ _ | refine Chg.drew ?_)⟩
  case rest =>
    obtain ⟨rfl, hNc⟩ := hcut
    have HNc := Lib.hid hNc; clear hNc hd0 hd1 k4 f1
    by_cases hst : s = t
    · have hd : decide (s ≠ t) = false := by simp [hst]
      rw [hd]
      have HC : Hid (Calls Try.prog 47 #[.slice (some a) m c] wc fun e w' => ∃ A' c', e = .returned (.slice A' m c') ∧ w'.ownsRow wc.heap.size 5 1 (.slice A' m c') m ((List.range m).map (fun i => bV (bs.getD i 0))) ∧ New wc w') :=
        clone_any (some a) m c F _ wc (HB.out.new (HN0.out.then_new HNc.out) HF.out) (fun h => by cases h) (fun i hi => rfl) (by have := Hn.out; omega)
      have HM : Hid ((List.range m).map (fun i => bV (bs.getD i 0)) = bs.map bV) := by rw [Hid, ← Hl.out, map_getD_bV]
      rw [HM.out] at HC
      clear hd
      go_wp2_with fail
      with_reducible refine HC.out.mono ?_
      rintro e w' ⟨A', c', rfl, hO, hN⟩
      have HO := Lib.hid hO; clear hO
      have HN := Lib.hid hN; clear hN
      go_wp2
      go_ret2
      have hNw := HN0.out.then_new HNc.out
      refine ⟨A', m, c', 0, rfl, ?_, hNw.then_new HN.out⟩
      rw [if_pos (by rw [← Hse.out, ← Ht.out, hst])]
      exact ⟨rfl, rfl, own_base HO.out (fun k hk => Nat.le_trans hNw.size (HO.out.lt k hk).1)⟩
    · have hd : decide (s ≠ t) = true := by simp [hst]
      rw [hd]
      clear hd
      have Hst := Lib.hid hst; clear hst
      go_wp2
      go_ret2
      refine ⟨none, 0, 0, 13, rfl, ?_, HN0.out.then_new HNc.out⟩
      rw [if_neg (by rw [← Hse.out, ← Ht.out]; exact Hst.out)]
      exact ⟨rfl, rfl, rfl, rfl⟩

theorem Seal_one (g : Nat) (v : Value) (F : Nat → Prop) (bs : List Nat) (w : World) (hg : Has w g 22 #[v]) (hv : Byts w F v bs) (hF : ∀ k, F k → k < w.heap.size) (hT : bs.length + 2 ≤ 140737488355328) :
    Calls Try.prog 81 #[.slice (some ⟨g, 0, none⟩) 1 1] w fun e w' => ∃ A' m c', e = .returned (.slice A' m c') ∧ m = bs.length + 2 ∧ w'.ownsRow w.heap.size 5 1 (.slice A' m c') m ((sealed bs).map bV) ∧ New w w' := by
  have h := Seal_any (some ⟨g, 0, none⟩) 1 1 _ [bs] w (Lists.one hg hv) (fun k hk => by
    rcases hk with hk | rfl
    · exact hF k hk
    · exact hg.lt) rfl (by omega) (by simpa using hT)
  simpa using h
theorem sealed_length (bs : List Nat) : (sealed bs).length = bs.length + 2 := by simp [sealed]
theorem sealed_lt (bs : List Nat) (h : ∀ x ∈ bs, x < 256) : ∀ x ∈ sealed bs, x < 256 := by
  have hs := crc_lt bs 65535 (by omega)
  intro x hx
  simp only [sealed, List.mem_append, List.mem_cons, List.not_mem_nil, or_false] at hx
  rcases hx with hx | rfl | rfl
  · exact h x hx
  · omega
  · omega
theorem sealed_crc (bs : List Nat) : crc 65535 (sealed bs) = 0 := by
  have hs := crc_lt bs 65535 (by omega)
  exact (crc_sealed bs (by omega) (by omega) (by omega)).2 (by omega)
theorem sealed_openE (bs : List Nat) : openE (sealed bs) = 0 := by
  unfold openE
  rw [if_neg (by rw [sealed_length]; omega), if_pos (sealed_crc bs)]
theorem sealed_openB (bs : List Nat) : openB (sealed bs) = bs := by
  unfold openB
  rw [if_pos (sealed_openE bs), sealed_length, Nat.add_sub_cancel, sealed, List.take_left]
theorem openB_le (bs : List Nat) : (openB bs).length ≤ bs.length := by
  unfold openB
  split
  · rw [List.length_take]; omega
  · simp
theorem openB_lt (bs : List Nat) (h : ∀ x ∈ bs, x < 256) : ∀ x ∈ openB bs, x < 256 := by
  intro x hx
  unfold openB at hx
  split at hx
  · exact h x (List.mem_of_mem_take hx)
  · cases hx
theorem Open_any (A : Option Addr) (n c : Nat) (F : Nat → Prop) (bs : List Nat) (w : World) (hA : Arr w F A n (fun i => bV (bs.getD i 0))) (hF : ∀ k, F k → k < w.heap.size) (hl : bs.length = n) (hc : n ≤ c) (hm : n ≤ 140737488355328) (h256 : ∀ x ∈ bs, x < 256) :
    Calls Try.prog 75 #[.slice A n c] w fun e w' => ∃ A' q c', e = .returned (.tuple #[.slice A' q c', .int .i64 (openE bs)]) ∧ q = (openB bs).length ∧ w'.ownsRow w.heap.size 5 1 (.slice A' q c') q ((openB bs).map bV) ∧ New w w' := by
  by_cases h2 : n < 2
  · have hE : openE bs = 10 := by unfold openE; rw [if_pos (by omega)]
    have hB : openB bs = [] := by unfold openB; rw [hE]; rfl
    refine (Open_short A n c w h2).mono ?_
    rintro e w' ⟨rfl, rfl⟩
    rw [hE, hB]
    exact ⟨none, 0, 0, rfl, rfl, World.ownsRow_nil _ _ _ _, Chg.refl _ _⟩
  · obtain ⟨m, rfl⟩ : ∃ m, n = m + 2 := ⟨n - 2, by omega⟩
    have hlt := last_two bs m hl
    have hA' : Arr w F A (m + 2) (fun i => bV ((bs.take m ++ [bs.getD m 0, bs.getD (m + 1) 0]).getD i 0)) := by rw [← hlt]; exact hA
    have ht : (bs.take m).length = m := by rw [List.length_take]; omega
    have hh1 := getD_lt bs h256 m
    have hh2 := getD_lt bs h256 (m + 1)
    have hcs := crc_sealed (s := 65535) (bs.take m) (by omega) hh1 hh2
    rw [← hlt] at hcs
    refine (Open_long A (m + 2) m c F (bs.take m) _ _ w hA' hF ht rfl hc hm (fun x hx => h256 x (List.mem_of_mem_take hx)) hh1 hh2).mono ?_
    rintro e w' ⟨A', q, c', er, rfl, hr, hN⟩
    by_cases h : crc 65535 (bs.take m) = 256 * bs.getD m 0 + bs.getD (m + 1) 0
    · rw [if_pos h] at hr
      obtain ⟨rfl, rfl, hO⟩ := hr
      have hE : openE bs = 0 := by unfold openE; rw [if_neg (by omega), if_pos (hcs.2 h)]
      have hB : openB bs = bs.take q := by unfold openB; rw [if_pos hE, hl, Nat.add_sub_cancel]
      rw [hE, hB]
      exact ⟨A', q, c', rfl, ht.symm, hO, hN⟩
    · rw [if_neg h] at hr
      obtain ⟨rfl, rfl, rfl, rfl⟩ := hr
      have hE : openE bs = 13 := by unfold openE; rw [if_neg (by omega), if_neg (fun h' => h (hcs.1 h'))]
      have hB : openB bs = [] := by unfold openB; rw [hE]; rfl
      rw [hE, hB]
      exact ⟨none, 0, 0, rfl, rfl, World.ownsRow_nil _ _ _ _, hN⟩
theorem Open_own (A : Option Addr) (n c base : Nat) (bs : List Nat) (w : World) (h : w.ownsRow base 5 1 (.slice A n c) n (bs.map bV)) (hm : n ≤ 140737488355328) (h256 : ∀ x ∈ bs, x < 256) :
    Calls Try.prog 75 #[.slice A n c] w fun e w' => ∃ A' q c', e = .returned (.tuple #[.slice A' q c', .int .i64 (openE bs)]) ∧ q = (openB bs).length ∧ w'.ownsRow w.heap.size 5 1 (.slice A' q c') q ((openB bs).map bV) ∧ New w w' :=
  Open_any A n c _ bs w (own_arr_bs (own_length h) h) (own_below h) (own_length h) (own_cap h) hm h256

end Go.Proofs.Ytjkpijinpfimiaa
