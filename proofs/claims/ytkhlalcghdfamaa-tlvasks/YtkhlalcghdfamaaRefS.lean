import Derived.Test.YtkhlalcghdfamaaTreeMem
namespace Go.Proofs.Ytkhlalcghdfamaa
open Go.RowKit
theorem bstr_inj {a b : List Nat} (ha : ∀ x ∈ a, x < 256) (hb : ∀ x ∈ b, x < 256) (h : bstr a = bstr b) : a = b := by
  have h1 : a.map UInt8.ofNat = b.map UInt8.ofNat := by rw [← bstr_list, ← bstr_list, h]
  clear h
  induction a generalizing b with
  | nil => cases b with
    | nil => rfl
    | cons => simp at h1
  | cons x a ih => cases b with
    | nil => simp at h1
    | cons y b =>
      simp only [List.map_cons, List.cons.injEq] at h1
      have hx := ha x (by simp)
      have hy := hb y (by simp)
      have hxy : x = y := by
        have := congrArg UInt8.toNat h1.1
        rw [UInt8.toNat_ofNat', UInt8.toNat_ofNat'] at this
        omega
      rw [hxy, ih (fun z hz => ha z (by simp [hz])) (fun z hz => hb z (by simp [hz])) h1.2]
theorem drew_twice {w wr : World} {q : Nat} (h : wr = w.drewN q) (n : Nat) : ∃ q', wr.drewN n = w.drewN q' := ⟨q + n, by rw [h]; simp [World.drewN, Nat.add_assoc]⟩
theorem drew_once {w wr : World} {q : Nat} (h : wr = w.drewN q) : ∃ q', wr = w.drewN q' := ⟨q, h⟩
theorem bstr_ne {a b : List Nat} (ha : ∀ x ∈ a, x < 256) (hb : ∀ x ∈ b, x < 256) (h : a ≠ b) : ((bstr a).toList == (bstr b).toList) = false := by
  rw [beq_eq_false_iff_ne]
  intro he
  rw [bstr_list, bstr_list] at he
  exact h (bstr_inj ha hb (by simp only [bstr, he]))
set_option maxRecDepth 100000 in
set_option maxHeartbeats 4000000 in
theorem RSame_any : ∀ (N : Nat) (T U : Tr), T.size < N → ∀ (n m : Nat) (A B : Option Addr) (c d : Nat) (w : World) (F G : Nat → Prop), T.len = n → U.len = m → Lay w F A 0 T → Lay w G B 0 U → n * 56 ≤ 140737488351232 → m * 56 ≤ 140737488351232 → (∀ k, F k → k < w.heap.size) → (∀ k, G k → k < w.heap.size) →
    Calls Try.prog 14 #[.slice A n c, .slice B m d] w fun e w' => e = .returned (.bool (decide (T = U))) ∧ ∃ q, w' = w.drewN q := by
  intro N
  induction N with
  | zero => intro T U hT; omega
  | succ N ih =>
    intro T U hT n m A B c d w F G hn hm hL hM hs hsm hF hG
    have IH := Lib.hid ih; clear ih
    by_cases hnm : n = m
    · subst hnm
      have Hn := Lib.hid hn; clear hn
      have Hm := Lib.hid hm; clear hm
      have HL := Lib.hid hL; clear hL
      have HM := Lib.hid hM; clear hM
      have HT := Lib.hid hT; clear hT
      have HF := Lib.hid hF; clear hF
      have HG := Lib.hid hG; clear hG
      go_enter Try.func14, Try.ntmps14
      go_wp2_with fail
      go_loopg [5] n (fun gk i wr => ∃ (k q : Nat) (R S : Tr), k + R.len = n ∧ k + S.len = n ∧ gk = n - k ∧ i = .int .i64 k ∧ Lay w F A k R ∧ Lay w G B k S ∧ R.size < N + 1 ∧ (R = S ↔ T = U) ∧ wr = w.drewN q)
      case atStart => exact ⟨0, 0, T, U, by rw [Hn.out]; omega, by rw [Hm.out]; omega, by omega, rfl, HL.out, HM.out, HT.out, Iff.rfl, rfl⟩
      case round =>
        obtain ⟨k, q, R, S, hk, hk2, rfl, rfl, hLR, hLS, hRs, hRS, hq⟩ := hrel
        have hNq : New w wr := by rw [hq]; exact (Chg.refl _ _).drewN q
        have Hq := Lib.hid hq; clear hq
        have HRS := Lib.hid hRS; clear hRS
        cases R with
        | nil =>
          obtain rfl : k = n := by rw [← hk]; rfl
          obtain rfl : S = .nil := Tr.len_zero (by omega)
          have HTU : Hid (decide (T = U) = true) := decide_eq_true (HRS.out.1 rfl)
          clear hk hk2 hLR hLS hRs HRS hNq
          go_wp2_with fail
          go_ret
          refine ⟨?_, drew_once Hq.out⟩
          rw [HTU.out]; rfl
        | cons t bs sub rest =>
          cases S with
          | nil => simp only [Tr.len] at hk hk2; omega
          | cons t' bs' sub' rest' =>
            obtain ⟨⟨vb, B1, cb, h3, ⟨Ab, cc, rfl, hAb, hbn, hb2, hbb⟩, hnil, hsl, ht, hLs⟩, hLr⟩ := hLR
            obtain ⟨⟨vb', B1', cb', h3', ⟨Ab', cc', rfl, hAb', hbn', hb2', hbb'⟩, hnil', hsl', ht', hLs'⟩, hLr'⟩ := hLS
            obtain ⟨a, rfl, hab, h0, h1, h2⟩ := h3.chg hNq (fun k hk => ⟨HF.out k hk, fun f => f⟩)
            obtain ⟨a', rfl, hab', h0', h1', h2'⟩ := h3'.chg hNq (fun k hk => ⟨HG.out k hk, fun f => f⟩)
            clear h3 h3'
            simp only [Tr.len] at hk hk2
            simp only [Tr.size] at hRs
            have hlt : k < n := by omega
            have Hk := Lib.hid hk; clear hk
            have Hk2 := Lib.hid hk2; clear hk2
            have HLr := Lib.hid hLr; clear hLr
            have HLr' := Lib.hid hLr'; clear hLr'
            have hdr : ∀ q, New w (wr.drewN q) := fun q => hNq.drewN q
            have hconv : ∀ nq, (convert 25 9 (.slice Ab bs.length cc)).run Try.prog (wr.drewN nq) = .ok (.string (bstr bs)) (wr.drewN nq) := fun nq => arr_string Try.underlying25 Try.underlying5 Try.underlying9 (hAb.new (hdr nq) HF.out) rfl hb2 hbn
            have hconv' : ∀ nq, (convert 25 9 (.slice Ab' bs'.length cc')).run Try.prog (wr.drewN nq) = .ok (.string (bstr bs')) (wr.drewN nq) := fun nq => arr_string Try.underlying25 Try.underlying5 Try.underlying9 (hAb'.new (hdr nq) HG.out) rfl hb2' hbn'
            have hbne := Lib.hid (fun h => bstr_ne (a := bs) (b := bs') hb2 hb2' h)
            have HC : Hid (∀ nq, Calls Try.prog 14 #[.slice B1 sub.len cb, .slice B1' sub'.len cb'] (wr.drewN nq) fun e w' => e = .returned (.bool (decide (sub = sub'))) ∧ ∃ q, w' = wr.drewN q) := fun nq =>
              (IH.out sub sub' (by omega) sub.len sub'.len B1 B1' cb cb' (wr.drewN nq) F G rfl rfl (hLs.new (hdr nq) HF.out) (hLs'.new (hdr nq) HG.out) hsl hsl' (fun j hj => Nat.lt_of_lt_of_le (HF.out j hj) (hdr nq).size) (fun j hj => Nat.lt_of_lt_of_le (HG.out j hj) (hdr nq).size)).mono (by
                rintro e w' ⟨rfl, q, rfl⟩
                exact ⟨rfl, nq + q, by simp [World.drewN, Nat.add_assoc]⟩)
            have HRs := Lib.hid hRs; clear hRs
            clear hAb hAb' hbn hbn' hb2 hb2' hbb hbb' hnil hnil' hsl hsl' ht ht' hLs hLs' hab hab'
            obtain ⟨bl, hbl⟩ : ∃ bl, bl = bs.length := ⟨_, rfl⟩
            obtain ⟨bl', hbl'⟩ : ∃ bl, bl = bs'.length := ⟨_, rfl⟩
            obtain ⟨p, hp⟩ : ∃ p, p = sub.len := ⟨_, rfl⟩
            obtain ⟨p', hp'⟩ : ∃ p, p = sub'.len := ⟨_, rfl⟩
            rw [← hbl] at h1 hconv
            rw [← hbl'] at h1' hconv'
            rw [← hp] at h2 HC
            rw [← hp'] at h2' HC
            clear hbl hbl' hp hp' hdr hNq
            by_cases htt : t = t'
            · subst htt
              by_cases hbe : bs = bs'
              · subst hbe
                by_cases hse : sub = sub'
                · subst hse
                  have hd1 : decide (sub = sub) = true := by simp
                  rw [hd1] at HC
                  clear hd1 hbne
                  go_upto_region 6 with (fail)
                  go_quiet (first | (go_at_call 14; exact HC.out _))
                  go_wp2_with fail
                  go_roundg (n - (k + 1))
                  case measure => omega
                  case rel =>
                    obtain ⟨q', hq'⟩ := drew_twice Hq.out nq
                    exact ⟨k + 1, q', rest, rest', by have := Hk.out; omega, by have := Hk2.out; omega, rfl, by go_num, HLr.out, HLr'.out, by have := HRs.out; omega, by rw [← HRS.out]; simp, hq'⟩
                · have hd1 : decide (sub = sub') = false := by simpa using hse
                  rw [hd1] at HC
                  have Hse := Lib.hid hse
                  clear hd1 hbne hse
                  go_upto_region 6 with (fail)
                  go_quiet (first | (go_at_call 14; exact HC.out _))
                  go_wp2_with fail
                  go_ret
                  refine ⟨?_, drew_twice Hq.out _⟩
                  rw [decide_eq_false (fun h => by have := HRS.out.2 h; simp only [Tr.cons.injEq] at this; exact Hse.out this.2.2.1)]; rfl
              · have hbne2 := hbne.out hbe
                have Hbe := Lib.hid hbe
                clear hbne hbe HC
                go_upto_region 6 with (fail)
                go_quiet (fail)
                go_wp2_with fail
                go_ret
                refine ⟨?_, drew_twice Hq.out _⟩
                rw [decide_eq_false (fun h => by have := HRS.out.2 h; simp only [Tr.cons.injEq] at this; exact Hbe.out this.2.1)]; rfl
            · have htne : (t != t') = true := by simpa using htt
              have Htt := Lib.hid htt
              clear htt HC hbne hconv hconv'
              go_upto_region 6 with (fail)
              go_quiet (fail)
              go_wp2_with fail
              go_ret
              refine ⟨?_, drew_twice Hq.out _⟩
              rw [decide_eq_false (fun h => by have := HRS.out.2 h; simp only [Tr.cons.injEq] at this; exact Htt.out this.1)]; rfl
    · have hne : ((n : Int) == (m : Int)) = false := by simp; omega
      have Hne : Hid (¬ (T = U)) := fun h => hnm (by rw [← hn, ← hm, h])
      clear hn hm hL hM hT hF hG hnm IH
      go_enter Try.func14, Try.ntmps14
      go_wp2_with fail
      go_ret
      exact ⟨by rw [decide_eq_false Hne.out]; rfl, 0, rfl⟩
end Go.Proofs.Ytkhlalcghdfamaa
