/-
  What (*bits.Reader).Err, Left and Take do, for every input within the stated bounds.
-/
import Derived.Test.YtjkpijinpfimiaaBRa
namespace Go.Proofs.Ytjkpijinpfimiaa
open Go.RowKit

theorem rd_left (b : Nat) (bs : List Nat) (p : Nat) (er : Int) (w : World) (h : Rd w b bs p er) (hl : bs.length ≤ 1152921504606846975) (hp : p ≤ 8 * bs.length) :
    Calls Try.prog 85 #[.pointer (some ⟨b, 0, none⟩)] w fun e w' => e = .returned (.int .i64 (8 * bs.length - p)) ∧ ∃ k, w' = w.drewN k := by
  obtain ⟨A, c, hH, _⟩ := h
  exact left_any b A bs.length c p er w hl (by omega) (by omega) hH

theorem own_own_apart {w : World} {base e size n base' e' size' n' : Nat} {v v' : Value} {xs xs' : List Value} (h : w.ownsRow base e size v n xs) (h' : w.ownsRow base' e' size' v' n' xs') (hne : e ≠ e') (k : Nat) (hk : v.ownBlock = some k) : v'.ownBlock ≠ some k := by
  rcases h.2 with ⟨rfl, _⟩ | ⟨g, cap, cur, rfl, _, hh, _⟩
  · simp [Value.ownBlock] at hk
  · have : g = k := by simpa [Value.ownBlock] using hk
    subst this
    exact own_apart (t := e) h' hh (fun e => hne e.symm)
theorem Rd.has {w : World} {b : Nat} {bs : List Nat} {p : Nat} {er : Int} (h : Rd w b bs p er) : ∃ cs, Has w b 126 cs := by
  obtain ⟨A, c, hH, _⟩ := h
  exact ⟨_, hH⟩
theorem Rd.beside {w w' : World} {b : Nat} {bs : List Nat} {p : Nat} {er : Int} (h : Rd w b bs p er) {base e size n : Nat} {v : Value} {xs : List Value} (ho : w.ownsRow base e size v n xs) (h5 : e ≠ 5) (h54 : e ≠ 126) (c : Chg (fun k => v.ownBlock = some k) w w') : Rd w' b bs p er := by
  obtain ⟨A, cc, hH, hO⟩ := h
  exact ⟨A, cc, hH.chg c (own_apart ho hH h54), own_chg hO c fun k hk hk' => own_own_apart hO ho (fun e => h5 e.symm) k hk hk'⟩

def sumN (g : Nat → Nat) : Nat → Nat
  | 0 => 0
  | n + 1 => sumN g n + g n
theorem sumTo_cast (g : Nat → Nat) (n : Nat) : sumTo (fun i => (g i : Int)) n = (sumN g n : Int) := by
  induction n with
  | zero => rfl
  | succ n ih => simp only [sumTo, sumN, ih]; omega
theorem sumN_mono (g : Nat → Nat) {k n : Nat} (h : k ≤ n) : sumN g k ≤ sumN g n := by
  induction n with
  | zero => obtain rfl : k = 0 := by omega
            exact Nat.le_refl _
  | succ n ih =>
    rcases Nat.lt_or_ge n k with h1 | h1
    · obtain rfl : k = n + 1 := by omega
      exact Nat.le_refl _
    · have := ih h1; simp only [sumN]; omega
def iV (n : Nat) : Value := .int .i64 (n : Int)
def nums (bs : List Nat) (p : Nat) (g : Nat → Nat) (i : Nat) : Value := iV (numAt bs (p + sumN g i) (g i))
set_option maxRecDepth 100000 in
set_option maxHeartbeats 400000 in
/-- Take beside an error. -/
theorem take_dead (b : Nat) (bs : List Nat) (p : Nat) (er : Int) (v : Value) (w : World) (h : Rd w b bs p er) (he : (er != 0) = true) :
    Calls Try.prog 64 #[.pointer (some ⟨b, 0, none⟩), v] w fun e w' => e = .returned (.slice none 0 0) ∧ w = w' := by
  obtain ⟨A, c, hH, _⟩ := h
  have hc := hH.cell 2
  simp at hc
  clear hH
  go_enter Try.func64, Try.ntmps64
  go_wp2
  go_ret
  exact ⟨rfl, rfl⟩
set_option maxRecDepth 100000 in
set_option maxHeartbeats 1000000 in
/-- Take of what isn't to be had. -/
theorem take_no (b : Nat) (bs : List Nat) (p : Nat) (w : World) (h : Rd w b bs p 0) (hl : bs.length ≤ 1152921504606846975) (hp : p ≤ 8 * bs.length)
    (A : Option Addr) (n c : Nat) (F : Nat → Prop) (f : Nat → Int) (hnb : n ≤ 35184372088832) (hA : Arr w F A n (fun i => .int .i64 (f i))) (hc : (chk f n (8 * bs.length - p) != 0) = true) :
    Calls Try.prog 64 #[.pointer (some ⟨b, 0, none⟩), .slice A n c] w fun e w' => e = .returned (.slice none 0 0) ∧ Rd w' b bs p (chk f n (8 * bs.length - p)) ∧ Chg (· = b) w w' := by
  obtain ⟨A0, c0, hH, hO⟩ := h
  have hc2 := hH.cell 2
  have hf2 := hH.free 2
  simp at hc2
  have HH := Lib.hid hH; clear hH
  have HO := Lib.hid hO; clear hO
  have HA := Lib.hid hA; clear hA
  have H := check_any b A0 bs.length c0 p 0 w hl (by omega) (by omega) HH.out A n c f hnb (fun i hi => by obtain ⟨a, ha, _, hx⟩ := HA.out i hi; exact ⟨a, ha, hx⟩)
  have HK := Lib.hid H; clear H
  obtain ⟨ck, hck⟩ : ∃ ck, ck = chk f n (8 * bs.length - p) := ⟨_, rfl⟩
  rw [← hck] at HK hc ⊢
  clear hck
  go_enter Try.func64, Try.ntmps64
  go_wp2_with (go_at_call 76; refine HK.out.mono ?_; rintro e w' ⟨rfl, kk, rfl⟩)
  go_ret
  exact ⟨rfl, ⟨_, _, (HH.out.drewN kk).set 2 _, own_chg (S := (· = b)) HO.out (((Chg.refl (· = b) w).drewN kk).setCell (p := ⟨b, 2, none⟩) (fun _ => rfl) _) (fun k hk e => own_apart HO.out HH.out (by decide) (e ▸ hk))⟩,
    ((Chg.refl (· = b) w).drewN kk).setCell (p := ⟨b, 2, none⟩) (fun _ => rfl) _⟩
theorem chk_ok (g : Nat → Nat) (n : Nat) (left : Int) (hg : ∀ i, i < n → 1 ≤ g i ∧ g i ≤ 32) (h : (sumN g n : Int) ≤ left) : chk (fun i => (g i : Int)) n left = 0 := by
  unfold chk
  rw [if_neg, if_neg]
  · rw [sumTo_cast]; omega
  · rintro ⟨i, hi, hb⟩
    have := hg i hi
    refine hb ⟨?_, ?_⟩ <;> dsimp only <;> omega
theorem range_snoc {α : Type} (f : Nat → α) (k : Nat) : (List.range (k + 1)).map f = (List.range k).map f ++ [f k] := by simp [List.range_succ]
set_option maxRecDepth 100000 in
set_option maxHeartbeats 2000000 in
/-- Take of what is there. -/
theorem take_ok (b : Nat) (bs : List Nat) (p : Nat) (w : World) (h : Rd w b bs p 0) (hl : bs.length ≤ 140737488351232) (h256 : ∀ x ∈ bs, x < 256)
    (A : Option Addr) (n c : Nat) (F : Nat → Prop) (g : Nat → Nat) (hnb : n ≤ 17592186044416) (hA : Arr w F A n (fun i => iV (g i))) (hF : ∀ k, F k → k < w.heap.size ∧ k ≠ b) (hg : ∀ i, i < n → 1 ≤ g i ∧ g i ≤ 32) (hp : p + sumN g n ≤ 8 * bs.length) :
    Calls Try.prog 64 #[.pointer (some ⟨b, 0, none⟩), .slice A n c] w fun e w' => ∃ A' c', e = .returned (.slice A' n c') ∧ w'.ownsRow w.heap.size 3 1 (.slice A' n c') n ((List.range n).map (nums bs p g)) ∧ Rd w' b bs (p + sumN g n) 0 ∧ Chg (· = b) w w' := by
  obtain ⟨A0, c0, hH, hO⟩ := h
  have hc2 := hH.cell 2
  have hf2 := hH.free 2
  simp at hc2
  have HH := Lib.hid hH; clear hH
  have HO := Lib.hid hO; clear hO
  have HA := Lib.hid hA; clear hA
  have HG := Lib.hid hg; clear hg
  have HF := Lib.hid hF; clear hF
  have H256 := Lib.hid h256; clear h256
  have H := check_any b A0 bs.length c0 p 0 w (by omega) (by omega) (by omega) HH.out A n c (fun i => (g i : Int)) (by omega) (fun i hi => by obtain ⟨a, ha, _, hx⟩ := HA.out i hi; exact ⟨a, ha, hx⟩)
  rw [chk_ok g n _ HG.out (by omega)] at H
  have HK := Lib.hid H; clear H
  obtain ⟨i0, hi, hz0, hz1, hz2⟩ := info_parts Try.info3
  have hR0 : ∀ kk, Rd ((w.drewN kk).setCell ⟨b, 2, none⟩ (.int .i64 0)) b bs (p + sumN g 0) 0 := fun kk => ⟨_, _, (HH.out.drewN kk).set 2 _, own_chg (S := (· = b)) HO.out (((Chg.refl (· = b) w).drewN kk).setCell (p := ⟨b, 2, none⟩) (fun _ => rfl) _) (fun k hk e => own_apart HO.out HH.out (by decide) (e ▸ hk))⟩
  have hC0 : ∀ kk, Chg (· = b) w ((w.drewN kk).setCell ⟨b, 2, none⟩ (.int .i64 0)) := fun kk => ((Chg.refl (· = b) w).drewN kk).setCell (p := ⟨b, 2, none⟩) (fun _ => rfl) _
  have HR0 := Lib.hid hR0; clear hR0
  have HC0 := Lib.hid hC0; clear hC0
  have hbl := HH.out.lt
  go_enter Try.func64, Try.ntmps64
  go_wp2_with (first
    | (go_at_call 76; refine HK.out.mono ?_; rintro e w' ⟨rfl, kk, rfl⟩)
    | (at_make; refine wpList_make_own _ rfl _ _ 77 rfl w.heap.size 3 i0 (.int .i64 0) 1 Try.underlying77 hi hz0 hz1 .i64 .i64 _ n rfl rfl rfl ?m1 ?m2 ?m3 ?_))
  case m1 => rw [hz2]; omega
  case m2 => simp only [maxLen]; omega
  case m3 => exact (HC0.out kk).size
  intro wm hom hgm
  have Hom := Lib.hid hom; clear hom
  have HC := Lib.hid ((HC0.out kk).grown hgm (by intro k hk; cases hk))
  have HR : Hid (Rd wm b bs (p + sumN g 0) 0) := Lib.hid ((HR0.out kk).chg (S := fun _ => False) ⟨hgm.os, hgm.tape, hgm.output, hgm.size, fun k hk _ => hgm.block k hk (by simp)⟩ fun _ _ f => f)
  clear hgm HC0 HR0 HK
  go_wp2
  go_loopw [5, 29] (fun v i wr => ∃ (k : Nat) (A' : Option Addr) (c' : Nat), k ≤ n ∧ i = .int .i64 k ∧ v = .slice A' k c' ∧ wr.ownsRow w.heap.size 3 1 (.slice A' k c') k ((List.range k).map (nums bs p g)) ∧ Rd wr b bs (p + sumN g k) 0 ∧ Chg (· = b) w wr) (fun _ i _ => n - (intOf i).toNat)
  case atStart => exact ⟨0, _, _, Nat.zero_le _, rfl, rfl, Hom.out, HR.out, HC.out⟩
  case round =>
    clear Hom HC HR
    obtain ⟨k, A', c', hk, rfl, rfl, hO', hR', hC'⟩ := hrel
    by_cases hlt : k < n
    · have hgk := HG.out k hlt
      have hsm := sumN_mono g (show k + 1 ≤ n by omega)
      obtain ⟨gk, hgk'⟩ : ∃ gk, gk = g k := ⟨_, rfl⟩
      have hs1 : sumN g (k + 1) = sumN g k + gk := by rw [hgk']; rfl
      obtain ⟨ad, rfl, hadB, hcell⟩ := (HA.out.chg hC' HF.out) k hlt
      simp only [iV] at hcell
      rw [← hgk'] at hcell hgk
      have Hgk := Lib.hid hgk'; clear hgk'
      have Hs1 := Lib.hid hs1
      have hN := number_any b bs (p + sumN g k) 0 gk wr hR' (by omega) (by omega) hl H256.out
      clear hs1
      have HN := Lib.hid hN; clear hN
      have HO' := Lib.hid hO'; clear hO'
      have HR' := Lib.hid hR'; clear hR'
      have HC' := Lib.hid hC'; clear hC'
      have hsz := HC'.out.size
      go_wp2_with (first
        | (go_at_call 77; refine HN.out.mono ?_; rintro e w1 ⟨rfl, hR1, hC1⟩; have HR1 := Lib.hid hR1; have HC1 := Lib.hid hC1; clear hR1 hC1)
        | (at_builtin; refine wpList_append_one rfl _ _ 77 rfl w.heap.size 3 i0 (.int .i64 0) 1 8 Try.underlying77 hi hz0 hz1 hz2 rfl (by decide) _ k ((List.range k).map (nums bs p g)) rfl (own_chg HO'.out HC1.out ?a0) #[_] rfl rfl ?a1 ?a2 ?a3 ?a4 ?_))
      case a0 =>
        obtain ⟨cs, hcs⟩ := HR'.out.has
        exact fun k hk e => own_apart HO'.out hcs (by decide) (e ▸ hk)
      case a1 => first | rfl | (intro u hu; simp at hu; subst hu; rfl)
      case a2 => simp only [maxLen]; omega
      case a3 => omega
      case a4 => have := HC1.out.size; omega
      intro A2 c2 w2 hO2 hC2 hF2
      have HO1 : wr.ownsRow w.heap.size 3 1 (.slice A' k c') k ((List.range k).map (nums bs p g)) := HO'.out
      have HO1' : w1.ownsRow w.heap.size 3 1 (.slice A' k c') k ((List.range k).map (nums bs p g)) := by
        obtain ⟨cs, hcs⟩ := HR'.out.has
        exact own_chg HO'.out HC1.out fun k hk e => own_apart HO'.out hcs (by decide) (e ▸ hk)
      have HR2 : Hid (Rd w2 b bs (p + sumN g (k + 1)) 0) := by
        have := HR1.out.beside HO1' (by decide) (by decide) hC2
        rw [Hs1.out, ← Nat.add_assoc]
        exact this
      have HC2 : Hid (Chg (· = b) w w2) := (HC'.out.trans HC1.out (fun _ _ e => e)).trans hC2 (fun i hi hk => by
        have := (HO'.out.lt i hk).1; omega)
      have HO2 : Hid (w2.ownsRow w.heap.size 3 1 (.slice A2 (k + 1) c2) (k + 1) ((List.range (k + 1)).map (nums bs p g))) := by
        rw [range_snoc, nums, iV, ← Hgk.out]; exact hO2
      clear hO2 hC2 hF2 HO1 HO1'
      go_wp2
      go_roundw
      case rel => exact ⟨k + 1, A2, c2, by omega, by go_num, rfl, HO2.out, HR2.out, HC2.out⟩
      case measure => simp [intOf]; omega
    · obtain rfl : k = n := by omega
      have HO' := Lib.hid hO'; clear hO'
      have HR' := Lib.hid hR'; clear hR'
      have HC' := Lib.hid hC'; clear hC'
      go_wp2
      go_ret
      exact ⟨A', c', rfl, HO'.out, HR'.out, HC'.out⟩
end Go.Proofs.Ytjkpijinpfimiaa
