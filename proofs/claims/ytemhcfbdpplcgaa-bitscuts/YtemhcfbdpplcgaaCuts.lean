/-
  What the law BitsCuts does: it returns true and turns nothing that was there.
-/
import Derived.Test.YtemhcfbdpplcgaaLawC
import Derived.Deep.RegionHeld3
namespace Go.Proofs.Ytemhcfbdpplcgaa
open Go.RowKit

/-- what Take of one number answers, in the world behind it -/
def Got (b : Nat) (bs : List Nat) (p x lo : Nat) (v : Value) (w : World) : Prop :=
  (p + x ≤ 8 * bs.length ∧ ∃ g c, v = .slice (some ⟨g, 0, none⟩) 1 c ∧ w.cell? ⟨g, 0, none⟩ = some (.int .i64 (numAt bs p x : Int)) ∧ g < w.heap.size ∧ lo ≤ g ∧ Rd w b bs (p + x) 0) ∨ (8 * bs.length < p + x ∧ v = .slice none 0 0 ∧ Rd w b bs p 10)
theorem take_got (b : Nat) (bs : List Nat) (p : Nat) (x : Nat) (wq wy : World) (hh : Nat) (hR : Rd wy b bs p 0) (hl : bs.length ≤ 140737488351232) (h256 : ∀ x ∈ bs, x < 256) (hp : p ≤ 8 * bs.length) (hx1 : 1 ≤ x) (hx2 : x ≤ 32) (hc : wy.cell? ⟨hh, 0, none⟩ = some (.int .i64 (x : Int))) (hne : hh ≠ b) (hs : wq.heap.size ≤ wy.heap.size) :
    Calls Try.prog 16 #[.pointer (some ⟨b, 0, none⟩), .slice (some ⟨hh, 0, none⟩) 1 1] wy fun e w' => Chg (· = b) wy w' ∧ ∃ v, e = .returned v ∧ Got b bs p x wq.heap.size v w' := by
  refine (take_at b bs p x wy hh hR hl h256 hp hx1 hx2 hc hne).mono ?_
  rintro e w' ⟨hC, h⟩
  rcases h with ⟨h1, g, c', rfl, h2, h3, h3', h4⟩ | ⟨h1, rfl, h2⟩
  · exact ⟨hC, _, rfl, Or.inl ⟨h1, g, c', rfl, h2, h3', by omega, h4⟩⟩
  · exact ⟨hC, _, rfl, Or.inr ⟨h1, rfl, h2⟩⟩
theorem got_keep {b b' : Nat} {bs bs' : List Nat} {p x lo p' : Nat} {er : Int} {v : Value} {w w1 w' : World} (h : Got b bs p x lo v w) (hn : New w w1) (hR : Rd w1 b' bs' p' er) (hne : b ≠ b') (hlo : b' < lo) (c : Chg (· = b') w1 w') : Got b bs p x lo v w' := by
  rcases h with ⟨h1, g, cc, rfl, h2, h3, h4, h5⟩ | ⟨h1, rfl, h2⟩
  · refine Or.inl ⟨h1, g, cc, rfl, ?_, ?_, h4, (h5.new hn).other hR hne c⟩
    · have := (Chg.of_new (S := (· = b')) hn).trans c (fun _ _ e => e)
      exact (this.cell h3 (show ¬ g = b' by omega)).trans h2
    · have := hn.size; have := c.size; omega
  · exact Or.inr ⟨h1, rfl, (h2.new hn).other hR hne c⟩
set_option maxRecDepth 100000 in
set_option maxHeartbeats 4000000 in
theorem cuts_walk (A : Option Addr) (n c : Nat) (bs : List Nat) (B : Option Addr) (m d : Nat) (f : Nat → Int) (cut : Int) (w : World) (hlen : bs.length = n) (hA : Arr w (· < w.heap.size) A n (fun i => bV (bs.getD i 0))) (h256 : ∀ x ∈ bs, x < 256) (hcap : n ≤ c) (hnA : A = none → n = 0 ∧ c = 0)
    (hB : Arr w (· < w.heap.size) B m (fun i => .int .i64 (f i))) :
    Calls Try.prog 7 #[.slice A n c, .slice B m d, .int .i64 cut] w fun e w' => e = .returned (.bool true) ∧ New w w' := by
  have HA := Lib.hid hA; clear hA
  have HB := Lib.hid hB; clear hB
  have HnA := Lib.hid hnA; clear hnA
  have H256 := Lib.hid h256; clear h256
  have Hlen := Lib.hid hlen; clear hlen
  by_cases h300 : n ≤ 300 ∧ m ≤ 100
  · obtain ⟨hn2, hm2⟩ := h300
    have hd1 : decide ((300 : Int) < (n : Int)) = false := by simp; omega
    have hd2 : decide ((100 : Int) < (m : Int)) = false := by simp; omega
    obtain ⟨kk, hkk⟩ : ∃ kk : Nat, (0 ≤ cut ∧ cut < n ∧ cut = (kk : Int)) ∨ (¬ (0 ≤ cut ∧ cut < n) ∧ kk = n) := by
      by_cases h : 0 ≤ cut ∧ cut < n
      · exact ⟨cut.toNat, Or.inl ⟨h.1, h.2, by omega⟩⟩
      · exact ⟨n, Or.inr ⟨h, rfl⟩⟩
    have hkn : kk ≤ n := by rcases hkk with h | h <;> omega
    have Hkk := Lib.hid hkk; clear hkk
    have hsl : ∀ wx, (Instr.slice 24 (.slice A n c) none (some (.int .i64 (kk : Int))) (some (.int .i64 (kk : Int)))).run Try.prog wx = .ok (.slice A kk kk) wx := by
      intro wx
      have hsz : (sizeOf (Try.prog.elem 24)).run Try.prog wx = .ok 1 wx := by
        obtain ⟨i0, hi, _, hz1, _⟩ := info_parts Try.info5
        have he : Try.prog.elem 24 = 5 := by kernel_rfl
        rw [he]
        simp [sizeOf, typeInfo, hi, hz1]
      rw [run_slice_hm (P := Try.prog) (w := wx) 24 A n c Try.underlying24 .i64 .i64 (kk : Int) (kk : Int) (by omega) (by omega) (by omega), hsz]
      simp only [Result.andThen_ok, sliced, Int.toNat_natCast, Nat.sub_zero, Nat.zero_mul]
      congr 2
      split
      · rfl
      · cases A <;> rfl
    go_enter Try.func7, Try.ntmps7
    go_wp2_with fail
    refine (awake_any _).mono ?_
    rintro e w1 ⟨rfl, hN1⟩
    have HN1 := Lib.hid hN1; clear hN1
    go_upto_region 4 with (fail)
    go_cut [36] (fun s36 wc => s36 = .bool (decide (0 ≤ cut ∧ cut < (n : Int))) ∧ w1 = wc)
    case first =>
      by_cases h0 : 0 ≤ cut
      · by_cases h1 : cut < (n : Int)
        · go_wp2
          go_meet
          case rel => exact ⟨by simp [h0, h1], rfl⟩
        · go_wp2
          go_meet
          case rel => exact ⟨by simp; omega, rfl⟩
      · go_wp2
        go_meet
        case rel => exact ⟨by simp; omega, rfl⟩
    case rest =>
      obtain ⟨rfl, rfl⟩ := hcut
      go_upto_if 36 with (fail)
      go_cut [7] (fun s7 wc => s7 = .int .i64 (kk : Int) ∧ w1 = wc)
      case first =>
        rcases Hkk.out with ⟨h0, h1, h2⟩ | ⟨h0, h1⟩
        · have hd : decide (0 ≤ cut ∧ cut < (n : Int)) = true := by simp; omega
          rw [hd]
          have H2 := Lib.hid h2; clear h2
          go_wp2
          go_meet
          case rel => exact ⟨by rw [H2.out], rfl⟩
        · have hd : decide (0 ≤ cut ∧ cut < (n : Int)) = false := decide_eq_false h0
          rw [hd]
          have H1 := Lib.hid h1; clear h1 h0
          go_wp2
          go_meet
          case rel => exact ⟨by rw [H1.out], rfl⟩
      case rest =>
        obtain ⟨rfl, rfl⟩ := hcut
        have htl : (bs.take kk).length = kk := by rw [List.length_take, Hlen.out]; omega
        have h256' : ∀ x ∈ bs.take kk, x < 256 := fun x hx => H256.out x (List.mem_of_mem_take hx)
        have hAk : ∀ wx, New w wx → Arr wx (· < w.heap.size) A kk (fun i => bV ((bs.take kk).getD i 0)) := fun wx hx i hi => by
          obtain ⟨a, ha, hb, hc⟩ := (HA.out.new hx (fun k hk => hk)) i (by omega)
          exact ⟨a, ha, hb, by rw [hc]; simp [hi]⟩
        have hRx := fun wx (hx : New w wx) => Read_any A n c (· < w.heap.size) bs wx (HA.out.new hx (fun k hk => hk)) Hlen.out HnA.out (by omega)
        have hRy := fun wx (hx : New w wx) => Read_any A kk kk (· < w.heap.size) (bs.take kk) wx (hAk wx hx) htl (fun h => by have := (HnA.out h).1; omega) (by omega)
        have HRx := Lib.hid hRx; clear hRx
        have HRy := Lib.hid hRy; clear hRy
        have H256' := Lib.hid h256'; clear h256' hAk
        obtain ⟨cs, hcs⟩ : ∃ cs, cs = bs.take kk := ⟨_, rfl⟩
        rw [← hcs] at htl HRy H256'
        have Hcs := Lib.hid hcs; clear hcs
        have Htl := Lib.hid htl; clear htl
        go_wp2_with fail
        go_cut [8, 9] (fun s8 s9 wc => ∃ bx by_, s8 = .pointer (some ⟨bx, 0, none⟩) ∧ s9 = .pointer (some ⟨by_, 0, none⟩) ∧ Rd wc bx bs 0 0 ∧ Rd wc by_ cs 0 0 ∧ New w wc ∧ bx ≠ by_ ∧ w.heap.size ≤ bx ∧ w.heap.size ≤ by_)
        case first =>
          go_region_law (first
            | (go_simp; go_at_call 14
               with_reducible refine (HRx.out _ HN1.out.drew).mono ?_
               rintro e w2 ⟨bx, rfl, hR2, hN2, hb2⟩
               have HR2 := Lib.hid hR2
               have HN2 := Lib.hid (HN1.out.drew.then_new hN2)
               clear hR2 hN2)
            | (go_simp; go_at_call 14
               with_reducible refine (HRy.out _ HN2.out).mono ?_
               rintro e w3 ⟨by_, rfl, hR3, hN3, hb3⟩
               have HR3 := Lib.hid hR3
               have HRx3 := Lib.hid (HR2.out.new hN3)
               have HN3 := Lib.hid (HN2.out.then_new hN3)
               clear hR3 hN3)
            | fail)
          go_wp2_with fail
          go_meet
          case rel =>
            have hl2 : bx < w2.heap.size := by obtain ⟨c1, hc1⟩ := HR2.out.has; exact hc1.lt
            have h1 := HN1.out.size
            have h2 := HN2.out.size
            refine ⟨bx, by_, rfl, rfl, HRx3.out, HR3.out, HN3.out, by omega, ?_, by omega⟩
            have : w1.drew.heap.size ≤ bx := hb2
            simp at this
            omega
        case rest =>
          obtain ⟨bx, by_, rfl, rfl, hRx, hRy, hN, hne, hbx, hby⟩ := hcut
          clear HN1 HRx HRy hsl
          have HRx := Lib.hid hRx; clear hRx
          have HRy := Lib.hid hRy; clear hRy
          have HN := Lib.hid hN; clear hN
          go_wp2_with fail
          go_loopg [10] m (fun gk i wr => ∃ (k p : Nat), k ≤ m ∧ gk = m - k ∧ i = .int .i64 k ∧ p ≤ 8 * cs.length ∧ Rd wr bx bs p 0 ∧ Rd wr by_ cs p 0 ∧ New w wr)
          case atStart => exact ⟨0, 0, by omega, by omega, rfl, by omega, HRx.out, HRy.out, HN.out⟩
          case round =>
            clear HRx HRy HN
            obtain ⟨k, p, hk, rfl, rfl, hp, hRx, hRy, hN⟩ := hrel
            have HRx := Lib.hid hRx; clear hRx
            have HRy := Lib.hid hRy; clear hRy
            have hcl : cs.length ≤ bs.length := by have := Htl.out; have := Hlen.out; omega
            have hbl : bs.length ≤ 300 := by have := Hlen.out; omega
            by_cases hlt : k < m
            · have HArr := Lib.hid (fun wx (hx : New w wx) => (HB.out.new hx (fun k hk => hk)) k hlt)
              obtain ⟨a, rfl, hab, hcell⟩ := HArr.out wr hN
              have HN := Lib.hid hN; clear hN
              obtain ⟨z, hz⟩ : ∃ z, z = f k := ⟨_, rfl⟩
              dsimp only at hcell
              rw [← hz] at hcell
              by_cases hr : 1 ≤ z ∧ z ≤ 32
              · obtain ⟨x, rfl⟩ : ∃ x : Nat, z = (x : Int) := ⟨z.toNat, by omega⟩
                have Hz := Lib.hid hz; clear hz
                obtain ⟨hr1, hr2⟩ := hr
                have hLy := fun n => rd_left by_ cs p 0 (wr.drewN n) (HRy.out.chg (S := fun _ => False) ((Chg.refl _ _).drewN n) (fun _ _ f => f)) (by omega) hp
                have HLy := Lib.hid hLy; clear hLy
                go_upto_region 14 with (fail)
                go_cut [11] (fun s11 wc => s11 = .bool (decide ((x : Int) ≤ 8 * (cs.length : Int) - (p : Int))) ∧ ∃ n, wc = wr.drewN n)
                case first =>
                  go_quiet ((go_at_call 19; exact Calls.quiet_of (HLy.out _)))
                  go_wp2_with fail
                  go_meet
                  case rel => exact ⟨rfl, _, rfl⟩
                case rest =>
                  obtain ⟨rfl, nd, rfl⟩ := hcut
                  obtain ⟨wq, hwq⟩ : ∃ wq, wq = wr.drewN nd := ⟨_, rfl⟩
                  have hRx' : Rd wq bx bs p 0 := by rw [hwq]; exact HRx.out.chg (S := fun _ => False) ((Chg.refl _ _).drewN nd) (fun _ _ f => f)
                  have hRy' : Rd wq by_ cs p 0 := by rw [hwq]; exact HRy.out.chg (S := fun _ => False) ((Chg.refl _ _).drewN nd) (fun _ _ f => f)
                  have hNq : New w wq := by rw [hwq]; exact HN.out.drewN nd
                  have hcq : wq.cell? (a.add k) = some (.int .i64 (x : Int)) := by rw [hwq]; exact hcell
                  rw [← hwq]
                  clear hwq hcell HRx HRy HN HLy
                  have HRx := Lib.hid hRx'; clear hRx'
                  have HRy := Lib.hid hRy'; clear hRy'
                  have HN := Lib.hid hNq; clear hNq
                  have hak : (a.add k).block < w.heap.size := by rw [add_block]; exact hab
                  have hszq := HN.out.size
                  have hbxl : bx < wq.heap.size := by obtain ⟨c1, hc1⟩ := HRx.out.has; exact hc1.lt
                  have hbyl : by_ < wq.heap.size := by obtain ⟨c1, hc1⟩ := HRy.out.has; exact hc1.lt
                  have hTx : ∀ wy hh, New wq wy → wy.cell? ⟨hh, 0, none⟩ = some (.int .i64 (x : Int)) → wq.heap.size ≤ hh → Calls Try.prog 16 #[.pointer (some ⟨bx, 0, none⟩), .slice (some ⟨hh, 0, none⟩) 1 1] wy fun e w' => Chg (· = bx) wy w' ∧ ∃ v, e = .returned v ∧ Got bx bs p x wq.heap.size v w' := fun wy hh h1 h2 h3 => take_got bx bs p x wq wy hh (HRx.out.new h1) (by omega) H256.out (by omega) (by omega) (by omega) h2 (by omega) h1.size
                  have hTy : ∀ wy hh, Chg (· = bx) wq wy → wy.cell? ⟨hh, 0, none⟩ = some (.int .i64 (x : Int)) → wq.heap.size ≤ hh → Calls Try.prog 16 #[.pointer (some ⟨by_, 0, none⟩), .slice (some ⟨hh, 0, none⟩) 1 1] wy fun e w' => Chg (· = by_) wy w' ∧ ∃ v, e = .returned v ∧ Got by_ cs p x wq.heap.size v w' := fun wy hh h1 h2 h3 => take_got by_ cs p x wq wy hh (HRy.out.other HRx.out hne.symm h1) (by omega) H256'.out (by omega) (by omega) (by omega) h2 (by omega) h1.size
                  have HTx := Lib.hid hTx; clear hTx
                  have HTy := Lib.hid hTy; clear hTy
                  have hkeep : ∀ wy, Chg (fun k => k = bx ∨ k = by_) wq wy → wy.cell? (a.add k) = some (.int .i64 (x : Int)) := fun wy h => (h.cell (by omega) (by omega)).trans hcq
                  have Hkeep := Lib.hid hkeep; clear hkeep
                  go_upto_region 15 with (fail)
                  go_cut [12, 13] (fun s12 s13 wc => Chg (fun k => k = bx ∨ k = by_) wq wc ∧ Got bx bs p x wq.heap.size s12 wc ∧ Got by_ cs p x wq.heap.size s13 wc)
                  case first =>
                    go_region_held3 (fun w' => w'.cell? (a.add k) = some (.int .i64 (x : Int)))
                      (first | exact hcq | exact Hkeep.out _ ((Chg.refl _ _).alloc _) | exact Hkeep.out _ (((Chg.refl _ _).alloc _).drew) | exact Hkeep.out _ (((Chg.refl _ _).alloc _).alloc _) | exact Hkeep.out _ ((((Chg.refl _ _).alloc _).alloc _).drew) | exact Hkeep.out _ (HC2.out.mono (fun _ _ e => Or.inl e)) | exact Hkeep.out _ ((HC2.out.mono (fun _ _ e => Or.inl e)).alloc _) | exact Hkeep.out _ HC3.out)
                      (first
                       | (go_at_call 16
                          with_reducible refine (HTx.out _ _ (((Chg.refl _ _).alloc _).drew) (by simp) (by simp)).mono ?_
                          rintro e w2 ⟨hC2, v2, rfl, hG2⟩
                          have HC2 : Hid (Chg (· = bx) wq w2) := Chg.new_then (((Chg.refl _ _).alloc _).drew) hC2
                          have HG2 := Lib.hid hG2
                          clear hG2 hC2)
                       | (go_at_call 16
                          with_reducible refine (HTx.out _ _ ((((Chg.refl _ _).alloc _).alloc _).drew) (by simp) (by simp)).mono ?_
                          rintro e w2 ⟨hC2, v2, rfl, hG2⟩
                          have hcA : w2.cell? ⟨wq.heap.size, 0, none⟩ = some (.int .i64 (x : Int)) := (hC2.cell (p := ⟨wq.heap.size, 0, none⟩) (by simp; omega) (show ¬ wq.heap.size = bx by omega)).trans (by simp)
                          have hcB : w2.cell? ⟨wq.heap.size + 1, 0, none⟩ = some (.int .i64 (x : Int)) := (hC2.cell (p := ⟨wq.heap.size + 1, 0, none⟩) (by simp) (show ¬ wq.heap.size + 1 = bx by omega)).trans (by simp)
                          have HC2 : Hid (Chg (· = bx) wq w2) := Chg.new_then ((((Chg.refl _ _).alloc _).alloc _).drew) hC2
                          have HG2 := Lib.hid hG2
                          clear hG2 hC2)
                       | (go_at_call 16
                          with_reducible refine (HTy.out _ _ (HC2.out.alloc _) (by simp) (by have := HC2.out.size; omega)).mono ?_
                          rintro e w3 ⟨hC3, v3, rfl, hG3⟩
                          have HG2' := Lib.hid (got_keep HG2.out ((Chg.refl _ _).alloc _) (HRy.out.other HRx.out hne.symm (HC2.out.alloc _)) hne hbyl hC3)
                          have HC3 : Hid (Chg (fun k => k = bx ∨ k = by_) wq w3) := ((HC2.out.mono (fun _ _ e => Or.inl e)).alloc _).trans hC3 (fun _ _ e => Or.inr e)
                          have HG3 := Lib.hid hG3
                          clear hG3 hC3)
                       | (go_at_call 16
                          with_reducible refine (HTy.out _ _ HC2.out hcA (by omega)).mono ?_
                          rintro e w3 ⟨hC3, v3, rfl, hG3⟩
                          have HG2' := Lib.hid (got_keep HG2.out (Chg.refl _ _) (HRy.out.other HRx.out hne.symm HC2.out) hne hbyl hC3)
                          have HC3 : Hid (Chg (fun k => k = bx ∨ k = by_) wq w3) := (HC2.out.mono (fun _ _ e => Or.inl e)).trans hC3 (fun _ _ e => Or.inr e)
                          have HG3 := Lib.hid hG3
                          clear hG3 hC3 hcA hcB)
                       | (go_at_call 16
                          with_reducible refine (HTy.out _ _ HC2.out hcB (by omega)).mono ?_
                          rintro e w3 ⟨hC3, v3, rfl, hG3⟩
                          have HG2' := Lib.hid (got_keep HG2.out (Chg.refl _ _) (HRy.out.other HRx.out hne.symm HC2.out) hne hbyl hC3)
                          have HC3 : Hid (Chg (fun k => k = bx ∨ k = by_) wq w3) := (HC2.out.mono (fun _ _ e => Or.inl e)).trans hC3 (fun _ _ e => Or.inr e)
                          have HG3 := Lib.hid hG3
                          clear hG3 hC3 hcA hcB)
                       | fail)
                    all_goals
                      go_wp2_with fail
                      go_meet
                      case rel => exact ⟨HC3.out, HG2'.out, HG3.out⟩
                  case rest =>
                    clear hcq HTx HTy Hkeep
                    obtain ⟨hC, hG2, hG3⟩ := hcut
                    have hNc : New w wc := HN.out.trans hC (fun i hi e => by omega)
                    have HNc := Lib.hid hNc; clear hNc HN hC
                    by_cases hfit : p + x ≤ 8 * cs.length
                    · have hdf : decide ((x : Int) ≤ 8 * (cs.length : Int) - (p : Int)) = true := by simp; omega
                      rcases hG2 with ⟨_, g2, c2, rfl, hc2, _, _, hR2⟩ | ⟨h, _⟩
                      rotate_left
                      · omega
                      rcases hG3 with ⟨_, g3, c3, rfl, hc3, _, _, hR3⟩ | ⟨h, _⟩
                      rotate_left
                      · omega
                      have hnum := numAt_cut bs kk p x (by have := Htl.out; omega)
                      rw [← Hcs.out] at hnum
                      rw [hnum] at hc3
                      clear hnum
                      obtain ⟨y, hy⟩ : ∃ y, y = numAt bs p x := ⟨_, rfl⟩
                      rw [← hy] at hc2 hc3
                      clear hy
                      have HR2 := Lib.hid hR2; clear hR2
                      have HR3 := Lib.hid hR3; clear hR3
                      go_wp2_with fail
                      go_quiet (fail)
                      go_wp2
                      go_roundg (m - (k + 1))
                      case measure => omega
                      case rel => exact ⟨k + 1, p + x, by omega, rfl, by go_num, by omega, HR2.out.chg (S := fun _ => False) ((Chg.refl _ _).drewN _) (fun _ _ f => f), HR3.out.chg (S := fun _ => False) ((Chg.refl _ _).drewN _) (fun _ _ f => f), HNc.out.drewN _⟩
                    · have hdf : decide ((x : Int) ≤ 8 * (cs.length : Int) - (p : Int)) = false := by simp; omega
                      rcases hG3 with ⟨h, _⟩ | ⟨_, rfl, hR3⟩
                      · omega
                      clear hG2
                      have HE := Lib.hid (err_any by_ cs p 10 wc hR3); clear hR3
                      go_wp2_with fail
                      refine HE.out.mono ?_
                      rintro e w' ⟨rfl, rfl⟩
                      go_wp2_with fail
                      go_ret
                      exact ⟨by first | rfl | simp, HNc.out⟩
              · have Hz := Lib.hid hz; clear hz
                have Hr := Lib.hid hr; clear hr
                by_cases hz1 : z < 1
                · go_wp2_with fail
                  go_ret
                  exact ⟨rfl, HN.out⟩
                · have hz2 : 32 < z := by have := Hr.out; omega
                  go_wp2_with fail
                  go_ret
                  exact ⟨rfl, HN.out⟩
            · have HE := Lib.hid (err_any by_ cs p 0 wr HRy.out)
              have HN := Lib.hid hN; clear hN
              go_wp2_with fail
              refine HE.out.mono ?_
              rintro e w' ⟨rfl, rfl⟩
              go_wp2_with fail
              go_ret
              exact ⟨by first | rfl | simp, HN.out⟩
  · by_cases hn2 : n ≤ 300
    · have hm2 : 100 < m := by omega
      have hd1 : decide ((300 : Int) < (n : Int)) = false := by simp; omega
      have hd2 : decide ((100 : Int) < (m : Int)) = true := by simp; omega
      clear h300
      go_enter Try.func7, Try.ntmps7
      go_wp2_with fail
      refine (awake_any _).mono ?_
      rintro e w1 ⟨rfl, hN1⟩
      have HN1 := Lib.hid hN1; clear hN1
      go_wp2_with fail
      refine (awake_any _).mono ?_
      rintro e w2 ⟨rfl, hN2⟩
      have HN2 := Lib.hid hN2; clear hN2
      go_wp2_with fail
      go_ret
      exact ⟨rfl, HN1.out.then_new HN2.out⟩
    · have hd1 : decide ((300 : Int) < (n : Int)) = true := by simp; omega
      clear h300
      go_enter Try.func7, Try.ntmps7
      go_wp2_with fail
      refine (awake_any _).mono ?_
      rintro e w1 ⟨rfl, hN1⟩
      have HN1 := Lib.hid hN1; clear hN1
      go_wp2_with fail
      refine (awake_any _).mono ?_
      rintro e w2 ⟨rfl, hN2⟩
      have HN2 := Lib.hid hN2; clear hN2
      go_wp2_with fail
      go_ret
      exact ⟨rfl, HN1.out.then_new HN2.out⟩
theorem cuts_law {W : World} (A : Option Addr) (n c : Nat) (h : ∃ bs : List Nat, bs.length = n ∧ Arr W (· < W.heap.size) A n (fun i => bV (bs.getD i 0)) ∧ (∀ x ∈ bs, x < 256) ∧ n ≤ c ∧ c ≤ maxLen ∧ (A = none → n = 0 ∧ c = 0))
    (B : Option Addr) (m d : Nat) (h' : ∃ f : Nat → Int, Arr W (· < W.heap.size) B m (fun i => .int .i64 (f i)) ∧ m ≤ d ∧ d ≤ maxLen ∧ (B = none → m = 0 ∧ d = 0)) (cut : Int) :
    Calls Try.prog 7 #[.slice A n c, .slice B m d, .int .i64 cut] W fun e w' => e = .returned (.bool true) ∧ New W w' := by
  obtain ⟨bs, h1, h2, h3, h4, _, h5⟩ := h
  obtain ⟨f, g1, _⟩ := h'
  exact cuts_walk A n c bs B m d f cut W h1 h2 h3 h4 h5 g1
end Go.Proofs.Ytemhcfbdpplcgaa
