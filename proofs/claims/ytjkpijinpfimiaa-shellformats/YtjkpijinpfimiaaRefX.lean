/-
  What the law's own image and loaded and the document's own Sector come to.
-/
import Derived.Test.YtjkpijinpfimiaaRefV
namespace Go.Proofs.Ytjkpijinpfimiaa
open Go.RowKit
set_option maxRecDepth 100000 in
set_option maxHeartbeats 1000000 in
theorem image_any (A : Option Addr) (n c : Nat) (F : Nat → Prop) (bs : List Nat) (w : World) (hA : Arr w F A n (fun i => bV (bs.getD i 0))) (hF : ∀ k, F k → k < w.heap.size) (hl : bs.length = n) :
    Calls Try.prog 12 #[.slice A n c] w fun e w' => ∃ g, e = .returned (.slice (some ⟨g, 0, none⟩) 512 512) ∧ Hid (w.heap.size = g) ∧ Row w' g (pad 512 bs) ∧ New w w' := by
  have HA := Lib.hid hA; clear hA
  have Hl := Lib.hid hl; clear hl
  have HF := Lib.hid hF; clear hF
  go_enter Try.func12, Try.ntmps12
  go_wp2_with (at_make; refine wpList_make_row rfl _ _ rfl 512 512 rfl rfl rfl (by omega) ?_)
  intro g w1 Hg hR1 hN1
  have HR1 := Lib.hid hR1; clear hR1
  have HN1 := Lib.hid hN1; clear hN1
  have HA1 := Lib.hid (HA.out.new HN1.out HF.out)
  go_wp2_with (refine wpList_copy_pad rfl _ _ rfl g 512 rfl A n c rfl HR1.out _ bs HA1.out Hl.out ?_)
  intro w2 hR2 hG2
  have HR2 := Lib.hid hR2; clear hR2
  have HN2 : Hid (New w w2) := HN1.out.trans hG2 (fun i hi h => by have := Hg.out; omega)
  clear hG2
  go_wp2_with fail
  go_ret
  exact ⟨g, rfl, Hg, HR2.out, HN2.out⟩
set_option maxRecDepth 100000 in
set_option maxHeartbeats 1000000 in
theorem loaded_any (A : Option Addr) (n c : Nat) (F : Nat → Prop) (bs : List Nat) (w : World) (hA : Arr w F A n (fun i => bV (bs.getD i 0))) (hF : ∀ k, F k → k < w.heap.size) (hl : bs.length = n) (hb : ∀ x ∈ bs, x < 256) :
    Calls Try.prog 9 #[.slice A n c] w fun e w' => ∃ g, e = .returned (.pointer (some ⟨g, 0, none⟩)) ∧ Hid (w.heap.size ≤ g) ∧ Cd w' g (pad 512 bs) (-1) ∧ New w w' := by
  have HA := Lib.hid hA; clear hA
  have Hl := Lib.hid hl; clear hl
  have HF := Lib.hid hF; clear hF
  have Hb := Lib.hid hb; clear hb
  go_enter Try.func9, Try.ntmps9
  go_wp2_with fail
  with_reducible refine (NewC w).mono ?_
  rintro e w1 ⟨g, rfl, Hg, hC1, hN1⟩
  have HC1 := Lib.hid hC1; clear hC1
  have HN1 := Lib.hid hN1; clear hN1
  go_wp2_with fail
  with_reducible refine (image_any A n c F bs w1 (HA.out.new HN1.out HF.out) (fun k hk => Nat.lt_of_lt_of_le (HF.out k hk) HN1.out.size) Hl.out).mono ?_
  rintro e w2 ⟨b, rfl, Hb2, hR2, hN2⟩
  have HR2 := Lib.hid hR2; clear hR2
  have HC2 := Lib.hid (HC1.out.new hN2)
  have HN2 := Lib.hid (HN1.out.then_new hN2); clear hN2
  go_wp2_with fail
  with_reducible refine (Load_any g _ (pad 512 bs) _ (some ⟨b, 0, none⟩) 512 512 _ w2 HC2.out (HR2.out.arr (pad_len 512 bs)) (pad_len 512 bs) (pad_small 512 bs Hb.out)).mono ?_
  rintro e w3 ⟨rfl, hC3, hG3⟩
  rw [lB_same (pad_len 512 bs)] at hC3
  rw [szE_same]
  have HC3 := Lib.hid hC3; clear hC3
  have HN3 : Hid (New w w3) := HN2.out.trans hG3 (fun i hi h => by have := Hg.out; omega)
  clear hG3
  go_wp2_with fail
  go_ret
  exact ⟨g, rfl, by have := Hg.out; show _ ≤ _; omega, HC3.out, HN3.out⟩
/-- the first k bytes laid over noughts -/
def padk (n : Nat) (xs : List Nat) (k : Nat) : List Nat := splice (zs n) 0 (xs.take k)
theorem padk_step (n : Nat) (xs : List Nat) (k : Nat) (hk : k < xs.length) (hn : xs.length ≤ n) : (padk n xs k).set k (xs.getD k 0) = padk n xs (k + 1) := by
  unfold padk splice
  rw [List.take_zero, List.nil_append, List.nil_append, Nat.zero_add, Nat.zero_add]
  have h1 : (xs.take k).length = k := by simp; omega
  have h2 : (xs.take (k + 1)).length = k + 1 := by simp; omega
  rw [h1, h2, List.set_append_right _ _ (by omega), h1, Nat.sub_self, List.take_add_one, List.getElem?_eq_getElem hk, Option.toList_some, List.append_assoc]
  congr 1
  unfold zs
  rw [List.drop_replicate, List.drop_replicate, show n - k = n - (k + 1) + 1 by omega, List.replicate_succ, List.set_cons_zero, List.getD_eq_getElem?_getD, List.getElem?_eq_getElem hk]
  rfl
theorem padk_all (n : Nat) (xs : List Nat) (h : xs.length ≤ n) : padk n xs xs.length = pad n xs := by
  unfold padk pad
  rw [List.take_of_length_le (Nat.le_refl _), List.take_of_length_le h]
theorem padk_zero (n : Nat) (xs : List Nat) : padk n xs 0 = zs n := by unfold padk splice; simp
theorem padk_len (n : Nat) (xs : List Nat) (k : Nat) (hk : k ≤ n) : (padk n xs k).length = n := by
  unfold padk
  rw [length_splice _ _ _ (by simp [zs]; omega), zs_len]
theorem Row.own {w : World} {base g n : Nat} {bs : List Nat} (h : Row w g bs) (hn : bs.length = n) (hb : base ≤ g) (hm : n ≤ maxLen) : w.ownsRow base 5 1 (.slice (some ⟨g, 0, none⟩) n n) n (bs.map bV) := by
  refine ⟨by rw [List.length_map, hn, Nat.mul_one], Or.inr ⟨g, n, _, rfl, hb, h, Nat.le_refl _, hm, by simp [hn], ?_⟩⟩
  rw [List.take_of_length_le (by simp [hn])]
set_option maxRecDepth 100000 in
set_option maxHeartbeats 2000000 in
theorem rSector_any (A : Option Addr) (n c : Nat) (F : Nat → Prop) (bs : List Nat) (w : World) (hA : Arr w F A n (fun i => bV (bs.getD i 0))) (hF : ∀ k, F k → k < w.heap.size) (hl : bs.length = n) (hb : ∀ x ∈ bs, x < 256) (hn : n ≤ 30) :
    Calls Try.prog 23 #[.slice A n c] w fun e w' => ∃ A' c', e = .returned (.slice A' 32 c') ∧ w'.ownsRow w.heap.size 5 1 (.slice A' 32 c') 32 ((sectorB bs).map bV) ∧ New w w' := by
  obtain ⟨i0, hi, hz0, hz1, hz2⟩ := info_parts Try.info5
  have HA := Lib.hid hA; clear hA
  have Hl := Lib.hid hl; clear hl
  have HF := Lib.hid hF; clear hF
  have Hb := Lib.hid hb; clear hb
  go_enter Try.func23, Try.ntmps23
  go_wp2_with (at_make; refine wpList_make_row rfl _ _ rfl 30 30 rfl rfl rfl (by omega) ?_)
  intro g w1 Hg hR1 hN1
  have HR1 := Lib.hid hR1; clear hR1
  have HN1 := Lib.hid hN1; clear hN1
  go_wp2_with fail
  go_loopg [4] n (fun gk x wr => ∃ k : Nat, k ≤ n ∧ gk = n - k ∧ x = .int .i64 k ∧ Row wr g (padk 30 bs k) ∧ New w wr)
  case atStart => exact ⟨0, by omega, by omega, rfl, by rw [padk_zero]; exact HR1.out, HN1.out⟩
  case round =>
    clear HR1
    obtain ⟨k, hk, rfl, rfl, hR, hN⟩ := hrel
    by_cases hlt : k < n
    · obtain ⟨a, rfl, hab, hc⟩ := (HA.out.new hN HF.out) k hlt
      obtain ⟨y, hy⟩ : ∃ y, y = bs.getD k 0 := ⟨_, rfl⟩
      replace hc : wr.cell? (a.add k) = some (.int .u8 (y : Int)) := by rw [hy]; exact hc
      have hq : ∃ z, wr.cell? ⟨g, k, none⟩ = some z := by
        rw [Has.cell hR k]
        exact ⟨_, Array.getElem?_eq_getElem (by simp [padk_len 30 bs k (by omega)]; omega)⟩
      obtain ⟨z, hq⟩ := hq
      have hf : wr.frozen? ⟨g, k, none⟩ = false := Has.free hR k
      have hst : (padk 30 bs k).set k y = padk 30 bs (k + 1) := by rw [hy]; exact padk_step 30 bs k (by rw [Hl.out]; exact hlt) (by rw [Hl.out]; exact hn)
      have Hst := Lib.hid hst
      have HR := Lib.hid hR
      have HN := Lib.hid hN
      clear hR hN hst hy
      go_wp2_with fail
      go_roundg (n - (k + 1))
      case measure => omega
      case rel =>
        refine ⟨k + 1, by omega, rfl, by go_num, by rw [← Hst.out]; exact HR.out.set, HN.out.trans (T := fun i => i = g) (Chg.setCell (S := (· = g)) (Chg.refl _ _) (fun _ => rfl) _) (fun i hi h => by have := Hg.out; omega)⟩
    · obtain rfl : k = n := by omega
      have e1 : padk 30 bs k = pad 30 bs := by rw [← Hl.out]; exact padk_all 30 bs (by rw [Hl.out]; exact hn)
      rw [e1] at hR
      clear e1
      have HR := Lib.hid hR
      have HN := Lib.hid hN
      clear hR hN
      obtain ⟨s, hs⟩ : ∃ s, s = crc 65535 (pad 30 bs) := ⟨_, rfl⟩
      have hs65 : s < 65536 := by rw [hs]; exact crc_lt _ _ (by omega)
      go_wp2_with fail
      with_reducible refine (refSum_any (some ⟨g, 0, none⟩) 30 30 _ (pad 30 bs) wr (HR.out.arr (pad_len 30 bs)) (pad_len 30 bs) (pad_small 30 bs Hb.out) (by omega)).mono ?_
      rintro e w2 ⟨rfl, hw2⟩
      obtain rfl : wr = w2 := hw2.symm
      clear hw2
      rw [← hs]
      have HS : Hid (sectorB bs = pad 30 bs ++ [s / 256, s % 256]) := by show _ = _; rw [hs]; rfl
      clear hs
      obtain ⟨hi8, hhi⟩ : ∃ q, q = s / 256 := ⟨_, rfl⟩
      obtain ⟨lo8, hlo⟩ : ∃ q, q = s % 256 := ⟨_, rfl⟩
      rw [← hhi, ← hlo] at HS
      have f0 : Int.tdiv (s : Int) 256 = (hi8 : Int) := by rw [Int.tdiv_eq_ediv_of_nonneg (by omega)]; omega
      have f0' : (s : Int) / 256 = (hi8 : Int) := by omega
      have f1 : IntKind.u8.wrap (hi8 : Int) = (hi8 : Int) := by rw [IntKind.wrap_u8]; omega
      have f2 : IntKind.u8.wrap (s : Int) = (lo8 : Int) := by rw [IntKind.wrap_u8]; omega
      have hh : hi8 < 256 := by omega
      have f3 : wrap64 (hi8 : Int) = (hi8 : Int) := w64 _ (Int.natCast_nonneg _) (by clear f0 f0' f1 f2 hhi hlo hs65; omega)
      have f4 : (hi8 : Int) % 256 = (hi8 : Int) := by clear f0 f0' f1 f2 f3 hhi hlo hs65; omega
      clear hhi hlo hs65
      have HO := Lib.hid (HR.out.own (base := w.heap.size) (pad_len 30 bs) (by have := Hg.out; omega) (by simp only [maxLen]; omega))
      go_wp2_with (first | (at_builtin; refine wpList_append_src rfl _ _ 22 rfl w.heap.size 5 i0 (.int .u8 0) 1 1 Try.underlying22 hi hz0 hz1 hz2 rfl (by decide) _ 30 _ rfl (HO.out.alloc _) (some ⟨wr.heap.size, 0, none⟩) 2 2 [bV hi8, bV lo8] rfl (by intro h; cases h) rfl (has_news (Has.new wr 5 #[bV hi8, bV lo8])) (by intro u hu; simp at hu; rcases hu with rfl | rfl <;> rfl) (by simp only [maxLen]; omega) (by omega) (by have := HN.out.size; simp; omega) ?_; intro A3 c3 w3 hO3 hC3 hf3; have HO3 := Lib.hid hO3; have HC3 := Lib.hid hC3; clear hO3 hC3 hf3) | go_in)
      go_ret
      refine ⟨A3, c3, rfl, ?_, ?_⟩
      · rw [HS.out, List.map_append]; exact HO3.out
      · exact (HN.out.alloc _).trans HC3.out (fun i hi hk => by have := (HO.out.lt i hk).1; omega)
end Go.Proofs.Ytjkpijinpfimiaa
