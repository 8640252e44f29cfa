/-
  What the program's At, Free and rightEntries do: functions that are asked of entries.
-/
import Derived.Test.YtjkpijinpfimiaaPrA
namespace Go.Proofs.Ytjkpijinpfimiaa
open Go.RowKit
/-- the number of the first entry of which f says yes -/
def idxE (f : En → Bool) : Nat → List En → Int
  | _, [] => -1
  | k, e :: l => if f e then (k : Int) else idxE f (k + 1) l
theorem idxE_ge (f : En → Bool) (l : List En) : ∀ k : Nat, idxE f k l = -1 ∨ (k : Int) ≤ idxE f k l := by
  induction l with
  | nil => intro k; exact Or.inl rfl
  | cons e l ih =>
    intro k
    unfold idxE
    by_cases h : f e = true
    · rw [if_pos h]; exact Or.inr (Int.le_refl _)
    · rw [if_neg h]
      rcases ih (k + 1) with h | h
      · exact Or.inl h
      · right; omega
theorem idxE_any (f : En → Bool) (l : List En) : ∀ k : Nat, decide (0 ≤ idxE f k l) = l.any f := by
  induction l with
  | nil => intro k; rfl
  | cons e l ih =>
    intro k
    unfold idxE
    rw [List.any_cons]
    cases h : f e with
    | true => simp
    | false => rw [if_neg (by decide), ih (k + 1)]; rfl
theorem idxE_at (o i : Int) (l : List En) : ∀ k : Nat, idxE (fun e => decide (e.o = o ∧ e.i = i)) k l = (if atI o i l < 0 then -1 else atI o i l + k) := by
  induction l with
  | nil => intro k; rfl
  | cons e l ih =>
    intro k
    unfold idxE atI
    by_cases h : e.o = o ∧ e.i = i
    · rw [if_pos (decide_eq_true h), if_pos h, if_neg (by omega)]; omega
    · rw [if_neg (by simpa using h), if_neg h, ih (k + 1)]
      by_cases hn : atI o i l < 0
      · rw [if_pos hn, if_pos hn, if_pos (by omega)]
      · rw [if_neg hn, if_neg hn, if_neg (by omega)]; omega
theorem atI_ge (o i : Int) (l : List En) : -1 ≤ atI o i l := by
  rcases atI_cases o i l with ⟨h, _⟩ | ⟨j, _, h, _⟩ <;> omega
theorem idxE_at0 (o i : Int) (l : List En) : idxE (fun e => decide (e.o = o ∧ e.i = i)) 0 l = atI o i l := by
  rw [idxE_at]
  have := atI_ge o i l
  split <;> omega
/-- what a function that is asked of entries answers -/
def AsksE (K : Nat) (cap : Array Value) (w : World) (f : En → Bool) : Prop :=
  ∀ (e : En) (w1 : World), New w w1 → Calls Try.prog K (#[.agg #[.int .i64 e.k, .int .i64 e.o, .int .i64 e.i, .int .i64 e.s]] ++ cap) w1 fun x w' => x = .returned (.bool (f e)) ∧ New w1 w'
set_option maxRecDepth 100000 in
set_option maxHeartbeats 1000000 in
theorem indexAt (f : En → Bool) (l : List En) (n : Nat) (A : Option Addr) (c : Nat) (w : World) (F : Nat → Prop) (p q : Nat) (hn : l.length = n) (hE : Ents w F A l) (hF : ∀ k, F k → k < w.heap.size) (hs : n ≤ 1000) (hC : AsksE 44 #[.pointer (some ⟨p, 0, none⟩), .pointer (some ⟨q, 0, none⟩)] w f) :
    Calls Try.prog 43 #[.slice A n c, .func (.func 44) #[] #[.pointer (some ⟨p, 0, none⟩), .pointer (some ⟨q, 0, none⟩)]] w fun e w' => e = .returned (.int .i64 (idxE f 0 l)) ∧ New w w' := by
  have Hn := Lib.hid hn; clear hn
  have HE := Lib.hid hE; clear hE
  have HF := Lib.hid hF; clear hF
  have HC := Lib.hid hC; clear hC
  go_enter Try.func43, Try.ntmps43
  go_wp2_with fail
  go_loopg [8] n (fun gk i wr => ∃ k : Nat, k ≤ n ∧ gk = n - k ∧ i = .int .i64 k ∧ idxE f k (l.drop k) = idxE f 0 l ∧ New w wr)
  case atStart => exact ⟨0, by omega, by omega, rfl, rfl, Chg.refl _ _⟩
  case round =>
    obtain ⟨k, hk, rfl, rfl, hR, hN⟩ := hrel
    have HR := Lib.hid hR; clear hR
    by_cases hlt : k < n
    · obtain ⟨e, he⟩ : ∃ e, l[k]? = some e := ⟨_, List.getElem?_eq_getElem (by rw [Hn.out]; exact hlt)⟩
      have Hdr : Hid (l.drop k = e :: l.drop (k + 1)) := by
        show _ = _
        obtain ⟨h1, h2⟩ := List.getElem?_eq_some_iff.1 he
        rw [List.drop_eq_getElem_cons h1, h2]
      obtain ⟨a, rfl, hab, h0, h1, h2, h3⟩ := (HE.out.new hN HF.out) k e he
      have HCo := Lib.hid (HC.out e wr hN)
      simp only [List.append_toArray, List.cons_append, List.nil_append] at HCo
      obtain ⟨b, hb⟩ : ∃ b, b = f e := ⟨_, rfl⟩
      rw [← hb] at HCo
      have Hb := Lib.hid hb; clear hb
      obtain ⟨ek, hek⟩ : ∃ x, x = e.k := ⟨_, rfl⟩
      obtain ⟨eo, heo⟩ : ∃ x, x = e.o := ⟨_, rfl⟩
      obtain ⟨ei, hei⟩ : ∃ x, x = e.i := ⟨_, rfl⟩
      obtain ⟨es, hes⟩ : ∃ x, x = e.s := ⟨_, rfl⟩
      rw [← hek, ← heo, ← hei, ← hes] at HCo
      rw [← hek] at h0
      rw [← heo] at h1
      rw [← hei] at h2
      rw [← hes] at h3
      have HN := Lib.hid hN
      clear hN he hek heo hei hes hab
      go_wp2_with fail
      with_reducible refine HCo.out.mono ?_
      rintro x w' ⟨rfl, hN2⟩
      have HN2 := Lib.hid hN2; clear hN2
      cases b with
      | true =>
        go_wp2_with fail
        go_ret
        refine ⟨?_, HN.out.then_new HN2.out⟩
        rw [← HR.out, Hdr.out, idxE, if_pos Hb.out.symm]; rfl
      | false =>
        go_wp2_with fail
        go_roundg (n - (k + 1))
        case measure => omega
        case rel => exact ⟨k + 1, by omega, rfl, by go_num, by rw [← HR.out, Hdr.out, idxE, if_neg (by rw [← Hb.out]; decide)], HN.out.then_new HN2.out⟩
    · obtain rfl : k = n := by omega
      have HN := Lib.hid hN; clear hN
      go_wp2_with fail
      go_ret
      refine ⟨?_, HN.out⟩
      rw [← HR.out, List.drop_of_length_le (by rw [Hn.out]; omega)]; rfl
set_option maxRecDepth 100000 in
set_option maxHeartbeats 1000000 in
theorem indexFree (f : En → Bool) (l : List En) (n : Nat) (A : Option Addr) (c : Nat) (w : World) (F : Nat → Prop) (p : Nat) (hn : l.length = n) (hE : Ents w F A l) (hF : ∀ k, F k → k < w.heap.size) (hs : n ≤ 1000) (hC : AsksE 46 #[.pointer (some ⟨p, 0, none⟩)] w f) :
    Calls Try.prog 43 #[.slice A n c, .func (.func 46) #[] #[.pointer (some ⟨p, 0, none⟩)]] w fun e w' => e = .returned (.int .i64 (idxE f 0 l)) ∧ New w w' := by
  have Hn := Lib.hid hn; clear hn
  have HE := Lib.hid hE; clear hE
  have HF := Lib.hid hF; clear hF
  have HC := Lib.hid hC; clear hC
  go_enter Try.func43, Try.ntmps43
  go_wp2_with fail
  go_loopg [8] n (fun gk i wr => ∃ k : Nat, k ≤ n ∧ gk = n - k ∧ i = .int .i64 k ∧ idxE f k (l.drop k) = idxE f 0 l ∧ New w wr)
  case atStart => exact ⟨0, by omega, by omega, rfl, rfl, Chg.refl _ _⟩
  case round =>
    obtain ⟨k, hk, rfl, rfl, hR, hN⟩ := hrel
    have HR := Lib.hid hR; clear hR
    by_cases hlt : k < n
    · obtain ⟨e, he⟩ : ∃ e, l[k]? = some e := ⟨_, List.getElem?_eq_getElem (by rw [Hn.out]; exact hlt)⟩
      have Hdr : Hid (l.drop k = e :: l.drop (k + 1)) := by
        show _ = _
        obtain ⟨h1, h2⟩ := List.getElem?_eq_some_iff.1 he
        rw [List.drop_eq_getElem_cons h1, h2]
      obtain ⟨a, rfl, hab, h0, h1, h2, h3⟩ := (HE.out.new hN HF.out) k e he
      have HCo := Lib.hid (HC.out e wr hN)
      simp only [List.append_toArray, List.cons_append, List.nil_append] at HCo
      obtain ⟨b, hb⟩ : ∃ b, b = f e := ⟨_, rfl⟩
      rw [← hb] at HCo
      have Hb := Lib.hid hb; clear hb
      obtain ⟨ek, hek⟩ : ∃ x, x = e.k := ⟨_, rfl⟩
      obtain ⟨eo, heo⟩ : ∃ x, x = e.o := ⟨_, rfl⟩
      obtain ⟨ei, hei⟩ : ∃ x, x = e.i := ⟨_, rfl⟩
      obtain ⟨es, hes⟩ : ∃ x, x = e.s := ⟨_, rfl⟩
      rw [← hek, ← heo, ← hei, ← hes] at HCo
      rw [← hek] at h0
      rw [← heo] at h1
      rw [← hei] at h2
      rw [← hes] at h3
      have HN := Lib.hid hN
      clear hN he hek heo hei hes hab
      go_wp2_with fail
      with_reducible refine HCo.out.mono ?_
      rintro x w' ⟨rfl, hN2⟩
      have HN2 := Lib.hid hN2; clear hN2
      cases b with
      | true =>
        go_wp2_with fail
        go_ret
        refine ⟨?_, HN.out.then_new HN2.out⟩
        rw [← HR.out, Hdr.out, idxE, if_pos Hb.out.symm]; rfl
      | false =>
        go_wp2_with fail
        go_roundg (n - (k + 1))
        case measure => omega
        case rel => exact ⟨k + 1, by omega, rfl, by go_num, by rw [← HR.out, Hdr.out, idxE, if_neg (by rw [← Hb.out]; decide)], HN.out.then_new HN2.out⟩
    · obtain rfl : k = n := by omega
      have HN := Lib.hid hN; clear hN
      go_wp2_with fail
      go_ret
      refine ⟨?_, HN.out⟩
      rw [← HR.out, List.drop_of_length_le (by rw [Hn.out]; omega)]; rfl
set_option maxRecDepth 100000 in
set_option maxHeartbeats 1000000 in
theorem containsFree (f : En → Bool) (l : List En) (n : Nat) (A : Option Addr) (c : Nat) (w : World) (F : Nat → Prop) (p : Nat) (hn : l.length = n) (hE : Ents w F A l) (hF : ∀ k, F k → k < w.heap.size) (hs : n ≤ 1000) (hC : AsksE 46 #[.pointer (some ⟨p, 0, none⟩)] w f) :
    Calls Try.prog 45 #[.slice A n c, .func (.func 46) #[] #[.pointer (some ⟨p, 0, none⟩)]] w fun e w' => e = .returned (.bool (l.any f)) ∧ New w w' := by
  have HC := Lib.hid (indexFree f l n A c w F p hn hE hF hs hC)
  have HA := Lib.hid (idxE_any f l 0)
  clear hn hE hF hs hC
  go_enter Try.func45, Try.ntmps45
  go_wp2_with fail
  with_reducible refine HC.out.mono ?_
  rintro e w' ⟨rfl, hN⟩
  have HN := Lib.hid hN; clear hN
  obtain ⟨x, hx⟩ : ∃ x, x = idxE f 0 l := ⟨_, rfl⟩
  rw [← hx]
  have Hx := Lib.hid hx; clear hx
  go_wp2_with fail
  go_ret
  refine ⟨?_, HN.out⟩
  rw [← HA.out, ← Hx.out]; rfl
set_option maxRecDepth 100000 in
set_option maxHeartbeats 1000000 in
theorem indexEnt (f : En → Bool) (l : List En) (n : Nat) (A : Option Addr) (c : Nat) (w : World) (F : Nat → Prop) (p : Nat) (hn : l.length = n) (hE : Ents w F A l) (hF : ∀ k, F k → k < w.heap.size) (hs : n ≤ 1000) (hC : AsksE 78 #[.pointer (some ⟨p, 0, none⟩)] w f) :
    Calls Try.prog 43 #[.slice A n c, .func (.func 78) #[] #[.pointer (some ⟨p, 0, none⟩)]] w fun e w' => e = .returned (.int .i64 (idxE f 0 l)) ∧ New w w' := by
  have Hn := Lib.hid hn; clear hn
  have HE := Lib.hid hE; clear hE
  have HF := Lib.hid hF; clear hF
  have HC := Lib.hid hC; clear hC
  go_enter Try.func43, Try.ntmps43
  go_wp2_with fail
  go_loopg [8] n (fun gk i wr => ∃ k : Nat, k ≤ n ∧ gk = n - k ∧ i = .int .i64 k ∧ idxE f k (l.drop k) = idxE f 0 l ∧ New w wr)
  case atStart => exact ⟨0, by omega, by omega, rfl, rfl, Chg.refl _ _⟩
  case round =>
    obtain ⟨k, hk, rfl, rfl, hR, hN⟩ := hrel
    have HR := Lib.hid hR; clear hR
    by_cases hlt : k < n
    · obtain ⟨e, he⟩ : ∃ e, l[k]? = some e := ⟨_, List.getElem?_eq_getElem (by rw [Hn.out]; exact hlt)⟩
      have Hdr : Hid (l.drop k = e :: l.drop (k + 1)) := by
        show _ = _
        obtain ⟨h1, h2⟩ := List.getElem?_eq_some_iff.1 he
        rw [List.drop_eq_getElem_cons h1, h2]
      obtain ⟨a, rfl, hab, h0, h1, h2, h3⟩ := (HE.out.new hN HF.out) k e he
      have HCo := Lib.hid (HC.out e wr hN)
      simp only [List.append_toArray, List.cons_append, List.nil_append] at HCo
      obtain ⟨b, hb⟩ : ∃ b, b = f e := ⟨_, rfl⟩
      rw [← hb] at HCo
      have Hb := Lib.hid hb; clear hb
      obtain ⟨ek, hek⟩ : ∃ x, x = e.k := ⟨_, rfl⟩
      obtain ⟨eo, heo⟩ : ∃ x, x = e.o := ⟨_, rfl⟩
      obtain ⟨ei, hei⟩ : ∃ x, x = e.i := ⟨_, rfl⟩
      obtain ⟨es, hes⟩ : ∃ x, x = e.s := ⟨_, rfl⟩
      rw [← hek, ← heo, ← hei, ← hes] at HCo
      rw [← hek] at h0
      rw [← heo] at h1
      rw [← hei] at h2
      rw [← hes] at h3
      have HN := Lib.hid hN
      clear hN he hek heo hei hes hab
      go_wp2_with fail
      with_reducible refine HCo.out.mono ?_
      rintro x w' ⟨rfl, hN2⟩
      have HN2 := Lib.hid hN2; clear hN2
      cases b with
      | true =>
        go_wp2_with fail
        go_ret
        refine ⟨?_, HN.out.then_new HN2.out⟩
        rw [← HR.out, Hdr.out, idxE, if_pos Hb.out.symm]; rfl
      | false =>
        go_wp2_with fail
        go_roundg (n - (k + 1))
        case measure => omega
        case rel => exact ⟨k + 1, by omega, rfl, by go_num, by rw [← HR.out, Hdr.out, idxE, if_neg (by rw [← Hb.out]; decide)], HN.out.then_new HN2.out⟩
    · obtain rfl : k = n := by omega
      have HN := Lib.hid hN; clear hN
      go_wp2_with fail
      go_ret
      refine ⟨?_, HN.out⟩
      rw [← HR.out, List.drop_of_length_le (by rw [Hn.out]; omega)]; rfl
set_option maxRecDepth 100000 in
set_option maxHeartbeats 1000000 in
theorem containsEnt (f : En → Bool) (l : List En) (n : Nat) (A : Option Addr) (c : Nat) (w : World) (F : Nat → Prop) (p : Nat) (hn : l.length = n) (hE : Ents w F A l) (hF : ∀ k, F k → k < w.heap.size) (hs : n ≤ 1000) (hC : AsksE 78 #[.pointer (some ⟨p, 0, none⟩)] w f) :
    Calls Try.prog 45 #[.slice A n c, .func (.func 78) #[] #[.pointer (some ⟨p, 0, none⟩)]] w fun e w' => e = .returned (.bool (l.any f)) ∧ New w w' := by
  have HC := Lib.hid (indexEnt f l n A c w F p hn hE hF hs hC)
  have HA := Lib.hid (idxE_any f l 0)
  clear hn hE hF hs hC
  go_enter Try.func45, Try.ntmps45
  go_wp2_with fail
  with_reducible refine HC.out.mono ?_
  rintro e w' ⟨rfl, hN⟩
  have HN := Lib.hid hN; clear hN
  obtain ⟨x, hx⟩ : ∃ x, x = idxE f 0 l := ⟨_, rfl⟩
  rw [← hx]
  have Hx := Lib.hid hx; clear hx
  go_wp2_with fail
  go_ret
  refine ⟨?_, HN.out⟩
  rw [← HA.out, ← Hx.out]; rfl
end Go.Proofs.Ytjkpijinpfimiaa
