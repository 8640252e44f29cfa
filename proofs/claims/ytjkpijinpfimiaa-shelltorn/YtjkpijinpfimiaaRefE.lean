/-
  What the law's own entries comes to.
-/
import Derived.Test.YtjkpijinpfimiaaRefV
namespace Go.Proofs.Ytjkpijinpfimiaa
open Go.RowKit
theorem En.ways (e f : En) : e = f ∨ (e ≠ f ∧ ((e.k == f.k) = false ∨ (e.k = f.k ∧ (e.o == f.o) = false) ∨ (e.k = f.k ∧ e.o = f.o ∧ (e.i == f.i) = false) ∨ (e.k = f.k ∧ e.o = f.o ∧ e.i = f.i ∧ (e.s == f.s) = false))) := by
  by_cases h : e = f
  · exact Or.inl h
  · right
    refine ⟨h, ?_⟩
    by_cases h0 : e.k = f.k
    · by_cases h1 : e.o = f.o
      · by_cases h2 : e.i = f.i
        · by_cases h3 : e.s = f.s
          · exact absurd (by cases e; cases f; simp_all) h
          · exact Or.inr (Or.inr (Or.inr ⟨h0, h1, h2, by simpa using h3⟩))
        · exact Or.inr (Or.inr (Or.inl ⟨h0, h1, by simpa using h2⟩))
      · exact Or.inr (Or.inl ⟨h0, by simpa using h1⟩)
    · exact Or.inl (by simpa using h0)
theorem list_same {la lb : List En} {n : Nat} (ha : la.length = n) (hb : lb.length = n) (h : ∀ t, t < n → la[t]? = lb[t]?) : la = lb := by
  apply List.ext_getElem?
  intro t
  by_cases ht : t < n
  · exact h t ht
  · rw [List.getElem?_eq_none (by omega), List.getElem?_eq_none (by omega)]
set_option maxRecDepth 100000 in
set_option maxHeartbeats 4000000 in
theorem entries_any (A B : Option Addr) (n ca m cb : Nat) (F : Nat → Prop) (la lb : List En) (w : World) (hE : Ents w F A la) (hD : Ents w F B lb) (hF : ∀ k, F k → k < w.heap.size) (hn : la.length = n) (hm : lb.length = m) (hn5 : n ≤ 1000) :
    Calls Try.prog 33 #[.slice A n ca, .slice B m cb] w fun e w' => e = .returned (.bool (decide (la = lb))) ∧ New w w' := by
  have HE := Lib.hid hE; clear hE
  have HD := Lib.hid hD; clear hD
  have HF := Lib.hid hF; clear hF
  have Hn := Lib.hid hn; clear hn
  have Hm := Lib.hid hm; clear hm
  by_cases hnm : n = m
  case neg =>
    have Hd : Hid (decide (la = lb) = false) := decide_eq_false (fun h => hnm (by rw [← Hn.out, ← Hm.out, h]))
    have t0 : ((n : Int) == (m : Int)) = false := by simp; omega
    have t1 : ((n : Int) != (m : Int)) = true := by simp; omega
    go_enter Try.func33, Try.ntmps33
    go_wp2_with fail
    go_ret
    rw [Hd.out]
    exact ⟨rfl, Chg.refl _ _⟩
  case pos =>
  subst hnm
  go_enter Try.func33, Try.ntmps33
  go_wp2_with fail
  go_loopg [5] n (fun gk x wr => ∃ k : Nat, k ≤ n ∧ gk = n - k ∧ x = .int .i64 k ∧ (∀ t, t < k → la[t]? = lb[t]?) ∧ New w wr)
  case atStart => exact ⟨0, by omega, by omega, rfl, fun t h => by omega, Chg.refl _ _⟩
  case round =>
    obtain ⟨k, hk, rfl, rfl, hs, hN⟩ := hrel
    have Hs := Lib.hid hs; clear hs
    have HN := Lib.hid hN; clear hN
    by_cases hlt : k < n
    · obtain ⟨e, he⟩ : ∃ e, la[k]? = some e := ⟨_, List.getElem?_eq_getElem (by rw [Hn.out]; exact hlt)⟩
      obtain ⟨f, hf⟩ : ∃ f, lb[k]? = some f := ⟨_, List.getElem?_eq_getElem (by rw [Hm.out]; exact hlt)⟩
      obtain ⟨a, rfl, hab, h0, h1, h2, h3⟩ := (HE.out.new HN.out HF.out) k e he
      obtain ⟨a', rfl, hab', k0, k1, k2, k3⟩ := (HD.out.new HN.out HF.out) k f hf
      have He := Lib.hid he; clear he
      have Hf := Lib.hid hf; clear hf
      rcases En.ways e f with rfl | ⟨hne, hw⟩
      · obtain ⟨ek, hek⟩ : ∃ x, x = e.k := ⟨_, rfl⟩
        obtain ⟨eo, heo⟩ : ∃ x, x = e.o := ⟨_, rfl⟩
        obtain ⟨ei, hei⟩ : ∃ x, x = e.i := ⟨_, rfl⟩
        obtain ⟨es, hes⟩ : ∃ x, x = e.s := ⟨_, rfl⟩
        rw [← hek] at h0 k0
        rw [← heo] at h1 k1
        rw [← hei] at h2 k2
        rw [← hes] at h3 k3
        clear hek heo hei hes
        go_upto_region 6 with (fail)
        go_quiet (fail)
        go_wp2_with fail
        go_roundg (n - (k + 1))
        case measure => omega
        case rel =>
          refine ⟨k + 1, by omega, rfl, by go_num, fun t ht => ?_, HN.out.drewN _⟩
          rcases Nat.lt_or_ge t k with h | h
          · exact Hs.out t h
          · obtain rfl : t = k := by omega
            rw [He.out, Hf.out]
      · have Hd : Hid (decide (la = lb) = false) := decide_eq_false (fun h => hne (by have := He.out; rw [h, Hf.out] at this; cases this; rfl))
        obtain ⟨ek, hek⟩ : ∃ x, x = e.k := ⟨_, rfl⟩
        obtain ⟨eo, heo⟩ : ∃ x, x = e.o := ⟨_, rfl⟩
        obtain ⟨ei, hei⟩ : ∃ x, x = e.i := ⟨_, rfl⟩
        obtain ⟨es, hes⟩ : ∃ x, x = e.s := ⟨_, rfl⟩
        obtain ⟨fk, hfk⟩ : ∃ x, x = f.k := ⟨_, rfl⟩
        obtain ⟨fo, hfo⟩ : ∃ x, x = f.o := ⟨_, rfl⟩
        obtain ⟨fi, hfi⟩ : ∃ x, x = f.i := ⟨_, rfl⟩
        obtain ⟨fs, hfs⟩ : ∃ x, x = f.s := ⟨_, rfl⟩
        rw [← hek, ← heo, ← hei, ← hes, ← hfk, ← hfo, ← hfi, ← hfs] at hw
        rw [← hek] at h0
        rw [← heo] at h1
        rw [← hei] at h2
        rw [← hes] at h3
        rw [← hfk] at k0
        rw [← hfo] at k1
        rw [← hfi] at k2
        rw [← hfs] at k3
        clear hek heo hei hes hfk hfo hfi hfs hne
        rcases hw with b0 | ⟨rfl, b0⟩ | ⟨rfl, rfl, b0⟩ | ⟨rfl, rfl, rfl, b0⟩
        all_goals
          go_upto_region 6 with (fail)
          go_quiet (fail)
          go_wp2_with fail
          go_ret
          rw [Hd.out]
          exact ⟨rfl, HN.out.drewN _⟩
    · obtain rfl : k = n := by omega
      have Hd : Hid (decide (la = lb) = true) := decide_eq_true (list_same Hn.out Hm.out Hs.out)
      go_wp2_with fail
      go_ret
      rw [Hd.out]
      exact ⟨rfl, HN.out⟩
end Go.Proofs.Ytjkpijinpfimiaa
