/-
  What the law's own told comes to: a card's entries and their bodies.
-/
import Derived.Test.YtjkpijinpfimiaaAw7
namespace Go.Proofs.Ytjkpijinpfimiaa
open Go.RowKit
/-- the bodies of some entries, one behind the other -/
def bodsI (B : List Nat) (l : List En) : List Nat := l.flatMap fun e => bodyI B e.s.toNat
theorem bstr_append (a b : List Nat) : bstr a ++ bstr b = bstr (a ++ b) := by
  unfold bstr
  apply ByteArray.ext
  simp
theorem bstr_len (a : List Nat) : (bstr a).size = a.length := by unfold bstr; simp [ByteArray.size]
theorem bods_step (B : List Nat) (l : List En) (k : Nat) (e : En) (h : l[k]? = some e) : bodsI B (l.take (k + 1)) = bodsI B (l.take k) ++ bodyI B e.s.toNat := by
  unfold bodsI
  rw [List.take_add_one, h, Option.toList_some, List.flatMap_append]
  simp
theorem bods_len (B : List Nat) (l : List En) (k : Nat) (hB : B.length = 512) (hg : ∀ e ∈ l, e.good) (hl : l.length ≤ 5) : (bodsI B (l.take k)).length ≤ 1000 := by
  have h : ∀ m : List En, (∀ e ∈ m, e.good) → (bodsI B m).length = 64 * m.length := by
    intro m
    induction m with
    | nil => intro _; rfl
    | cons e m ih =>
      intro hm
      have h5 := (hm e (by simp)).2
      unfold bodsI at ih ⊢
      rw [List.flatMap_cons, List.length_append, ih (fun x hx => hm x (by simp [hx])), List.length_cons]
      unfold bodyI
      rw [List.length_append, sec_len hB (by omega), sec_len hB (by omega)]
      omega
  rw [h _ (fun e he => hg e (List.mem_of_mem_take he)), List.length_take]
  omega
set_option maxRecDepth 100000 in
set_option maxHeartbeats 4000000 in
theorem told_any (g : Nat) (B : List Nat) (pw : Int) (w : World) (hC : Cd w g B pw) (hr : rdE B = 0) :
    Calls Try.prog 32 #[.pointer (some ⟨g, 0, none⟩)] w fun e w' => ∃ A c, e = .returned (.tuple #[.slice A (rdV B).es.length c, .string (bstr (bodsI B (rdV B).es)), .bool true]) ∧ w'.ownsRow w.heap.size 60 4 (.slice A (rdV B).es.length c) (rdV B).es.length (enRow (rdV B).es) ∧ New w w' := by
  have HC := Lib.hid hC
  have Hr := Lib.hid hr
  have Hf := Lib.hid (rd_fine hC.small hr)
  clear hC hr
  obtain ⟨V, hV⟩ : ∃ V, V = rdV B := ⟨_, rfl⟩
  have HVe := Lib.hid hV
  rw [← hV] at Hf ⊢
  clear hV
  cases V with
  | mk x0 x1 x2 x3 l =>
  simp only
  obtain ⟨n, hn⟩ : ∃ n, n = l.length := ⟨_, rfl⟩
  rw [← hn]
  have Hn := Lib.hid hn
  clear hn
  go_enter Try.func32, Try.ntmps32
  go_wp2_with fail
  with_reducible refine (pRead_any g B pw w HC.out).mono ?_
  rintro e w1 ⟨⟨E, ec, rfl, hO1⟩, hN1⟩
  rw [Hr.out, ← HVe.out]
  rw [← HVe.out] at hO1
  simp only at hO1 ⊢
  have HL5 : Hid (l.length ≤ 5) := Hf.out.len
  have HG : Hid (∀ e ∈ l, e.good) := Hf.out.sound.1
  rw [← Hn.out] at hO1 HL5 ⊢
  have hn5 : n ≤ 5 := HL5.out
  have HO1 := Lib.hid hO1
  have HN1 := Lib.hid hN1
  have HC1 := Lib.hid (HC.out.new hN1)
  clear hO1 hN1
  go_wp2_with fail
  obtain ⟨vb, hvb⟩ : ∃ vb, vb = w1.heap.size := ⟨_, rfl⟩
  obtain ⟨w2, hw2⟩ : ∃ w2, w2 = w1.alloc (.cells #[.int .i64 x0, .int .i64 x1, .int .i64 x2, .int .i64 x3, .slice E n ec] 30) := ⟨_, rfl⟩
  have hN2 : New w1 w2 := by rw [hw2]; exact (Chg.refl _ _).alloc _
  have HV2 : Hid (Has w2 vb 30 #[.int .i64 x0, .int .i64 x1, .int .i64 x2, .int .i64 x3, .slice E n ec]) := by rw [hw2, hvb]; exact Has.new w1 30 _
  have HO2 := Lib.hid (own_new HO1.out hN2)
  have HN2 := Lib.hid (HN1.out.then_new hN2)
  have HC2 := Lib.hid (HC1.out.new hN2)
  rw [← hw2, ← hvb]
  clear hw2 hvb hN2
  go_loopg [7, 8] n (fun gk s x wr => ∃ k : Nat, k ≤ n ∧ gk = n - k ∧ s = .string (bstr (bodsI B (l.take k))) ∧ x = .int .i64 k ∧ New w2 wr)
  case atStart => exact ⟨0, by omega, by omega, rfl, rfl, Chg.refl _ _⟩
  case round =>
    obtain ⟨k, hk, rfl, rfl, rfl, hN⟩ := hrel
    have hv4 : wr.cell? ⟨vb, 4, none⟩ = some (.slice E n ec) := ((HV2.out.keep hN).cell 4).trans rfl
    by_cases hlt : k < n
    · obtain ⟨e, he⟩ : ∃ e, l[k]? = some e := ⟨_, List.getElem?_eq_getElem (by rw [← Hn.out]; exact hlt)⟩
      have hg := HG.out e (List.mem_of_getElem? he)
      have Hst := Lib.hid (bods_step B l k e he)
      obtain ⟨a, rfl, hab, h0, h1, h2, h3⟩ := ((Ents.of_own HO2.out).new hN (own_below HO2.out)) k e he
      obtain ⟨es, hes⟩ : ∃ x, x = e.s := ⟨_, rfl⟩
      rw [← hes] at h3 Hst
      have hes5 : 0 ≤ es ∧ es ≤ 5 := by rw [hes]; exact hg.2
      clear he hg h0 h1 h2 hes hab
      have HM := Lib.hid hN
      clear hN
      obtain ⟨t, ht⟩ : ∃ t, t = bodsI B (l.take k) := ⟨_, rfl⟩
      have Ht : Hid (t.length ≤ 1000) := by rw [ht]; exact bods_len B l k HC2.out.len HG.out (by rw [← Hn.out]; exact hn5)
      rw [← ht] at Hst ⊢
      clear ht
      go_wp2_with fail
      with_reducible refine (Body_of g es B pw wr (HC2.out.new HM.out) hes5).mono ?_
      rintro e w3 ⟨A3, c3, rfl, hO3, hN3⟩
      have hsv := own_str hO3
      have hz1 := bstr_len t
      have hz2 := bstr_len (bodyI B es.toNat)
      have hz3 : (bodyI B es.toNat).length = 64 := own_length hO3
      rw [hz3] at hz2
      have hz4 : t.length ≤ 1000 := Ht.out
      clear hz3
      have HM3 := Lib.hid (HM.out.then_new hN3)
      clear hO3 hN3 hv4
      go_wp2_with fail
      go_roundg (n - (k + 1))
      case measure => omega
      case rel => exact ⟨k + 1, by omega, rfl, by rw [Hst.out, ← bstr_append], by go_num, HM3.out⟩
    · obtain rfl : k = n := by omega
      have Hall : Hid (l.take k = l) := List.take_of_length_le (by rw [← Hn.out]; omega)
      have HM := Lib.hid hN
      have HO3 := Lib.hid (own_new HO2.out hN)
      clear hN
      rw [Hall.out]
      go_wp2_with fail
      go_ret3
      exact ⟨E, ec, rfl, HO3.out, HN2.out.then_new HM.out⟩
end Go.Proofs.Ytjkpijinpfimiaa
