/-
  What the law StampTexts does: it returns true and turns nothing that was there.
-/
import Derived.Test.YtcnnakidpnhecaaLBack
namespace Go.Proofs.Ytcnnakidpnhecaa
open Go.RowKit
def okD (n c : Int) : Prop := 0 ≤ n ∧ 1 ≤ c ∧ c ≤ 18 ∧ n.toNat < 10 ^ c.toNat
theorem Digits_okD (n c : Int) (w : World) (hn : n ≤ 9223372036854775807) (h : okD n c) :
    Calls Try.prog 12 #[.int .i64 n, .int .i64 c] w fun e w' => ∃ g, e = .returned (.tuple #[.slice (some ⟨g, 0, none⟩) ((c.toNat + 1) / 2) ((c.toNat + 1) / 2), .int .i64 0]) ∧ w'.ownsRow w.heap.size 5 1 (.slice (some ⟨g, 0, none⟩) ((c.toNat + 1) / 2) ((c.toNat + 1) / 2)) ((c.toNat + 1) / 2) ((fbytes n.toNat ((c.toNat + 1) / 2)).map bV) ∧ New w w' := by
  obtain ⟨h1, h2, h3, h4⟩ := h
  obtain ⟨nn, rfl⟩ : ∃ nn : Nat, n = (nn : Int) := ⟨n.toNat, by omega⟩
  obtain ⟨cc, rfl⟩ : ∃ cc : Nat, c = (cc : Int) := ⟨c.toNat, by omega⟩
  rw [Int.toNat_natCast, Int.toNat_natCast] at h4
  rw [Int.toNat_natCast, Int.toNat_natCast, ← dbytes_full nn cc _ h4]
  exact Digits_ok nn cc w (by omega) (by omega) (by omega) h4
theorem fbytes_cons (n L : Nat) : fbytes n (L + 1) = fb n L :: fbytes n L := by
  unfold fbytes
  rw [List.range_succ_eq_map, List.map_cons, List.map_map]
  congr 1
  apply List.map_congr_left
  intro q _
  simp only [Function.comp_apply]
  have : L + 1 - 1 - Nat.succ q = L - 1 - q := by omega
  rw [this]
theorem fb_lt (n r : Nat) : fb n r < 256 := by
  have h1 := dig_lt n (2 * r)
  have h2 := dig_lt n (2 * r + 1)
  unfold fb
  omega
theorem fb_two (n r : Nat) : n / 100 ^ r % 100 = 10 * dig n (2 * r + 1) + dig n (2 * r) := by
  unfold dig
  have e : (100 : Nat) ^ r = 10 ^ (2 * r) := by rw [Nat.pow_mul]
  rw [e, Nat.pow_succ, ← Nat.div_div_eq_div_mul]
  omega
theorem fb_less (a b r : Nat) : (fb a r < fb b r ↔ a / 100 ^ r % 100 < b / 100 ^ r % 100) ∧ (fb a r = fb b r ↔ a / 100 ^ r % 100 = b / 100 ^ r % 100) := by
  rw [fb_two, fb_two]
  have h1 := dig_lt a (2 * r)
  have h2 := dig_lt a (2 * r + 1)
  have h3 := dig_lt b (2 * r)
  have h4 := dig_lt b (2 * r + 1)
  unfold fb
  omega
def u8s (xs : List Nat) : List UInt8 := xs.map UInt8.ofNat
theorem u8_less (x y : Nat) (hx : x < 256) (hy : y < 256) : (UInt8.ofNat x < UInt8.ofNat y ↔ x < y) ∧ (UInt8.ofNat x = UInt8.ofNat y ↔ x = y) := by
  constructor
  · rw [UInt8.lt_iff_toNat_lt, UInt8.toNat_ofNat', UInt8.toNat_ofNat']
    omega
  · rw [← UInt8.toNat_inj, UInt8.toNat_ofNat', UInt8.toNat_ofNat']
    omega
theorem lex_num (P d e s t : Nat) (hs : s < P) (ht : t < P) : (s + P * d < t + P * e) ↔ (d < e ∨ (d = e ∧ s < t)) := by
  rcases Nat.lt_trichotomy d e with h | h | h
  · have : P * (d + 1) ≤ P * e := Nat.mul_le_mul_left P h
    rw [Nat.mul_add] at this
    constructor
    · intro _; exact Or.inl h
    · intro _; omega
  · subst h
    constructor
    · intro h1; exact Or.inr ⟨rfl, by omega⟩
    · rintro (h1 | ⟨_, h1⟩) <;> omega
  · have : P * (e + 1) ≤ P * d := Nat.mul_le_mul_left P h
    rw [Nat.mul_add] at this
    constructor
    · intro h1; omega
    · rintro (h1 | ⟨h1, _⟩) <;> omega
theorem bytesLess_num (a b L : Nat) : Op.bytesLess (u8s (fbytes a L)) (u8s (fbytes b L)) = decide (a % 100 ^ L < b % 100 ^ L) := by
  induction L with
  | zero => simp [fbytes, u8s, Op.bytesLess, Nat.mod_one]
  | succ L ih =>
    rw [fbytes_cons, fbytes_cons]
    simp only [u8s, List.map_cons] at ih ⊢
    rw [Op.bytesLess, ih, Nat.pow_succ, Nat.mod_mul, Nat.mod_mul]
    obtain ⟨h1, h2⟩ := u8_less (fb a L) (fb b L) (fb_lt a L) (fb_lt b L)
    obtain ⟨g1, g2⟩ := fb_less a b L
    have hP : 0 < 100 ^ L := Nat.pow_pos (by omega)
    rw [Bool.eq_iff_iff]
    simp only [Bool.or_eq_true, decide_eq_true_eq, Bool.and_eq_true, beq_iff_eq]
    rw [h1, h2, g1, g2, lex_num (100 ^ L) _ _ _ _ (Nat.mod_lt _ hP) (Nat.mod_lt _ hP)]
theorem bstr_u8s (xs : List Nat) : (bstr xs).toList = u8s xs := bstr_list xs
theorem texts_less (a b c L : Nat) (hc : c ≤ 2 * L) (ha : a < 10 ^ c) (hb : b < 10 ^ c) : Op.bytesLess (bstr (fbytes a L)).toList (bstr (fbytes b L)).toList = decide (a < b) := by
  have hp := pow_hundred c L hc
  rw [bstr_u8s, bstr_u8s, bytesLess_num, Nat.mod_eq_of_lt (by omega), Nat.mod_eq_of_lt (by omega)]
theorem texts_same (a b c L : Nat) (hc : c ≤ 2 * L) (ha : a < 10 ^ c) (hb : b < 10 ^ c) : ((bstr (fbytes a L)).toList == (bstr (fbytes b L)).toList) = decide (a = b) := by
  by_cases h : a = b
  · subst h; simp
  · rw [decide_eq_false h, beq_eq_false_iff_ne]
    intro he
    have h1 := texts_less a b c L hc ha hb
    have h2 := texts_less b a c L hc hb ha
    have h3 := texts_less b b c L hc hb hb
    rw [he, h3] at h1
    rw [he, h3] at h2
    simp only [Nat.lt_irrefl, decide_false] at h1 h2
    have h1 := of_decide_eq_false h1.symm
    have h2 := of_decide_eq_false h2.symm
    omega
set_option maxHeartbeats 1000000 in
theorem texts_walk (a b c : Int) (w : World) (ha : (Lit.int .i64 a).wf = true) (hb : (Lit.int .i64 b).wf = true) :
    Calls Try.prog 10 #[.int .i64 a, .int .i64 b, .int .i64 c] w fun e w' => e = .returned (.bool true) ∧ New w w' := by
  have ha' := (i64_wf ha).2
  have hb' := (i64_wf hb).2
  clear ha hb
  by_cases h : okD a c
  · by_cases k : okD b c
    · have hda := fun w => Digits_okD a c w ha' h
      have hdb := fun w => Digits_okD b c w hb' k
      obtain ⟨h1, h2, h3, h4⟩ := h
      obtain ⟨k1, _, _, k4⟩ := k
      obtain ⟨L, hL⟩ : ∃ L, L = (c.toNat + 1) / 2 := ⟨_, rfl⟩
      rw [← hL] at hda hdb
      obtain ⟨xs, has⟩ : ∃ xs, xs = fbytes a.toNat L := ⟨_, rfl⟩
      obtain ⟨bs, hbs⟩ : ∃ bs, bs = fbytes b.toNat L := ⟨_, rfl⟩
      rw [← has] at hda
      rw [← hbs] at hdb
      have HDa := Lib.hid hda; clear hda
      have HDb := Lib.hid hdb; clear hdb
      have Has := Lib.hid has; clear has
      have Hbs := Lib.hid hbs; clear hbs
      have HL := Lib.hid hL; clear hL
      have H4 := Lib.hid h4; clear h4
      have K4 := Lib.hid k4; clear k4
      go_enter Try.func10, Try.ntmps10
      go_wp2_with fail
      with_reducible refine (awake_any _).mono ?_
      rintro e w1 ⟨rfl, hN1⟩
      have HN1 := Lib.hid hN1; clear hN1
      go_wp2_with fail
      with_reducible refine (HDa.out _).mono ?_
      rintro e w2 ⟨g, rfl, hO2, hN2⟩
      have HO2 := Lib.hid hO2; clear hO2
      have HN2 := Lib.hid hN2; clear hN2
      go_wp2_with fail
      with_reducible refine (HDb.out _).mono ?_
      rintro e w3 ⟨g', rfl, hO3, hN3⟩
      have hconv1 : (convert 22 9 (.slice (some ⟨g, 0, none⟩) L L)).run Try.prog w3 = .ok (.string (bstr xs)) w3 := own_string Try.underlying22 Try.underlying5 Try.underlying9 (own_new HO2.out hN3)
      have hconv2 : (convert 22 9 (.slice (some ⟨g', 0, none⟩) L L)).run Try.prog w3 = .ok (.string (bstr bs)) w3 := own_string Try.underlying22 Try.underlying5 Try.underlying9 hO3
      have HN3 := Lib.hid hN3; clear hN3 hO3
      have hLc : c.toNat ≤ 2 * L := by have := HL.out; omega
      have hless : Op.bytesLess (bstr xs).toList (bstr bs).toList = decide (a < b) := by
        rw [Has.out, Hbs.out, texts_less _ _ _ _ hLc H4.out K4.out]
        rw [decide_eq_decide]; omega
      have hsame : ((bstr xs).toList == (bstr bs).toList) = (a == b) := by
        rw [Has.out, Hbs.out, texts_same _ _ _ _ hLc H4.out K4.out, Bool.eq_iff_iff]
        simp only [decide_eq_true_eq, beq_iff_eq]; omega
      go_wp2
      go_ret
      exact ⟨rfl, (HN1.out.then_new HN2.out).then_new HN3.out⟩
    · have hda := fun w => Digits_okD a c w ha' h
      have hdb := fun w => Digits_err b c w hb' k
      have HDa := Lib.hid hda; clear hda
      have HDb := Lib.hid hdb; clear hdb h k
      go_enter Try.func10, Try.ntmps10
      go_wp2_with fail
      with_reducible refine (awake_any _).mono ?_
      rintro e w1 ⟨rfl, hN1⟩
      have HN1 := Lib.hid hN1; clear hN1
      go_wp2_with fail
      with_reducible refine (HDa.out _).mono ?_
      rintro e w2 ⟨g, rfl, hO2, hN2⟩
      have HN2 := Lib.hid hN2; clear hN2 hO2
      go_wp2_with fail
      with_reducible refine (HDb.out _).mono ?_
      rintro e w3 ⟨rfl, hN3⟩
      have HN3 := Lib.hid hN3; clear hN3
      go_wp2
      go_ret
      exact ⟨rfl, (HN1.out.then_new HN2.out).then_new HN3.out⟩
  · have hda := fun w => Digits_err a c w ha' h
    have HDa := Lib.hid hda; clear hda h
    by_cases k : okD b c
    · have hdb := fun w => Digits_okD b c w hb' k
      have HDb := Lib.hid hdb; clear hdb k
      go_enter Try.func10, Try.ntmps10
      go_wp2_with fail
      with_reducible refine (awake_any _).mono ?_
      rintro e w1 ⟨rfl, hN1⟩
      have HN1 := Lib.hid hN1; clear hN1
      go_wp2_with fail
      with_reducible refine (HDa.out _).mono ?_
      rintro e w2 ⟨rfl, hN2⟩
      have HN2 := Lib.hid hN2; clear hN2
      go_wp2_with fail
      with_reducible refine (HDb.out _).mono ?_
      rintro e w3 ⟨g, rfl, hO3, hN3⟩
      have HN3 := Lib.hid hN3; clear hN3 hO3
      go_wp2
      go_ret
      exact ⟨rfl, (HN1.out.then_new HN2.out).then_new HN3.out⟩
    · have hdb := fun w => Digits_err b c w hb' k
      have HDb := Lib.hid hdb; clear hdb k
      go_enter Try.func10, Try.ntmps10
      go_wp2_with fail
      with_reducible refine (awake_any _).mono ?_
      rintro e w1 ⟨rfl, hN1⟩
      have HN1 := Lib.hid hN1; clear hN1
      go_wp2_with fail
      with_reducible refine (HDa.out _).mono ?_
      rintro e w2 ⟨rfl, hN2⟩
      have HN2 := Lib.hid hN2; clear hN2
      go_wp2_with fail
      with_reducible refine (HDb.out _).mono ?_
      rintro e w3 ⟨rfl, hN3⟩
      have HN3 := Lib.hid hN3; clear hN3
      go_wp2
      go_ret
      exact ⟨rfl, (HN1.out.then_new HN2.out).then_new HN3.out⟩
theorem texts_law {W : World} (a : Int) (ha : (Lit.int .i64 a).wf = true) (b : Int) (hb : (Lit.int .i64 b).wf = true) (c : Int) (_ : (Lit.int .i64 c).wf = true) :
    Calls Try.prog 10 #[.int .i64 a, .int .i64 b, .int .i64 c] W fun e w' => e = .returned (.bool true) ∧ New W w' := texts_walk a b c W ha hb
end Go.Proofs.Ytcnnakidpnhecaa
