/-
  The walk of the law TlvAsks: it returns true and turns no memory that was there.
-/
import Derived.Test.YtkhlalcghdfamaaFindB
import Derived.Test.YtkhlalcghdfamaaSameB
import Derived.Test.YtkhlalcghdfamaaSpoilB
import Derived.Test.YtkhlalcghdfamaaCuts
import Derived.Test.YtkhlalcghdfamaaLPuts
namespace Go.Proofs.Ytkhlalcghdfamaa
open Go.RowKit
/-- one new element, in a slice of its own -/
theorem one_new {w : World} {F : Nat → Prop} {g : Nat} {tag : Int} {bs : List Nat} {s : Tr} {A1 A2 : Option Addr} {c1 c2 : Nat} (hg : Has w g 41 #[.int .i64 tag, .slice A1 bs.length c1, .slice A2 s.len c2]) (hF : F g)
    (h1 : OwnR w F 5 1 (.slice A1 bs.length c1) bs.length (bs.map bV)) (h2 : OwnE w F (.slice A2 s.len c2) s) (h256 : ∀ x ∈ bs, x < 256) (hbl : bs.length ≤ 140737488355328) (hsl : s.len * 56 ≤ 140737488351232) (ht : -9223372036854775808 ≤ tag ∧ tag ≤ 9223372036854775807) :
    Lay w (fun k => F k ∧ k < w.heap.size) (some ⟨g, 0, none⟩) 0 (.cons tag bs s .nil) ∧ ShV w F (some ⟨g, 0, none⟩) (.cons tag bs s .nil) := by
  obtain ⟨xs, hx1, hx2⟩ := h2
  constructor
  · refine ⟨⟨.slice A1 bs.length c1, A2, c2, three_has hg ⟨hF, hg.lt⟩ rfl rfl rfl, h1.byts rfl h256 hbl, (own_nil hx1.1), hsl, ht, ?_⟩, trivial⟩
    exact OwnT.lay (pre := []) hx2 hx1.1 rfl hx1.2
  · intro _
    refine ⟨g, _, rfl, hF, hg, OwnT.shape (pre := []) (xs := [.int .i64 tag, .slice A1 bs.length c1, .slice A2 s.len c2]) ⟨_, _, [], rfl, h1, h256, hbl, hsl, ht, ⟨xs, hx1, hx2⟩, rfl⟩ rfl ?_⟩
    intro j u hu
    simpa using hu
theorem ShV.spo {w w' : World} {F : Nat → Prop} {B : Option Addr} {T : Tr} (h : ShV w F B T) (s : Spo F w w') : ShV w' F B T := fun hn => by
  obtain ⟨g, cs, hB, hF, hg, hL⟩ := h hn
  obtain ⟨cs2, hg2, hr2⟩ := s.e41 g cs hg
  exact ⟨g, cs2, hB, hF, hg2, ShL.spo s hr2 hL⟩
set_option maxRecDepth 100000 in
set_option maxHeartbeats 8000000 in
theorem asks_law {W : World} (A : Option Addr) (n c : Nat) (z : (∃ T : Tr, T.len = n ∧ Els W (· < W.heap.size) (.slice A n c) T) ∧ n ≤ c ∧ c ≤ maxLen)
    (B : Option Addr) (m d : Nat) (y : ∃ T : Tr, T.len = m ∧ Els W (· < W.heap.size) (.slice B m d) T) (tag : Int) :
    Calls Try.prog 6 #[.slice A n c, .slice B m d, .int .i64 tag] W fun e w' => e = .returned (.bool true) ∧ New W w' := by
  obtain ⟨⟨T, hn, hE⟩, hnc, hcm⟩ := z
  obtain ⟨U, hm, hEU⟩ := y
  have hnb := (hE.out (Chg.refl _ _) (fun _ h => h)).2
  have hmb := (hEU.out (Chg.refl _ _) (fun _ h => h)).2
  have HL : Hid (∀ wy, New W wy → Lay wy (· < W.heap.size) A 0 T) := fun wy hy => (hE.out hy (fun _ h => h)).1
  have HM : Hid (∀ wy, New W wy → Lay wy (· < W.heap.size) B 0 U) := fun wy hy => (hEU.out hy (fun _ h => h)).1
  have Hn := Lib.hid hn; clear hn hE
  have Hm := Lib.hid hm; clear hm hEU
  have HCa : Hid (∀ wy, New W wy → Calls Try.prog 11 #[.slice A n c] wy fun e w' => ∃ A' c', e = .returned (.slice A' n c') ∧ OwnE w' (Btw wy w') (.slice A' n c') T ∧ New wy w') := fun wy hy =>
    lcopied_any (T.size + 1) T (Nat.lt_succ_self _) n A c wy _ Hn.out (HL.out wy hy) (fun k hk => Nat.lt_of_lt_of_le hk hy.size) hnb
  obtain ⟨q, hq⟩ : ∃ q, q = decide (T = U) := ⟨_, rfl⟩
  have HS1 : Hid (∀ wy, New W wy → Calls Try.prog 18 #[.slice A n c, .slice B m d] wy fun e w' => e = .returned (.bool q) ∧ New wy w') := fun wy hy => by
    rw [hq]
    exact Same_any (T.size + 1) T U (Nat.lt_succ_self _) n m A B c d wy _ _ Hn.out Hm.out (HL.out wy hy) (HM.out wy hy) hnb hmb (fun k hk => Nat.lt_of_lt_of_le hk hy.size) (fun k hk => Nat.lt_of_lt_of_le hk hy.size)
  have HS2 : Hid (∀ wy, New W wy → Calls Try.prog 14 #[.slice A n c, .slice B m d] wy fun e w' => e = .returned (.bool q) ∧ New wy w') := fun wy hy => by
    rw [hq]
    refine (RSame_any (T.size + 1) T U (Nat.lt_succ_self _) n m A B c d wy _ _ Hn.out Hm.out (HL.out wy hy) (HM.out wy hy) hnb hmb (fun k hk => Nat.lt_of_lt_of_le hk hy.size) (fun k hk => Nat.lt_of_lt_of_le hk hy.size)).mono ?_
    rintro e w' ⟨rfl, q, rfl⟩
    exact ⟨rfl, (Chg.refl _ _).drewN q⟩
  clear hq
  go_enter Try.func6, Try.ntmps6
  go_wp2_with fail
  with_reducible refine (awake_any W).mono ?_
  rintro e w1 ⟨rfl, hN1⟩
  have HN1 := Lib.hid hN1; clear hN1
  go_wp2_with fail
  with_reducible refine (HS1.out w1 HN1.out).mono ?_
  rintro e w2 ⟨rfl, hN2⟩
  have HN2 := Lib.hid (HN1.out.then_new hN2); clear hN2
  go_wp2_with fail
  with_reducible refine (HS2.out w2 HN2.out).mono ?_
  rintro e w3 ⟨rfl, hN3⟩
  have HN3 := Lib.hid (HN2.out.then_new hN3); clear hN3
  go_wp2_with fail
  with_reducible refine (HCa.out w3 HN3.out).mono ?_
  rintro e w4 ⟨A4, c4, rfl, hO4, hN4⟩
  have HSc : Hid (Calls Try.prog 18 #[.slice A n c, .slice A4 n c4] w4 fun e w' => e = .returned (.bool true) ∧ New w4 w') := by
    have hy := HN3.out.then_new hN4
    refine (Same_any (T.size + 1) T T (Nat.lt_succ_self _) n n A A4 c c4 w4 _ _ Hn.out Hn.out (HL.out w4 hy) (hO4.lay hnb Hn.out (Chg.refl _ _)) hnb hnb (fun k hk => Nat.lt_of_lt_of_le hk hy.size) (fun k hk => hk.2)).mono ?_
    rintro e w' ⟨rfl, h⟩
    exact ⟨by simp, h⟩
  have HN4 := Lib.hid (HN3.out.then_new hN4); clear hN4 hO4
  go_wp2_with fail
  with_reducible refine HSc.out.mono ?_
  rintro e w5 ⟨rfl, hN5⟩
  have HN5 := Lib.hid (HN4.out.then_new hN5); clear hN5 HSc
  go_wp2_with fail
  go_loopg [7, 8] n (fun gk at_ i wr => ∃ (P R : Tr) (k : Nat), T = P.app R ∧ P.len = k ∧ k = gk ∧ i = .int .i64 ((k : Int) - 1) ∧ at_ = .int .i64 (idx (tagIs tag) k R) ∧ w5 = wr)
  case atStart => exact ⟨T, .nil, n, (Tr.app_nil T).symm, Hn.out, rfl, rfl, rfl, rfl⟩
  case round =>
    obtain ⟨P, R, k, hT, hP, hkk, rfl, rfl, rfl⟩ := hrel
    have HT := Lib.hid hT; clear hT
    have HP := Lib.hid hP; clear hP
    cases k with
    | succ k =>
      obtain rfl := hkk
      rw [show (((k + 1 : Nat) : Int) - 1) = (k : Int) by omega]
      obtain ⟨P0, t, bs, s, hP0⟩ := Tr.last P (by rw [HP.out]; omega)
      have hl0 : P0.len = k := by have := HP.out; rw [hP0, Tr.len_app] at this; simp only [Tr.len] at this; omega
      have hT0 : T = P0.app (.cons t bs s R) := by rw [HT.out, hP0, Tr.app_app]; rfl
      have hkn : k < n := by have := Hn.out; rw [hT0, Tr.len_app] at this; simp only [Tr.len] at this; omega
      have hLT := HL.out w5 HN5.out
      rw [hT0] at hLT
      have hLk := hLT.behind
      rw [Nat.zero_add, hl0] at hLk
      obtain ⟨⟨_, _, _, ⟨a, rfl, _, h0, _, _⟩, _⟩, _⟩ := hLk
      have HT0 := Lib.hid hT0
      have Hl0 := Lib.hid hl0
      obtain ⟨x, hx⟩ : ∃ x, x = idx (tagIs tag) (k + 1) R := ⟨_, rfl⟩
      rw [← hx]
      have Hx := Lib.hid hx
      clear hT0 hl0 hLT hP0 hx HT HP
      by_cases htt : t = tag
      · subst htt
        go_wp2_with fail
        go_roundg k
        case measure => omega
        case rel => exact ⟨P0, .cons t bs s R, k, HT0.out, Hl0.out, rfl, by go_num, by rw [idx_cons, if_pos (by simp [tagIs])], rfl⟩
      · have hb : (t == tag) = false := by simpa using htt
        have Htt := Lib.hid htt; clear htt
        go_wp2_with fail
        go_roundg k
        case measure => omega
        case rel => exact ⟨P0, .cons t bs s R, k, HT0.out, Hl0.out, rfl, by go_num, by rw [idx_cons, if_neg (by simp [tagIs, Htt.out]), Hx.out], rfl⟩
    | zero =>
      obtain rfl := hkk
      have hR : T = R := by rw [HT.out, Tr.len_zero HP.out]; rfl
      subst hR
      clear HT HP HM Hm HS1 HS2
      go_wp2_with fail
      with_reducible refine (HCa.out w5 HN5.out).mono ?_
      rintro e w6 ⟨A6, c6, rfl, hO6, hN6⟩
      have HFi := Lib.hid (Find_any T tag n A6 c6 w6 _ Hn.out (hO6.lay hnb Hn.out (Chg.refl _ _)) (fun k hk => hk.2) hnb)
      have HN6 := Lib.hid (HN5.out.then_new hN6)
      have HO6 : Hid (∀ wy, New w6 wy → Lay wy (fun k => Btw w5 w6 k ∧ k < w6.heap.size) A6 0 T) := fun wy hy => hO6.lay hnb Hn.out hy
      clear hO6 hN6 HCa
      go_wp2_with fail
      with_reducible refine HFi.out.mono ?_
      rintro e w7 ⟨hE7, hN7⟩
      have HM7 := Lib.hid hN7
      have HN7 := Lib.hid (HN6.out.then_new hN7); clear hN7 HFi
      rcases hE7 with ⟨hi, rfl⟩ | ⟨T0, bs, s, r, hT, hi, A1, c1, A2, c2, rfl, hO1, hO2⟩
      · rw [hi]
        clear hi
        go_wp2_with fail
        go_ret
        exact ⟨rfl, HN7.out.alloc _⟩
      · obtain ⟨k, hk⟩ : ∃ k, k = T0.len := ⟨_, rfl⟩
        have hkn : k < n := by have := Hn.out; rw [hT, Tr.len_app] at this; simp only [Tr.len] at this; omega
        rw [hi, ← hk]
        clear hi
        have HLk : Hid (∀ wy, New W wy → Lay wy (· < W.heap.size) A k (.cons tag bs s r)) := fun wy hy => by
          have hLT := HL.out wy hy
          rw [hT] at hLT
          have hLk := hLT.behind
          rw [Nat.zero_add, ← hk] at hLk
          exact hLk
        obtain ⟨⟨vb, B2, cb2, ⟨a, rfl, _⟩, hb, hnil, hsl, ht, hLs⟩, _⟩ := HLk.out W (Chg.refl _ _)
        have HLa : Hid (∀ wy, New W wy → Lay wy (· < W.heap.size) (some (a.add (k * 3))) 0 (.cons tag bs s .nil)) := fun wy hy => Lay.shift ⟨(HLk.out wy hy).1, trivial⟩
        obtain ⟨hb256, hbl⟩ : (∀ x ∈ bs, x < 256) ∧ bs.length ≤ 140737488355328 := ⟨by obtain ⟨_, _, _, _, _, h, _⟩ := hb; exact h, by obtain ⟨_, _, _, _, _, _, h⟩ := hb; exact h⟩
        have Hb256 := Lib.hid hb256
        have Hbl := Lib.hid hbl
        have Hsl := Lib.hid hsl
        have Ht := Lib.hid ht
        have HO1 := Lib.hid hO1
        have HO2 := Lib.hid hO2
        clear hb256 hbl hsl ht hb hnil hLs HLk hO1 hO2 hT hk
        go_wp2_with fail
        have hG8 := Has.new (w7.alloc (.cells #[.int .i64 tag, .slice A1 bs.length c1, .slice A2 s.len c2] 41)) 41 #[.int .i64 tag, .slice A1 bs.length c1, .slice A2 s.len c2]
        have hN8 : New w7 ((w7.alloc (.cells #[.int .i64 tag, .slice A1 bs.length c1, .slice A2 s.len c2] 41)).alloc (.cells #[.int .i64 tag, .slice A1 bs.length c1, .slice A2 s.len c2] 41)) := ((Chg.refl _ _).alloc _).alloc _
        rw [World.size_alloc] at hG8
        revert hG8 hN8
        generalize (w7.alloc (.cells #[.int .i64 tag, .slice A1 bs.length c1, .slice A2 s.len c2] 41)).alloc (.cells #[.int .i64 tag, .slice A1 bs.length c1, .slice A2 s.len c2] 41) = w8
        intro hG8 hN8
        have hs67 := HM7.out.size
        obtain ⟨hLo, hSh⟩ := one_new (F := fun k => w6.heap.size ≤ k) hG8 (by omega) ⟨own_new HO1.out.1 hN8, fun j hj => (HO1.out.2 j hj).1⟩ ((HO2.out.new hN8).mono (fun j hj => hj.1)) Hb256.out Hbl.out Hsl.out Ht.out
        have HN8 := Lib.hid (HN7.out.then_new hN8)
        have HM8 := Lib.hid (HM7.out.then_new hN8)
        have HSo : Hid (Calls Try.prog 14 #[.slice (some ⟨w7.heap.size + 1, 0, none⟩) 1 1, .slice (some (a.add (k * 3))) 1 (c - k)] w8 fun e w' => e = .returned (.bool true) ∧ ∃ q, w' = w8.drewN q) := by
          refine (RSame_any ((Tr.cons tag bs s .nil).size + 1) (.cons tag bs s .nil) (.cons tag bs s .nil) (Nat.lt_succ_self _) 1 1 _ _ 1 (c - k) w8 _ _ rfl rfl hLo (HLa.out w8 HN8.out) (by decide) (by decide) (fun k hk => hk.2) (fun k hk => Nat.lt_of_lt_of_le hk HN8.out.size)).mono ?_
          rintro e w' ⟨rfl, h⟩
          exact ⟨by simp, h⟩
        have HSh := Lib.hid hSh
        clear hLo hSh hG8 hN8 HO1 HO2
        with_reducible refine HSo.out.mono ?_
        rintro e w9 ⟨rfl, q9, hw9⟩
        have hM9 : New w8 w9 := by rw [hw9]; exact (Chg.refl _ _).drewN q9
        have HSp := Lib.hid (spoil_any ((Tr.cons tag bs s .nil).size + 1) (.cons tag bs s .nil) (Nat.lt_succ_self _) 1 (some ⟨w7.heap.size + 1, 0, none⟩) 1 w9 (fun k => w6.heap.size ≤ k) rfl (by rw [hw9]; exact ShV.spo HSh.out ((Spo.refl _ _).drewN q9)) (by decide))
        have HN9 := Lib.hid (HN8.out.then_new hM9)
        have HM9 := Lib.hid (HM8.out.then_new hM9)
        clear hM9 hw9 HSo HSh
        go_wp2_with fail
        with_reducible refine HSp.out.mono ?_
        rintro e w10 ⟨rfl, hs10⟩
        have HC10 := Lib.hid hs10.chg
        clear hs10 HSp
        have hs6 := HN6.out.size
        have HN10 : Hid (New W w10) := HN9.out.trans HC10.out (fun i hi he => by omega)
        have HSi : Hid (Calls Try.prog 14 #[.slice A6 n c6, .slice (some a) n c] w10 fun e w' => e = .returned (.bool true) ∧ New w10 w') := by
          refine (RSame_any (T.size + 1) T T (Nat.lt_succ_self _) n n A6 (some a) c6 c w10 _ _ Hn.out Hn.out (Lay.chg HC10.out (fun k hk => ⟨Nat.lt_of_lt_of_le hk.2 HM9.out.size, fun he => by have := hk.2; omega⟩) (HO6.out w9 HM9.out)) (HL.out w10 HN10.out) hnb hnb (fun k hk => Nat.lt_of_lt_of_le hk.2 (Nat.le_trans HM9.out.size HC10.out.size)) (fun k hk => Nat.lt_of_lt_of_le hk HN10.out.size)).mono ?_
          rintro e w' ⟨rfl, q, rfl⟩
          exact ⟨by simp, (Chg.refl _ _).drewN q⟩
        go_wp2_with fail
        with_reducible refine HSi.out.mono ?_
        rintro e w11 ⟨rfl, hN11⟩
        have HN11 := Lib.hid (HN10.out.then_new hN11); clear hN11
        go_wp2_with fail
        go_ret
        exact ⟨rfl, HN11.out⟩
end Go.Proofs.Ytkhlalcghdfamaa
