/-
  The document's Body of a product and a token.
-/
import Derived.Test.YtkcokcanakljnaaIpB
import Derived.Test.YtkcokcanakljnaaXB2
import Derived.Test.YtkcokcanakljnaaIqH
import Derived.Deep.RegionHeldLaw
import Derived.BigRegion
namespace Go.Proofs.Ytkcokcanakljnaa
open Go.RowKit
def tokB (t : Nat) : List Nat := [t / 16777216, t / 65536 % 256, t / 256 % 256, t % 256]
def bodyN (m : List Int) (t : Nat) : List Nat := (formN m).length :: (formN m ++ (tokB t ++ List.replicate (59 - (formN m).length) 0))
theorem body_len {m : List Int} (h : RightN m) (t : Nat) : (bodyN m t).length = 64 := by
  have := form_len h
  simp only [bodyN, tokB, List.length_cons, List.length_append, List.length_replicate, List.length_nil]
  omega
theorem arr_four {w : World} {g a b c d : Nat} (h : Has w g 5 #[.int .u8 (a : Int), .int .u8 (b : Int), .int .u8 (c : Int), .int .u8 (d : Int)]) : Arr w (· = g) (some ⟨g, 0, none⟩) 4 (fun i => bV ([a, b, c, d].getD i 0)) := by
  intro i hi
  rcases (show i = 0 ∨ i = 1 ∨ i = 2 ∨ i = 3 by omega) with rfl | rfl | rfl | rfl
  · exact ⟨_, rfl, rfl, (h.cell 0).trans rfl⟩
  · exact ⟨_, rfl, rfl, (h.cell 1).trans rfl⟩
  · exact ⟨_, rfl, rfl, (h.cell 2).trans rfl⟩
  · exact ⟨_, rfl, rfl, (h.cell 3).trans rfl⟩
theorem own_oneb {w : World} {base x : Nat} (hb : base ≤ w.heap.size) : (w.alloc (.cells #[.int .u8 (x : Int)] 5)).ownsRow base 5 1 (.slice (some ⟨w.heap.size, 0, none⟩) 1 1) 1 ([x].map bV) :=
  ⟨rfl, .inr ⟨w.heap.size, 1, #[.int .u8 (x : Int)], rfl, hb, heap_alloc_new w _, Nat.le_refl _, by simp [maxLen], rfl, rfl⟩⟩
theorem wrap_mod (k : Nat) : IntKind.u8.wrap (k : Int) = ((k % 256 : Nat) : Int) := by rw [IntKind.wrap_u8]; omega
set_option maxRecDepth 100000 in
set_option maxHeartbeats 4000000 in
theorem rBody10_any (p : Pd) (hp : RightN p.ns) (t : Nat) (ht : t ≤ 2147483647) (w : World) : Calls Try.prog 15 #[p.V, .int .i64 (t : Int)] w fun e w' => ∃ A c, e = .returned (.slice A 64 c) ∧ w'.ownsRow w.heap.size 5 1 (.slice A 64 c) 64 ((bodyN p.ns t).map bV) ∧ New w w' := by
  have HFo := Lib.hid (rForm10_any p hp)
  have hl := form_len hp
  have hbl := body_len hp t
  unfold bodyN at hbl ⊢
  obtain ⟨f, hf⟩ : ∃ f, f = formN p.ns := ⟨_, rfl⟩
  rw [← hf] at HFo hl hbl ⊢
  clear hf hp
  obtain ⟨d1, h1⟩ : ∃ d, d = t / 16777216 := ⟨_, rfl⟩
  obtain ⟨d2, h2⟩ : ∃ d, d = t / 65536 := ⟨_, rfl⟩
  obtain ⟨d3, h3⟩ : ∃ d, d = t / 256 := ⟨_, rfl⟩
  obtain ⟨r2, k2⟩ : ∃ d, d = d2 % 256 := ⟨_, rfl⟩
  obtain ⟨r3, k3⟩ : ∃ d, d = d3 % 256 := ⟨_, rfl⟩
  obtain ⟨r4, k4⟩ : ∃ d, d = t % 256 := ⟨_, rfl⟩
  have htk : tokB t = [d1, r2, r3, r4] := by unfold tokB; rw [← h1, ← h2, ← h3, ← k2, ← k3, ← k4]
  rw [htk] at hbl ⊢
  have f1 : Int.tdiv (t : Int) 16777216 = (d1 : Int) := by rw [Int.tdiv_eq_ediv_of_nonneg (by omega)]; omega
  have f2 : Int.tdiv (t : Int) 65536 = (d2 : Int) := by rw [Int.tdiv_eq_ediv_of_nonneg (by omega)]; omega
  have f3 : Int.tdiv (t : Int) 256 = (d3 : Int) := by rw [Int.tdiv_eq_ediv_of_nonneg (by omega)]; omega
  have q1 : (t : Int) / 16777216 = (d1 : Int) := by omega
  have q2 : (t : Int) / 65536 = (d2 : Int) := by omega
  have q3 : (t : Int) / 256 = (d3 : Int) := by omega
  have u1 : IntKind.u8.wrap (d1 : Int) = (d1 : Int) := small_wrap _ (by omega)
  have u2 : IntKind.u8.wrap (d2 : Int) = (r2 : Int) := by rw [wrap_mod, k2]
  have u3 : IntKind.u8.wrap (d3 : Int) = (r3 : Int) := by rw [wrap_mod, k3]
  have u4 : IntKind.u8.wrap (t : Int) = (r4 : Int) := by rw [wrap_mod, k4]
  have v1 : IntKind.i64.wrap (d1 : Int) = (d1 : Int) := IntWalk.i64_in _ (by omega)
  have v2 : IntKind.i64.wrap (d2 : Int) = (d2 : Int) := IntWalk.i64_in _ (by omega)
  have v3 : IntKind.i64.wrap (d3 : Int) = (d3 : Int) := IntWalk.i64_in _ (by omega)
  have y1 : wrap64 (d1 : Int) = (d1 : Int) := w64 _ (by omega) (by omega)
  have y2 : wrap64 (d2 : Int) = (d2 : Int) := w64 _ (by omega) (by omega)
  have y3 : wrap64 (d3 : Int) = (d3 : Int) := w64 _ (by omega) (by omega)
  clear h1 h2 h3 k2 k3 k4 htk ht
  obtain ⟨L, hL⟩ : ∃ L, L = f.length := ⟨_, rfl⟩
  rw [← hL] at HFo hl hbl ⊢
  have HL := Lib.hid hL
  have Hl := Lib.hid hl
  have Hbl := Lib.hid hbl
  clear hL hl hbl
  have u0 : IntKind.u8.wrap (L : Int) = (L : Int) := small_wrap _ (by have := Hl.out; omega)
  obtain ⟨x0, x1, x2, x3, x4, x5, x6, x7, x8, x9, x10, x11, x12, x13⟩ := p
  have HFo : Hid (∀ w, Calls Try.prog 14 #[.agg #[.int .i64 x0, .int .i64 x1, .int .i64 x2, .int .i64 x3, .int .i64 x4, .int .i64 x5, .int .i64 x6, .int .i64 x7, .bool x8, .int .i64 x9, .int .i64 x10, .int .i64 x11, .int .i64 x12, .bool x13]] w fun e w' => ∃ A c, e = .returned (.slice A L c) ∧ w'.ownsRow w.heap.size 5 1 (.slice A L c) L (f.map bV) ∧ New w w') := HFo.out
  go_enter Try.func15, Try.ntmps15
  go_wp2_with fail
  with_reducible refine (HFo.out _).mono ?_
  rintro e w1 ⟨A, c, rfl, hO, hN⟩
  have HO := Lib.hid hO
  have HN := Lib.hid (((Chg.refl (fun _ => False) w).alloc _).then_new hN)
  clear hO hN HFo
  go_wp2_with (first
    | (at_builtin; refine wpList_app2 (wX := w) rfl (HN3.out.alloc _) _ _ rfl (.slice A3 (1 + L) c3) (1 + L) (L :: f) rfl (own_new HO3.out ((Chg.refl _ _).alloc _)) (some ⟨w3.heap.size, 0, none⟩) 4 4 [d1, r2, r3, r4] (· = w3.heap.size) rfl (arr_four (Has.new w3 5 _)) rfl (fun h => by cases h) (by have := Hl.out; omega) ?_
       intro A4 c4 w4 hO4 hN4 _
       have HO4 := Lib.hid hO4
       have HN4 := Lib.hid hN4
       clear hO4 hN4)
    | (at_builtin; refine wpList_app2 (wX := w) rfl (HN.out.alloc _) _ _ rfl (.slice (some ⟨w1.heap.size, 0, none⟩) 1 1) 1 [L] rfl (own_oneb HN.out.size) A L c f (fun j => Value.ownBlock (.slice A L c) = some j) rfl (own_arr_bs HL.out.symm (own_new HO.out ((Chg.refl _ _).alloc _))) HL.out.symm (fun h => own_nilb HO.out h) (by have := Hl.out; omega) ?_
       intro A3 c3 w3 hO3 hN3 _
       have HO3 := Lib.hid hO3
       have HN3 := Lib.hid hN3
       clear hO3 hN3)
    | fail)
  clear f1 f2 f3 q1 q2 q3 u1 u2 u3 u4 u0 v1 v2 v3 y1 y2 y3
  go_loopg [6] (59 - L) (fun gk s6 wr => ∃ (j k : Nat) (A : Option Addr) (c : Nat), j ≤ 59 - L ∧ k = L + 5 + j ∧ gk = 59 - L - j ∧ s6 = .slice A k c ∧ wr.ownsRow w.heap.size 5 1 (.slice A k c) k ((L :: f ++ [d1, r2, r3, r4] ++ List.replicate j 0).map bV) ∧ New w wr)
  case atStart =>
    refine ⟨0, 1 + L + 4, A4, c4, by omega, by omega, by omega, rfl, ?_, HN4.out⟩
    have := HO4.out
    simpa using this
  case round =>
    obtain ⟨j, k, A5, c5, hj, hk, rfl, rfl, hO5, hN5⟩ := hrel
    have HO5 := Lib.hid hO5
    have HN5 := Lib.hid hN5
    have Hk := Lib.hid hk
    have Hj := Lib.hid hj
    clear hO5 hN5 HO4 HN4 hk hj
    by_cases hlt : k < 64
    · have t1 : decide ((k : Int) < 64) = true := decide_eq_true (by omega)
      have t2 : decide (k < 64) = true := decide_eq_true hlt
      go_wp2_with (first
        | (at_builtin; refine wpList_app2 (wX := w) rfl (HN5.out.alloc _) _ _ rfl (.slice A5 k c5) k (L :: f ++ [d1, r2, r3, r4] ++ List.replicate j 0) rfl (own_new HO5.out ((Chg.refl _ _).alloc _)) (some ⟨wr.heap.size, 0, none⟩) 1 1 [0] (· = wr.heap.size) rfl (arr_one (Has.new wr 5 _)) rfl (fun h => by cases h) (by omega) ?_
           intro A6 c6 w6 hO6 hN6 _
           have HO6 := Lib.hid hO6
           have HN6 := Lib.hid hN6
           clear hO6 hN6)
        | fail)
      go_roundg (59 - L - (j + 1))
      case measure => have := Hk.out; omega
      case rel =>
        refine ⟨j + 1, k + 1, A6, c6, by have := Hk.out; omega, by have := Hk.out; omega, rfl, rfl, ?_, HN6.out⟩
        have := HO6.out
        rw [List.append_assoc, ← List.replicate_succ'] at this
        exact this
    · have hj2 : j = 59 - L := by have := Hk.out; have := Hl.out; have := Hj.out; omega
      have hk2 : k = 64 := by have := Hk.out; have := Hl.out; omega
      subst hk2
      go_wp2_with fail
      go_ret
      refine ⟨A5, c5, rfl, ?_, HN5.out⟩
      have := HO5.out
      rw [hj2] at this
      simpa using this
end Go.Proofs.Ytkcokcanakljnaa
/-
  What a body of 64 bytes says, and back: plain mathematics.
-/
namespace Go.Proofs.Ytkcokcanakljnaa
/-- four bytes as a token -/
def tokV (b : List Nat) : Nat := b.foldl (fun t x => 256 * t + x) 0
/-- a byte that is not 0 behind the token -/
def RestP (b : List Nat) (n : Nat) : Prop := ∃ j, 5 + n ≤ j ∧ j < 64 ∧ b.getD j 0 ≠ 0
noncomputable instance RestP_dec (b : List Nat) (n : Nat) : Decidable (RestP b n) := Classical.propDecidable _
/-- what a body says: an error, or the numbers and the token -/
noncomputable def openN (b : List Nat) : Nat ⊕ (List Int × Nat) :=
  if b.length < 64 then .inl 10 else if 64 < b.length then .inl 11 else if 59 < b.getD 0 0 then .inl 12 else
  match parseN ((b.drop 1).take (b.getD 0 0)) with
  | .inl z => .inl z
  | .inr m => if RestP b (b.getD 0 0) then .inl 14 else
    if tokV ((b.drop (1 + b.getD 0 0)).take 4) = 0 ∨ 2147483647 < tokV ((b.drop (1 + b.getD 0 0)).take 4) then .inl 12 else .inr (m, tokV ((b.drop (1 + b.getD 0 0)).take 4))
theorem tokV_four (a b c d : Nat) : tokV [a, b, c, d] = 256 * (256 * (256 * a + b) + c) + d := by simp [tokV]
theorem tokV_tokB {t : Nat} (_ht : t ≤ 2147483647) : tokV (tokB t) = t := by
  unfold tokB
  rw [tokV_four]
  omega
theorem tokB_tokV {a b c d : Nat} (_ha : a < 256) (hb : b < 256) (hc : c < 256) (hd : d < 256) : tokB (tokV [a, b, c, d]) = [a, b, c, d] := by
  rw [tokV_four]
  unfold tokB
  have h1 : (256 * (256 * (256 * a + b) + c) + d) / 16777216 = a := by omega
  have h2 : (256 * (256 * (256 * a + b) + c) + d) / 65536 % 256 = b := by omega
  have h3 : (256 * (256 * (256 * a + b) + c) + d) / 256 % 256 = c := by omega
  have h4 : (256 * (256 * (256 * a + b) + c) + d) % 256 = d := by omega
  rw [h1, h2, h3, h4]
theorem body_0 (m : List Int) (t : Nat) : (bodyN m t).getD 0 0 = (formN m).length := rfl
theorem body_form {m : List Int} (t : Nat) : ((bodyN m t).drop 1).take (formN m).length = formN m := by
  unfold bodyN
  rw [List.drop_succ_cons, List.drop_zero, List.take_left']
  rfl
theorem body_tok {m : List Int} (t : Nat) : ((bodyN m t).drop (1 + (formN m).length)).take 4 = tokB t := by
  unfold bodyN
  rw [show 1 + (formN m).length = (formN m).length + 1 by omega, List.drop_succ_cons, List.drop_left']
  · rw [List.take_left']; rfl
  · rfl
theorem body_rest {m : List Int} (t j : Nat) (hj : 5 + (formN m).length ≤ j) : (bodyN m t).getD j 0 = 0 := by
  unfold bodyN
  obtain ⟨q, rfl⟩ : ∃ q, j = (formN m).length + (4 + q) + 1 := ⟨j - (formN m).length - 5, by omega⟩
  rw [List.getD_cons_succ, List.getD_eq_getElem?_getD, List.getElem?_append_right (by omega), show (formN m).length + (4 + q) - (formN m).length = 4 + q by omega, List.getElem?_append_right (by simp [tokB]), List.getElem?_replicate]
  split <;> rfl
/-- there and back -/
theorem open_body {m : List Int} (h : RightN m) {t : Nat} (h1 : 1 ≤ t) (h2 : t ≤ 2147483647) : openN (bodyN m t) = .inr (m, t) := by
  have hl := body_len h t
  have hf := form_len h
  unfold openN
  rw [if_neg (by omega), if_neg (by omega), body_0, if_neg (by omega), body_form, parse_form h]
  simp only
  rw [if_neg (by
    rintro ⟨j, a, _, c⟩
    exact c (body_rest t j a)), body_tok, tokV_tokB h2, if_neg (by omega)]
/-- and the other way round -/
theorem body_open {b : List Nat} {m : List Int} {t : Nat} (hb : ∀ x ∈ b, x < 256) (h : openN b = .inr (m, t)) : RightN m ∧ 1 ≤ t ∧ t ≤ 2147483647 ∧ b = bodyN m t := by
  unfold openN at h
  split at h
  · cases h
  next l1 =>
  split at h
  · cases h
  next l2 =>
  split at h
  · cases h
  next l3 =>
  have hl : b.length = 64 := by omega
  obtain ⟨n, hn⟩ : ∃ n, n = b.getD 0 0 := ⟨_, rfl⟩
  rw [← hn] at h l3
  cases hp : parseN ((b.drop 1).take n) with
  | inl z => rw [hp] at h; cases h
  | inr m' =>
    rw [hp] at h
    simp only at h
    split at h
    · cases h
    next l4 =>
    split at h
    · cases h
    next l5 =>
    simp only [Sum.inr.injEq, Prod.mk.injEq] at h
    obtain ⟨rfl, rfl⟩ := h
    obtain ⟨hR, hfm⟩ := form_parse (fun x hx => hb x (List.mem_of_mem_drop (List.mem_of_mem_take hx))) hp
    have hfl : (formN m').length = n := by rw [← hfm, List.length_take, List.length_drop]; omega
    refine ⟨hR, by omega, by omega, ?_⟩
    have h4 : ((b.drop (1 + n)).take 4).length = 4 := by rw [List.length_take, List.length_drop]; omega
    have hsm : ∀ x ∈ (b.drop (1 + n)).take 4, x < 256 := fun x hx => hb x (List.mem_of_mem_drop (List.mem_of_mem_take hx))
    have htk : tokB (tokV ((b.drop (1 + n)).take 4)) = (b.drop (1 + n)).take 4 := by
      match hq : (b.drop (1 + n)).take 4, h4, hsm with
      | [x, y, z, u], _, hs => exact tokB_tokV (hs x (by simp)) (hs y (by simp)) (hs z (by simp)) (hs u (by simp))
    unfold bodyN
    rw [htk, hfl, ← hfm]
    have hrest : b.drop (5 + n) = List.replicate (59 - n) 0 := by
      refine List.ext_getElem? fun j => ?_
      rw [List.getElem?_drop, List.getElem?_replicate]
      by_cases hj : j < 59 - n
      · rw [if_pos hj, List.getElem?_eq_getElem (by omega)]
        have : b.getD (5 + n + j) 0 = 0 := Classical.byContradiction fun hh => l4 ⟨5 + n + j, by omega, by omega, hh⟩
        rw [List.getD_eq_getElem?_getD, List.getElem?_eq_getElem (by omega)] at this
        simpa using this
      · rw [if_neg hj, List.getElem?_eq_none (by omega)]
    rw [← hrest]
    have e1 : (b.drop (1 + n)).take 4 ++ b.drop (5 + n) = b.drop (1 + n) := by
      rw [show b.drop (5 + n) = (b.drop (1 + n)).drop 4 by rw [List.drop_drop]; congr 1; omega, List.take_append_drop]
    rw [e1]
    have e2 : (b.drop 1).take n ++ b.drop (1 + n) = b.drop 1 := by
      rw [show b.drop (1 + n) = (b.drop 1).drop n by rw [List.drop_drop], List.take_append_drop]
    rw [e2]
    cases b with
    | nil => simp at hl
    | cons x r => simp at hn ⊢; exact hn.symm
end Go.Proofs.Ytkcokcanakljnaa
/-
  Package ipe's Body of a product and a token.
-/
namespace Go.Proofs.Ytkcokcanakljnaa
open Go.RowKit
theorem pack_tok {t : Nat} (h : t < 4294967296) : pack (bitsOf 32 t) = tokB t := by
  have hb : ∀ i, i < 4 → byteAt (bitsOf 32 t) i = t / 2 ^ (24 - 8 * i) % 256 := by
    intro i hi
    unfold byteAt
    have e : (List.range 8).map (fun k => (bitsOf 32 t).getD (8 * i + k) false) = bitsOf 8 (t / 2 ^ (24 - 8 * i)) := by
      refine List.ext_getElem? fun k => ?_
      by_cases hk : k < 8
      · rw [bitsOf_get 8 _ k hk, List.getElem?_map, List.getElem?_range hk]
        simp only [Option.map_some, List.getD_eq_getElem?_getD]
        rw [bitsOf_get 32 t (8 * i + k) (by omega), Option.getD_some, Nat.div_div_eq_div_mul, ← Nat.pow_add, show 32 - 1 - (8 * i + k) = 24 - 8 * i + (8 - 1 - k) by omega]
      · rw [List.getElem?_eq_none (by simp; omega), List.getElem?_eq_none (by simp; omega)]
    rw [e, numOf_bitsOf]
  unfold pack tokB
  rw [bitsOf_length]
  have h0 := hb 0 (by omega)
  have h1 := hb 1 (by omega)
  have h2 := hb 2 (by omega)
  have h3 := hb 3 (by omega)
  simp only [Nat.reduceMul, Nat.reduceSub, Nat.reducePow] at h0 h1 h2 h3
  show [byteAt (bitsOf 32 t) 0, byteAt (bitsOf 32 t) 1, byteAt (bitsOf 32 t) 2, byteAt (bitsOf 32 t) 3] = _
  rw [h0, h1, h2, h3, Nat.mod_eq_of_lt (a := t / 16777216) (by omega), Nat.div_one]
theorem own_of_has {w : World} {base g n : Nat} {cs : List Value} (h : Has w g 5 cs.toArray) (hl : cs.length = n) (hb : base ≤ g) (hn : n ≤ 1000) : w.ownsRow base 5 1 (.slice (some ⟨g, 0, none⟩) n n) n cs := by
  subst hl
  exact ⟨by simp, .inr ⟨g, cs.length, cs.toArray, rfl, hb, h, Nat.le_refl _, by simp only [maxLen]; omega, by simp, by simp⟩⟩
theorem arr_get {w : World} {F : Nat → Prop} {A : Option Addr} {n : Nat} {bs : List Nat} (hA : Arr w F A n (fun i => bV (bs.getD i 0))) (hl : bs.length = n) (hn : 0 < n) : ∃ ad, A = some ad ∧ ∀ j v, (bs.map bV)[j]? = some v → w.cell? (ad.add j) = some v := by
  obtain ⟨ad, rfl, _, _⟩ := hA 0 hn
  refine ⟨ad, rfl, fun j v hv => ?_⟩
  rw [List.getElem?_map] at hv
  obtain ⟨x, hx, rfl⟩ := Option.map_eq_some_iff.1 hv
  obtain ⟨hj, he⟩ := List.getElem?_eq_some_iff.1 hx
  obtain ⟨ad', e, _, hc⟩ := hA j (by omega)
  cases e
  rw [hc]
  show some (bV (bs.getD j 0)) = _
  rw [List.getD_eq_getElem?_getD, hx]
  rfl
theorem take_len {α : Type} (a b : List α) : (a ++ b).take a.length = a := by simp
/-- the rows of the body, as they are laid -/
theorem body_row {f k : List Nat} {l : Nat} (hl : f.length = l) (hk : k.length = 4) (h : l ≤ 53) :
    splice (splice (((zs 64).set 0 l).map bV) 1 (f.map bV)) (1 + l) (k.map bV) = (l :: (f ++ (k ++ List.replicate (59 - l) 0))).map bV := by
  have e0 : (zs 64).set 0 l = l :: List.replicate 63 0 := rfl
  rw [e0, List.map_cons]
  have e1 : splice (bV l :: (List.replicate 63 0).map bV) 1 (f.map bV) = (bV l :: f.map bV) ++ (List.replicate (63 - l) 0).map bV := by
    unfold splice
    rw [List.length_map, hl, List.take_succ_cons, List.take_zero, show 1 + l = l + 1 by omega, List.drop_succ_cons, List.map_replicate, List.drop_replicate, List.map_replicate]
    rfl
  rw [e1]
  unfold splice
  have e2 : (bV l :: f.map bV).length = 1 + l := by simp [hl]; omega
  have e3 : ((bV l :: f.map bV) ++ (List.replicate (63 - l) 0).map bV).take (1 + l) = bV l :: f.map bV := by rw [← e2]; exact take_len _ _
  have e4 : ((bV l :: f.map bV) ++ (List.replicate (63 - l) 0).map bV).drop (1 + l + (k.map bV).length) = (List.replicate (59 - l) 0).map bV := by
    rw [List.length_map, hk, List.drop_append, e2, List.drop_eq_nil_of_le (by rw [e2]; omega), List.nil_append, List.map_replicate, List.drop_replicate, List.map_replicate]
    congr 1
    omega
  rw [e3, e4]
  simp [List.map_append]
theorem rightToken_any (t : Int) (w : World) : Calls Try.prog 37 #[.int .i64 t] w fun e w' => e = .returned (.bool (withB 1 2147483647 [t])) ∧ New w w' := by
  have HWi : Hid (∀ (g : Nat) (w : World), Has w g 3 #[.int .i64 t] → Calls Try.prog 68 #[.int .i64 1, .int .i64 2147483647, .slice (some ⟨g, 0, none⟩) 1 1] w fun e w' => e = .returned (.bool (withB 1 2147483647 [t])) ∧ New w w') := fun g w h => within_any 1 2147483647 [t] 1 1 g rfl (by omega) w h
  generalize withB 1 2147483647 [t] = b at HWi ⊢
  go_enter Try.func37, Try.ntmps37
  go_wp2_with fail
  with_reducible refine (HWi.out _ _ (Has.new _ _ _)).mono ?_
  rintro e w1 ⟨rfl, hN⟩
  have HN := Lib.hid (((Chg.refl (fun _ => False) w).alloc (.cells #[.int .i64 t] 3)).then_new hN)
  clear hN
  go_wp2_with fail
  go_ret
  exact ⟨rfl, HN.out⟩
def okT (t : Int) : Bool := decide (1 ≤ t) && decide (t ≤ 2147483647)
theorem okT_iff (t : Int) : withB 1 2147483647 [t] = okT t := by simp [withB, okT]
set_option maxRecDepth 100000 in
theorem iBody_no (p : Pd) (t : Int) (h : rightN p.ns = false ∨ okT t = false) (w : World) : Calls Try.prog 10 #[p.V, .int .i64 t] w fun e w' => e = .returned (.tuple #[.slice none 0 0, .int .i64 2]) ∧ New w w' := by
  cases hr : rightN p.ns with
  | false =>
    have HF := Lib.hid (fun w => iForm_no p hr w)
    clear h hr
    obtain ⟨x0, x1, x2, x3, x4, x5, x6, x7, x8, x9, x10, x11, x12, x13⟩ := p
    have HF : Hid (∀ w, Calls Try.prog 9 #[.agg #[.int .i64 x0, .int .i64 x1, .int .i64 x2, .int .i64 x3, .int .i64 x4, .int .i64 x5, .int .i64 x6, .int .i64 x7, .bool x8, .int .i64 x9, .int .i64 x10, .int .i64 x11, .int .i64 x12, .bool x13]] w fun e w' => e = .returned (.tuple #[.slice none 0 0, .int .i64 2]) ∧ New w w') := HF.out
    go_enter Try.func10, Try.ntmps10
    go_wp2_with fail
    with_reducible refine (HF.out _).mono ?_
    rintro e w1 ⟨rfl, hN⟩
    have HN := Lib.hid (((Chg.refl (fun _ => False) w).alloc (.cells #[.int .i64 x0, .int .i64 x1, .int .i64 x2, .int .i64 x3, .int .i64 x4, .int .i64 x5, .int .i64 x6, .int .i64 x7, .bool x8, .int .i64 x9, .int .i64 x10, .int .i64 x11, .int .i64 x12, .bool x13] 24)).then_new hN)
    clear hN
    go_wp2_with fail
    go_ret2
    exact ⟨rfl, HN.out⟩
  | true =>
    have ht : okT t = false := h.resolve_left (by rw [hr]; decide)
    have HF := Lib.hid (fun w => iForm_yes p (rightN_of hr) w)
    have HT := Lib.hid (rightToken_any t)
    rw [okT_iff, ht] at HT
    clear h hr ht
    obtain ⟨l, hl⟩ : ∃ l, l = (formN p.ns).length := ⟨_, rfl⟩
    obtain ⟨f, hf⟩ : ∃ f, f = formN p.ns := ⟨_, rfl⟩
    rw [← hl, ← hf] at HF
    clear hl hf
    obtain ⟨x0, x1, x2, x3, x4, x5, x6, x7, x8, x9, x10, x11, x12, x13⟩ := p
    have HF : Hid (∀ w, Calls Try.prog 9 #[.agg #[.int .i64 x0, .int .i64 x1, .int .i64 x2, .int .i64 x3, .int .i64 x4, .int .i64 x5, .int .i64 x6, .int .i64 x7, .bool x8, .int .i64 x9, .int .i64 x10, .int .i64 x11, .int .i64 x12, .bool x13]] w fun e w' => ∃ A c, e = .returned (.tuple #[.slice A l c, .int .i64 0]) ∧ w'.ownsRow w.heap.size 5 1 (.slice A l c) l (f.map bV) ∧ New w w') := HF.out
    go_enter Try.func10, Try.ntmps10
    go_wp2_with fail
    with_reducible refine (HF.out _).mono ?_
    rintro e w1 ⟨A, c, rfl, _, hN⟩
    have HN := Lib.hid (((Chg.refl (fun _ => False) w).alloc (.cells #[.int .i64 x0, .int .i64 x1, .int .i64 x2, .int .i64 x3, .int .i64 x4, .int .i64 x5, .int .i64 x6, .int .i64 x7, .bool x8, .int .i64 x9, .int .i64 x10, .int .i64 x11, .int .i64 x12, .bool x13] 24)).then_new hN)
    clear hN
    go_wp2_with fail
    with_reducible refine (HT.out _).mono ?_
    rintro e w2 ⟨rfl, hN⟩
    have HN2 := Lib.hid (HN.out.then_new hN)
    clear hN
    go_wp2_with fail
    go_ret2
    exact ⟨rfl, HN2.out⟩
set_option maxRecDepth 100000 in
set_option maxHeartbeats 4000000 in
theorem iBody_yes (p : Pd) (hp : RightN p.ns) (t : Nat) (ht1 : 1 ≤ t) (ht2 : t ≤ 2147483647) (w : World) : Calls Try.prog 10 #[p.V, .int .i64 (t : Int)] w fun e w' => ∃ A c, e = .returned (.tuple #[.slice A 64 c, .int .i64 0]) ∧ w'.ownsRow w.heap.size 5 1 (.slice A 64 c) 64 ((bodyN p.ns t).map bV) ∧ New w w' := by
  have HF := Lib.hid (fun w => iForm_yes p hp w)
  have HT := Lib.hid (rightToken_any (t : Int))
  have hok : okT (t : Int) = true := by unfold okT; simp; omega
  rw [okT_iff, hok] at HT
  have Hl53 : Hid ((formN p.ns).length ≤ 53) := form_len hp
  have Hf256 := Lib.hid (form_small hp)
  have HP4 : Hid (∀ (w : World) (b g : Nat), Wrt w b (.slice none 0 0) [] → Has w g 102 #[.int .i64 32, .int .i64 t] → g ≠ b → g < w.heap.size → Calls Try.prog 38 #[.pointer (some ⟨b, 0, none⟩), .slice (some ⟨g, 0, none⟩) 1 1] w fun e w' => e = .returned (.int .i64 0) ∧ ∃ v', Wrt w' b v' (bitsOf 32 t) ∧ Chg (· = b) w w') := fun w b g hW hg hgb hgl => by
    have hA : Flds w (· = g) (some ⟨g, 0, none⟩) 1 (fun _ => 32) (fun _ => (t : Int)) := fun i hi => by
      obtain rfl : i = 0 := by omega
      exact ⟨_, rfl, rfl, (hg.cell 0).trans rfl, (hg.cell 1).trans rfl⟩
    refine (Put_ok b (· = g) (.slice none 0 0) [] (some ⟨g, 0, none⟩) 1 1 (fun _ => 32) (fun _ => (t : Int)) w hW hA (fun k hk => by rw [hk]; exact ⟨hgl, hgb, fun h => by cases h⟩) (by simp) (fun j _ => by unfold okF; simp; omega)).mono ?_
    rintro e w' ⟨rfl, v', h1, h2⟩
    refine ⟨rfl, v', by simpa [fbits] using h1, h2.1.mono (fun i _ h => by rcases h with h | h; exact h; cases h)⟩
  have Hpk : Hid (pack (bitsOf 32 t) = tokB t) := pack_tok (by omega)
  have Hbr : Hid (splice (splice (((zs 64).set 0 (formN p.ns).length).map bV) 1 ((formN p.ns).map bV)) (1 + (formN p.ns).length) ((tokB t).map bV) = (bodyN p.ns t).map bV) := body_row rfl rfl (form_len hp)
  have Htk : Hid ((tokB t).length = 4 ∧ ∀ x ∈ tokB t, x < 256) := ⟨rfl, by rw [← Hpk.out]; exact pack_mem _⟩
  obtain ⟨f, hf⟩ : ∃ f, f = formN p.ns := ⟨_, rfl⟩
  have Hbl : Hid ((bodyN p.ns t).length = 64) := body_len hp t
  obtain ⟨body, hbody⟩ : ∃ b, b = bodyN p.ns t := ⟨_, rfl⟩
  rw [← hf] at HF Hl53 Hf256 Hbr
  rw [← hbody] at Hbr Hbl ⊢
  obtain ⟨l, hl⟩ : ∃ l, l = f.length := ⟨_, rfl⟩
  rw [← hl] at HF Hl53 Hbr
  have Hl := Lib.hid hl
  obtain ⟨k, hk⟩ : ∃ k, k = tokB t := ⟨_, rfl⟩
  rw [← hk] at Hpk Hbr Htk
  clear hf hbody hl hp hok ht1 ht2 hk
  have u1 : IntKind.u8.wrap (l : Int) = (l : Int) := small_wrap _ (by have := Hl53.out; omega)
  have u2 : IntKind.i64.wrap (1 + (l : Int)) = 1 + (l : Int) := IntWalk.i64_in _ (by have := Hl53.out; omega)
  have u3 : wrap64 (1 + (l : Int)) = 1 + (l : Int) := w64 _ (by omega) (by have := Hl53.out; omega)
  have u4 : (0 : Int) ≤ 1 + (l : Int) := by omega
  have u5 : 1 + (l : Int) ≤ 64 := by have := Hl53.out; omega
  have u6 : (1 + (l : Int)).toNat = 1 + l := by omega
  have u7 : ¬ (64 = 1 + l) := by have := Hl53.out; omega
  obtain ⟨x0, x1, x2, x3, x4, x5, x6, x7, x8, x9, x10, x11, x12, x13⟩ := p
  have HF : Hid (∀ w, Calls Try.prog 9 #[.agg #[.int .i64 x0, .int .i64 x1, .int .i64 x2, .int .i64 x3, .int .i64 x4, .int .i64 x5, .int .i64 x6, .int .i64 x7, .bool x8, .int .i64 x9, .int .i64 x10, .int .i64 x11, .int .i64 x12, .bool x13]] w fun e w' => ∃ A c, e = .returned (.tuple #[.slice A l c, .int .i64 0]) ∧ w'.ownsRow w.heap.size 5 1 (.slice A l c) l (f.map bV) ∧ New w w') := HF.out
  go_enter Try.func10, Try.ntmps10
  go_wp2_with fail
  with_reducible refine (HF.out _).mono ?_
  rintro e w1 ⟨A, c, rfl, hO, hN⟩
  have HBy := Lib.hid (Byts.own_any hO (Chg.refl _ _) Hf256.out (by have := Hl53.out; omega))
  have HN1 := Lib.hid (((Chg.refl (fun _ => False) w).alloc (.cells #[.int .i64 x0, .int .i64 x1, .int .i64 x2, .int .i64 x3, .int .i64 x4, .int .i64 x5, .int .i64 x6, .int .i64 x7, .bool x8, .int .i64 x9, .int .i64 x10, .int .i64 x11, .int .i64 x12, .bool x13] 24)).then_new hN)
  clear hN hO
  go_wp2_with fail
  with_reducible refine (HT.out _).mono ?_
  rintro e w2 ⟨rfl, hN⟩
  have HN2 := Lib.hid (HN1.out.then_new hN)
  have HBy2 := Lib.hid (HBy.out.new hN (fun _ h => h))
  have hs12 := hN.size
  clear hN HBy HN1
  go_upto_region 5 with (fail)
  obtain ⟨wb, hwb⟩ : ∃ b, b = w2.heap.size := ⟨_, rfl⟩
  obtain ⟨w3, hw3⟩ : ∃ w3, w3 = w2.alloc (.cells #[.slice none 0 0, .int .i64 0] 99) := ⟨_, rfl⟩
  have HW3 : Hid (Wrt w3 wb (.slice none 0 0) []) := by rw [hw3, hwb]; exact Wr_zero w2
  have HM3 : Hid (New w2 w3) := by rw [hw3]; exact (Chg.refl _ _).alloc _
  have Hwb : Hid (w.heap.size ≤ wb ∧ w1.heap.size ≤ wb ∧ wb < w3.heap.size) := by
    have h1 := HN2.out.size
    rw [Hid, hw3, hwb]
    exact ⟨h1, hs12, by simp⟩
  rw [← hw3, ← hwb]
  have Hs12 := Lib.hid hs12
  clear hw3 hwb hs12
  go_wp2_with fail
  with_reducible refine (HP4.out (w3.alloc (.cells #[.int .i64 32, .int .i64 (t : Int)] 102)) wb w3.heap.size (HW3.out.new ((Chg.refl _ _).alloc _)) (Has.new _ _ _) (by have := Hwb.out.2.2; omega) (by simp)).mono ?_
  rintro e w4 ⟨rfl, v', hW4, hC4⟩
  have HW4 := Lib.hid hW4
  have HC4 := Lib.hid hC4
  have HM34 : Hid (New w3 (w3.alloc (.cells #[.int .i64 32, .int .i64 (t : Int)] 102))) := (Chg.refl _ _).alloc _
  have HN4 : Hid (New w w4) := (HN2.out.then_new (HM3.out.then_new HM34.out)).trans hC4 (fun i hi h => by have := Hwb.out.1; omega)
  have HY4 : Hid (Byts w4 (fun j => j < w1.heap.size) (.slice A l c) f) := (HBy2.out.new (HM3.out.then_new HM34.out) (fun j h => by have h1 := Hs12.out; omega)).chg hC4 (fun j h => ⟨by have h1 := Hwb.out; have h2 := HM34.out.size; omega, by have h1 := Hwb.out; omega⟩)
  have HwbL : Hid (wb < w4.heap.size) := Nat.lt_of_lt_of_le Hwb.out.2.2 (Nat.le_trans HM34.out.size HC4.out.size)
  have HBs : Hid (∀ wz, Wrt wz wb v' (bitsOf 32 t) → Calls Try.prog 39 #[.pointer (some ⟨wb, 0, none⟩)] wz fun e w' => ∃ A' c', e = .returned (.slice A' 4 c') ∧ w'.ownsRow wz.heap.size 5 1 (.slice A' 4 c') 4 (k.map bV) ∧ New wz w') := fun wz h => by
    have := Bytes_any wb v' (bitsOf 32 t) wz h (by simp)
    rw [Hpk.out, Htk.out.1] at this
    exact this
  clear hW4 hC4 HP4 HN2 HM3 HM34 HBy2 HW3 HC4
  go_wp2_with (first
    | (refine wpList_copy_has rfl _ _ rfl g 1 63 63 rfl A l c rfl 5 (((zs 64).set 0 l).map bV) HR5.out (fun j => j < w1.heap.size) (fun i => bV (f.getD i 0)) (by obtain ⟨A', c', e', hA', _⟩ := HY5.out; cases e'; rw [Hl.out]; exact hA') (fun i _ => rfl) (by simp [zs]) ?_
       intro w6 hX hC
       have HX6 := Lib.hid hX
       have HC6 := Lib.hid hC
       clear hX hC)
    | (refine wpList_make_row rfl _ _ rfl 64 64 rfl rfl rfl (by omega) ?_
       intro g w5 hg hR hN5
       have HR5 : Hid (Row (w5.setCell ⟨g, 0, none⟩ (.int .u8 (l : Int))) g ((zs 64).set 0 l)) := hR.set
       have Hvg : Hid (∀ q, v'.ownBlock = some q → q ≠ g) := fun q hq he => by have h1 := (HW4.out.2.lt q hq).2; have h2 := hg.out; omega
       have hc5 : Chg (· = g) w5 (w5.setCell ⟨g, 0, none⟩ (.int .u8 (l : Int))) := Chg.setCell (S := (· = g)) (Chg.refl _ _) (fun _ => rfl) _
       have Hg5 : Hid (w.heap.size ≤ g ∧ w1.heap.size ≤ g ∧ wb < g) := by have h1 := HwbL.out; have h2 := Hwb.out; have h3 := hg.out; rw [Hid]; omega
       have HN5 : Hid (New w (w5.setCell ⟨g, 0, none⟩ (.int .u8 (l : Int)))) := (HN4.out.then_new hN5).trans hc5 (fun i hi h => by have := Hg5.out.1; omega)
       have HW5 : Hid (Wrt (w5.setCell ⟨g, 0, none⟩ (.int .u8 (l : Int))) wb v' (bitsOf 32 t)) := (HW4.out.new hN5).chg hc5 (by have := Hg5.out; omega) (fun q hq he => by have h1 := (HW4.out.2.lt q hq).2; have h2 := hg.out; omega)
       have HY5 : Hid (Byts (w5.setCell ⟨g, 0, none⟩ (.int .u8 (l : Int))) (fun j => j < w1.heap.size) (.slice A l c) f) := (HY4.out.new hN5 (fun j h => by have h1 := HwbL.out; have h2 := Hwb.out; omega)).chg hc5 (fun j h => ⟨by have h1 := HwbL.out; have h2 := Hwb.out; have h3 := hN5.size; omega, by have := Hg5.out; omega⟩)
       have g0 : w5.cell? ⟨g, 0, none⟩ = some (.int .u8 0) := (hR.cell 0).trans rfl
       have gf := Has.free hR 0
       have gl := hR.lt
       clear hg hR hN5 hc5 HN4 HW4 HY4)
    | fail)
  have HX6 : Hid (Has w6 g 5 (splice (((zs 64).set 0 l).map bV) 1 (f.map bV)).toArray) := by
    have h := HX6.out
    rw [show Nat.min l 63 = l by have := Hl53.out; exact Nat.min_eq_left (by omega), bs_range f l Hl.out.symm] at h
    exact h
  have HN6 : Hid (New w w6) := HN5.out.trans HC6.out (fun i hi h => by have := Hg5.out.1; omega)
  have HW6 : Hid (Wrt w6 wb v' (bitsOf 32 t)) := HW5.out.chg HC6.out (by have := Hg5.out; omega) (fun q hq he => Hvg.out q hq he)
  have hlen6 : (splice (((zs 64).set 0 l).map bV) 1 (f.map bV)).length = 64 := by
    rw [length_splice _ _ _ (by simp [zs]; have := Hl53.out; have := Hl.out; omega)]
    simp [zs]
  have Hlen6 := Lib.hid hlen6
  clear hlen6 HN5 HW5 HY5 HC6 HR5 g0 gf gl
  obtain ⟨cur, hcur⟩ : ∃ cur, cur = splice (((zs 64).set 0 l).map bV) 1 (f.map bV) := ⟨_, rfl⟩
  rw [← hcur] at HX6 Hbr Hlen6
  clear hcur
  go_upto_region 9 with (fail)
  go_region_law (first
    | (refine step_copy_splice rfl (.tmp 40) (.tmp 41) 27 27 rfl 5 Try.underlying27 Try.sizes5 (some ⟨g, 1 + l, none⟩) A7 (64 - (1 + l)) (64 - (1 + l)) 4 c7 (by first | rfl | simp) (by first | rfl | simp) g (1 + l) cur 5 HX7.out (k.map bV) (by rw [List.length_map, Htk.out.1]; have := Hl53.out; exact (Nat.min_eq_left (by omega)).symm) (fun _ => ⟨rfl, Hk7.out⟩) (by rw [List.length_map, Htk.out.1, Hlen6.out]; have := Hl53.out; omega) (fun v hv => by obtain ⟨x, _, rfl⟩ := List.mem_map.1 hv; rfl) w.heap.size w7 (Chg.below (Chg.refl (fun _ => False) _) HN7.out.size (fun _ _ h => h)) Hg5.out.1 ?_
       intro w8 hX8 hB8
       have HX8 := Lib.hid hX8
       have HB8 := Lib.hid hB8
       clear hX8 hB8)
    | (go_simp
       go_at_call 39
       with_reducible refine (HBs.out _ (HW6.out.new ((Chg.refl _ _).drew))).mono ?_
       rintro e w7 ⟨A7, c7, rfl, hO7, hN7⟩
       have Hk7 := Lib.hid (arr_get (own_arr_bs Htk.out.1 hO7) Htk.out.1 (by omega))
       have HX7 : Hid (Has w7 g 5 cur.toArray) := (Has.drew HX6.out).keep hN7
       have HN7 : Hid (New w w7) := (HN6.out.drew).then_new hN7
       clear hO7 hN7))
  all_goals
    have hX8 := HX8.out.out
    rw [Hbr.out] at hX8
    have HX8' : Hid (Has w8 g 5 (body.map bV).toArray) := hX8
    have hB8 := HB8.out
    clear hX8
    go_wp2_with fail
    go_ret2
    exact ⟨_, _, rfl, own_of_has HX8'.out (by rw [List.length_map]; exact Hbl.out) Hg5.out.1 (by omega), HN7.out.trans (Chg.of_below hB8) (fun i hi h => by omega)⟩
end Go.Proofs.Ytkcokcanakljnaa
/-
  Package ipe's pieces of a body: its form, and the token behind it.
-/
namespace Go.Proofs.Ytkcokcanakljnaa
open Go.RowKit
theorem numOf_app (x y : List Bool) : numOf (x ++ y) = numOf x * 2 ^ y.length + numOf y := by
  unfold numOf
  rw [List.foldl_append, numOf_from]
  rfl
theorem num_four {bs : List Nat} (h : 4 ≤ bs.length) (hb : ∀ x ∈ bs, x < 256) : numAt bs 0 32 = tokV (bs.take 4) := by
  match bs, h, hb with
  | a :: b :: c :: d :: r, _, hb =>
    have ha := hb a (by simp)
    have hb' := hb b (by simp)
    have hc := hb c (by simp)
    have hd := hb d (by simp)
    have e : (unpack (a :: b :: c :: d :: r)).take 32 = ((bitsOf 8 a ++ bitsOf 8 b) ++ bitsOf 8 c) ++ bitsOf 8 d := by
      have e1 : unpack (a :: b :: c :: d :: r) = (((bitsOf 8 a ++ bitsOf 8 b) ++ bitsOf 8 c) ++ bitsOf 8 d) ++ unpack r := by simp [unpack]
      rw [e1, List.take_left']
      simp
    unfold numAt
    rw [List.drop_zero, e, numOf_app, numOf_app, numOf_app, numOf_bitsOf, numOf_bitsOf, numOf_bitsOf, numOf_bitsOf]
    simp only [bitsOf_length, List.take_succ_cons, List.take_zero]
    rw [tokV_four, Nat.mod_eq_of_lt (show a < 2 ^ 8 by omega), Nat.mod_eq_of_lt (show b < 2 ^ 8 by omega), Nat.mod_eq_of_lt (show c < 2 ^ 8 by omega), Nat.mod_eq_of_lt (show d < 2 ^ 8 by omega)]
    omega
/-- what parts tells of a body -/
def PartR (A : Option Addr) (n c : Nat) (bs : List Nat) (e : Ending) : Prop :=
  (n < 64 ∧ e = .returned (.tuple #[.slice none 0 0, .slice none 0 0, .int .i64 10])) ∨ (64 < n ∧ e = .returned (.tuple #[.slice none 0 0, .slice none 0 0, .int .i64 11])) ∨
  (n = 64 ∧ 59 < bs.getD 0 0 ∧ e = .returned (.tuple #[.slice none 0 0, .slice none 0 0, .int .i64 12])) ∨
  (n = 64 ∧ bs.getD 0 0 ≤ 59 ∧ ∃ a, A = some a ∧ e = .returned (.tuple #[.slice (some (a.add 1)) (bs.getD 0 0) (c - 1), .slice (some (a.add (1 + bs.getD 0 0))) (64 - (1 + bs.getD 0 0)) (c - (1 + bs.getD 0 0)), .int .i64 0]))
set_option maxRecDepth 100000 in
set_option maxHeartbeats 4000000 in
theorem parts_any (bs : List Nat) (n c : Nat) (A : Option Addr) (w : World) (F : Nat → Prop) (hB : Byts w F (.slice A n c) bs) (hnc : n ≤ c) :
    Calls Try.prog 53 #[.slice A n c] w fun e w' => PartR A n c bs e ∧ New w w' := by
  have hbl := hB.len.1
  by_cases l1 : n < 64
  · have t1 : decide ((n : Int) < 64) = true := decide_eq_true (by omega)
    have t2 : decide (n < 64) = true := decide_eq_true l1
    clear hB
    go_enter Try.func53, Try.ntmps53
    go_wp2_with fail
    refine bodyPost_ret (v := .tuple #[.slice none 0 0, .slice none 0 0, .int .i64 10]) (by simp [results, Try.results53, go_sem]) rfl ?_
    exact ⟨Or.inl ⟨l1, rfl⟩, Chg.refl _ _⟩
  have t1 : decide ((n : Int) < 64) = false := decide_eq_false (by omega)
  have t2 : decide (n < 64) = false := decide_eq_false l1
  by_cases l2 : 64 < n
  · have t3 : decide ((64 : Int) < (n : Int)) = true := decide_eq_true (by omega)
    have t4 : decide (64 < n) = true := decide_eq_true l2
    clear hB
    go_enter Try.func53, Try.ntmps53
    go_wp2_with fail
    refine bodyPost_ret (v := .tuple #[.slice none 0 0, .slice none 0 0, .int .i64 11]) (by simp [results, Try.results53, go_sem]) rfl ?_
    exact ⟨Or.inr (Or.inl ⟨l2, rfl⟩), Chg.refl _ _⟩
  obtain rfl : n = 64 := by omega
  clear t1 t2 l1 l2
  obtain ⟨k, hk⟩ : ∃ k, k = bs.getD 0 0 := ⟨_, rfl⟩
  have hx0 : bs[0]? = some k := by rw [hk, List.getD_eq_getElem?_getD, List.getElem?_eq_getElem (by omega)]; rfl
  obtain ⟨a, rfl, hab, hc0, hk256⟩ := hB.at hx0
  have e0 : a.add 0 = a := by unfold Addr.add; simp
  rw [e0] at hc0
  have vk : IntKind.i64.wrap (k : Int) = (k : Int) := IntWalk.i64_in _ (by omega)
  have vk' : wrap64 (k : Int) = (k : Int) := w64 _ (by omega) (by omega)
  unfold PartR
  rw [← hk]
  by_cases l3 : 59 < k
  · have t3 : decide ((59 : Int) < (k : Int)) = true := decide_eq_true (by omega)
    have t4 : decide (59 < k) = true := decide_eq_true l3
    clear hB hk hx0
    go_enter Try.func53, Try.ntmps53
    go_wp2_with fail
    refine bodyPost_ret (v := .tuple #[.slice none 0 0, .slice none 0 0, .int .i64 12]) (by simp [results, Try.results53, go_sem]) rfl ?_
    exact ⟨Or.inr (Or.inr (Or.inl ⟨by trivial, l3, rfl⟩)), Chg.refl _ _⟩
  have t3 : decide ((59 : Int) < (k : Int)) = false := decide_eq_false (by omega)
  have t4 : decide (59 < k) = false := decide_eq_false l3
  have u2 : IntKind.i64.wrap (1 + (k : Int)) = 1 + (k : Int) := IntWalk.i64_in _ (by omega)
  have u3 : wrap64 (1 + (k : Int)) = 1 + (k : Int) := w64 _ (by omega) (by omega)
  have u4 : (0 : Int) ≤ 1 + (k : Int) := by omega
  have u5 : 1 + (k : Int) ≤ 64 := by omega
  have u6 : (1 + (k : Int)).toNat = 1 + k := by omega
  have u7 : (1 : Int) ≤ 1 + (k : Int) := by omega
  have u8 : 1 + (k : Int) ≤ (c : Int) := by omega
  have u9 : ¬ (c = 1) := by omega
  have u10 : ¬ (c = 1 + k) := by omega
  have a1 : a.add 1 = ⟨a.block, a.off + 1, none⟩ := by unfold Addr.add; rw [if_neg (by omega)]
  have a2 : a.add (1 + k) = ⟨a.block, a.off + (1 + k), none⟩ := by unfold Addr.add; rw [if_neg (by omega)]
  have Ha := Lib.hid (And.intro a1 a2)
  clear a1 a2
  have Hl3 := Lib.hid l3
  clear hB hk hx0 hab e0 l3 hk256
  go_enter Try.func53, Try.ntmps53
  go_upto_region 8 with (fail)
  go_region
  go_wp2_with fail
  refine bodyPost_ret (v := .tuple #[.slice (some ⟨a.block, a.off + 1, none⟩) k (c - 1), .slice (some ⟨a.block, a.off + (1 + k), none⟩) (64 - (1 + k)) (c - (1 + k)), .int .i64 0]) (by simp [results, Try.results53, go_sem, Ha.out.2]) rfl ?_
  exact ⟨Or.inr (Or.inr (Or.inr ⟨by trivial, by have := Hl3.out; omega, a, rfl, by rw [Ha.out.1, Ha.out.2]⟩)), Chg.drew (Chg.refl _ _)⟩
/-- what tokenOf tells of a rest -/
def TokR (r : List Nat) (e : Ending) : Prop :=
  ((∃ j, 4 ≤ j ∧ j < r.length ∧ r.getD j 0 ≠ 0) ∧ e = .returned (.tuple #[.int .i64 0, .int .i64 14])) ∨
  ((∀ j, 4 ≤ j → j < r.length → r.getD j 0 = 0) ∧ okT (tokV (r.take 4) : Int) = false ∧ e = .returned (.tuple #[.int .i64 0, .int .i64 12])) ∨
  ((∀ j, 4 ≤ j → j < r.length → r.getD j 0 = 0) ∧ okT (tokV (r.take 4) : Int) = true ∧ e = .returned (.tuple #[.int .i64 (tokV (r.take 4) : Int), .int .i64 0]))
set_option maxRecDepth 100000 in
set_option maxHeartbeats 4000000 in
theorem tokenOf_any (r : List Nat) (m c : Nat) (a : Addr) (w : World) (F : Nat → Prop) (hB : Byts w F (.slice (some a) m c) r) (hm : 4 ≤ m) (hm2 : m ≤ 64) (hmc : m ≤ c) (hF : ∀ k, F k → k < w.heap.size) :
    Calls Try.prog 54 #[.slice (some a) m c] w fun e w' => TokR r e ∧ New w w' := by
  obtain ⟨hl, _, hsm⟩ := hB.len
  have HT : Hid (tokV (r.take 4) = numAt r 0 32) := (num_four (by omega) hsm).symm
  have HRt : Hid (∀ w, Calls Try.prog 37 #[.int .i64 (tokV (r.take 4) : Int)] w fun e w' => e = .returned (.bool (okT (tokV (r.take 4) : Int))) ∧ New w w') := fun w => by
    have := rightToken_any (tokV (r.take 4) : Int) w
    rw [okT_iff] at this
    exact this
  have HA1 : Hid ((∃ j, 4 ≤ j ∧ j < r.length ∧ r.getD j 0 ≠ 0) → TokR r (.returned (.tuple #[.int .i64 0, .int .i64 14]))) := fun h => Or.inl ⟨h, rfl⟩
  have HA2 : Hid ((∀ j, 4 ≤ j → j < r.length → r.getD j 0 = 0) → okT (tokV (r.take 4) : Int) = false → TokR r (.returned (.tuple #[.int .i64 0, .int .i64 12]))) := fun h h2 => Or.inr (Or.inl ⟨h, h2, rfl⟩)
  have HA3 : Hid ((∀ j, 4 ≤ j → j < r.length → r.getD j 0 = 0) → okT (tokV (r.take 4) : Int) = true → TokR r (.returned (.tuple #[.int .i64 (tokV (r.take 4) : Int), .int .i64 0]))) := fun h h2 => Or.inr (Or.inr ⟨h, h2, rfl⟩)
  obtain ⟨T, hTT⟩ : ∃ T, T = tokV (r.take 4) := ⟨_, rfl⟩
  rw [← hTT] at HT HRt HA2 HA3
  clear hTT
  obtain ⟨b, hb⟩ : ∃ b, b = okT (T : Int) := ⟨_, rfl⟩
  rw [← hb] at HRt HA2 HA3
  clear hb
  have HB := Lib.hid hB
  have HF := Lib.hid hF
  have Hsm := Lib.hid hsm
  have Hl := Lib.hid hl
  clear hB hF hsm hl
  obtain ⟨q, hq⟩ : ∃ q, m - 4 = q := ⟨_, rfl⟩
  have v1 : (4 : Int) ≤ (m : Int) := by omega
  obtain ⟨a4, ha4⟩ : ∃ a4, a4 = a.add 4 := ⟨_, rfl⟩
  have e4 : (⟨a.block, a.off + 4, none⟩ : Addr) = a4 := by rw [ha4]; unfold Addr.add; rw [if_neg (by omega)]
  have HB4 : Hid (Byts w F (.slice (some a4) q (c - 4)) ((r.drop 4).take q)) := by rw [ha4]; exact HB.out.cut 4 q (c - 4) (by omega)
  have He4 := Lib.hid e4
  clear ha4 e4
  by_cases hc4 : c = 4
  · obtain rfl : m = 4 := by omega
    obtain rfl : q = 0 := by omega
    subst hc4
    clear hq v1 hm hm2 hmc
    go_enter Try.func54, Try.ntmps54
    go_wp2_with fail
    go_loopg [10] 0 (fun gk s10 wr => ∃ i : Nat, i ≤ 0 ∧ gk = 0 - i ∧ s10 = .int .i64 i ∧ (∀ j, 4 ≤ j → j < 4 + i → r.getD j 0 = 0) ∧ wr = w)
    case atStart => exact ⟨0, by omega, by omega, rfl, fun j h1 h2 => by omega, rfl⟩
    case round =>
      obtain ⟨i, hi, rfl, rfl, hall, hw⟩ := hrel
      rw [hw]
      clear hw
      have Hall := Lib.hid hall
      clear hall
      by_cases hlt : i < 0
      · exact absurd hlt (Nat.not_lt_zero _)
      · obtain rfl : i = 0 := by omega
        have t1 : decide ((0 : Int) < (0 : Int)) = false := decide_eq_false (by omega)
        have Hall2 : Hid (∀ j, 4 ≤ j → j < r.length → r.getD j 0 = 0) := fun j h1 h2 => Hall.out j h1 (by rw [Hl.out] at h2; omega)
        have HRd : Hid (Calls Try.prog 83 #[.slice (some a) 4 4] w fun e w' => ∃ b, e = .returned (.pointer (some ⟨b, 0, none⟩)) ∧ Rd w' b r 0 0 ∧ New w w' ∧ w.heap.size ≤ b) := by
          obtain ⟨A', c', e', hA', _⟩ := HB.out
          simp only [Value.slice.injEq] at e'
          obtain ⟨rfl, e2, e3⟩ := e'
          clear e2 e3
          exact bRead_any (some a) 4 4 F r w (by have h := hA'; rw [Hl.out] at h; exact h) Hl.out (fun h => by cases h) (by omega)
        go_wp2_with fail
        with_reducible refine HRd.out.mono ?_
        rintro e w1 ⟨rb, rfl, hR, hN, hrb⟩
        have HTk := Lib.hid (take_ok rb r 0 (w1.alloc (.cells #[.int .i64 32] 3)) (hR.chg (S := fun _ => False) ((Chg.refl _ _).alloc _) (fun _ _ h => h)) (by rw [Hl.out]; omega) Hsm.out (some ⟨w1.heap.size, 0, none⟩) 1 1 (· = w1.heap.size) (fun _ => 32) (by omega) (fun j hj => ⟨⟨w1.heap.size, 0, none⟩, rfl, rfl, by obtain rfl : j = 0 := (by omega); exact (Has.new w1 3 #[.int .i64 32]).cell 0⟩) (fun k hk => by rw [hk]; exact ⟨by simp, fun h => by obtain ⟨_, _, h1, _⟩ := hR; have := h1.lt; omega⟩) (fun _ _ => by omega) (by rw [Hl.out]; simp only [sumN]; omega))
        have HN1 := Lib.hid hN
        have Hrb := Lib.hid hrb
        clear hR hN hrb HRd
        go_wp2_with fail
        with_reducible refine HTk.out.mono ?_
        rintro e w2 ⟨A2, c2, rfl, hO, _, hC⟩
        have HN2 : Hid (New w w2) := (HN1.out.alloc _).trans hC (fun i hi h => by have := Hrb.out; omega)
        obtain ⟨g2, hA2, hcell⟩ : ∃ g2, A2 = some ⟨g2, 0, none⟩ ∧ w2.cell? ⟨g2, 0, none⟩ = some (.int .i64 (T : Int)) := by
          obtain ⟨g2, h1, h2⟩ := own_some (i := 0) hO (by omega)
          refine ⟨g2, h1, ?_⟩
          rw [h2 0 (by omega), HT.out]
          rfl
        subst hA2
        clear hO hC HTk
        go_wp2_with fail
        with_reducible refine (HRt.out _).mono ?_
        rintro e w3 ⟨rfl, hN⟩
        have HN3 := Lib.hid (HN2.out.then_new hN)
        clear hN
        cases b with
        | false =>
          go_wp2_with fail
          go_ret2
          exact ⟨HA2.out Hall2.out (by trivial), HN3.out⟩
        | true =>
          go_wp2_with fail
          go_ret2
          exact ⟨HA3.out Hall2.out (by trivial), HN3.out⟩
  · go_enter Try.func54, Try.ntmps54
    go_wp2_with fail
    rw [He4.out]
    go_loopg [10] q (fun gk s10 wr => ∃ i : Nat, i ≤ q ∧ gk = q - i ∧ s10 = .int .i64 i ∧ (∀ j, 4 ≤ j → j < 4 + i → r.getD j 0 = 0) ∧ wr = w)
    case atStart => exact ⟨0, by omega, by omega, rfl, fun j h1 h2 => by omega, rfl⟩
    case round =>
      obtain ⟨i, hi, rfl, rfl, hall, hw⟩ := hrel
      rw [hw]
      clear hw
      have Hall := Lib.hid hall
      clear hall
      by_cases hlt : i < q
      · have t1 : decide ((i : Int) < (q : Int)) = true := decide_eq_true (by omega)
        have t1' : decide (i < q) = true := decide_eq_true hlt
        obtain ⟨x, hx⟩ : ∃ x, r.getD (4 + i) 0 = x := ⟨_, rfl⟩
        have hg : ((r.drop 4).take q)[i]? = some x := by
          rw [List.getElem?_take_of_lt hlt, List.getElem?_drop, ← hx, List.getD_eq_getElem?_getD, List.getElem?_eq_getElem (by rw [Hl.out]; omega)]; rfl
        obtain ⟨a', ha', _, hcell, hx256⟩ := HB4.out.at hg
        simp only [Option.some.injEq] at ha'
        subst ha'
        have Hx := Lib.hid hx
        clear hx hg
        by_cases hx0 : x = 0
        · have t2 : ((x : Int) == 0) = true := beq_iff_eq.2 (by omega)
          have t2' : ((x : Int) != 0) = false := by rw [bne, t2]; rfl
          have Hall2 : Hid (∀ j, 4 ≤ j → j < 4 + (i + 1) → r.getD j 0 = 0) := fun j h1 h2 => by
            rcases Nat.lt_or_ge j (4 + i) with h | h
            · exact Hall.out j h1 h
            · rw [show j = 4 + i by omega, Hx.out]; exact hx0
          subst hx0
          go_wp2_with fail
          go_roundg (q - (i + 1))
          case measure => omega
          case rel => exact ⟨i + 1, by omega, rfl, by go_num, Hall2.out, rfl⟩
        · have t2 : ((x : Int) == 0) = false := beq_eq_false_iff_ne.2 (by omega)
          have t2' : ((x : Int) != 0) = true := bne_iff_ne.2 (by omega)
          have Hbad : Hid (∃ j, 4 ≤ j ∧ j < r.length ∧ r.getD j 0 ≠ 0) := ⟨4 + i, by omega, by rw [Hl.out]; omega, by rw [Hx.out]; exact hx0⟩
          clear hx0
          go_wp2_with fail
          go_ret2
          exact ⟨HA1.out Hbad.out, Chg.refl _ _⟩
      · obtain rfl : i = q := by omega
        have t1 : decide ((i : Int) < (i : Int)) = false := decide_eq_false (by omega)
        have Hall2 : Hid (∀ j, 4 ≤ j → j < r.length → r.getD j 0 = 0) := fun j h1 h2 => Hall.out j h1 (by rw [Hl.out] at h2; omega)
        have HRd : Hid (Calls Try.prog 83 #[.slice (some a) m c] w fun e w' => ∃ b, e = .returned (.pointer (some ⟨b, 0, none⟩)) ∧ Rd w' b r 0 0 ∧ New w w' ∧ w.heap.size ≤ b) := by
          obtain ⟨A', c', e', hA', _⟩ := HB.out
          simp only [Value.slice.injEq] at e'
          obtain ⟨rfl, e2, rfl⟩ := e'
          clear e2
          exact bRead_any (some a) m c F r w (by have h := hA'; rw [Hl.out] at h; exact h) Hl.out (fun h => by cases h) (by omega)
        go_wp2_with fail
        with_reducible refine HRd.out.mono ?_
        rintro e w1 ⟨rb, rfl, hR, hN, hrb⟩
        have HTk := Lib.hid (take_ok rb r 0 (w1.alloc (.cells #[.int .i64 32] 3)) (hR.chg (S := fun _ => False) ((Chg.refl _ _).alloc _) (fun _ _ h => h)) (by rw [Hl.out]; omega) Hsm.out (some ⟨w1.heap.size, 0, none⟩) 1 1 (· = w1.heap.size) (fun _ => 32) (by omega) (fun j hj => ⟨⟨w1.heap.size, 0, none⟩, rfl, rfl, by obtain rfl : j = 0 := (by omega); exact (Has.new w1 3 #[.int .i64 32]).cell 0⟩) (fun k hk => by rw [hk]; exact ⟨by simp, fun h => by obtain ⟨_, _, h1, _⟩ := hR; have := h1.lt; omega⟩) (fun _ _ => by omega) (by rw [Hl.out]; simp only [sumN]; omega))
        have HN1 := Lib.hid hN
        have Hrb := Lib.hid hrb
        clear hR hN hrb HRd
        go_wp2_with fail
        with_reducible refine HTk.out.mono ?_
        rintro e w2 ⟨A2, c2, rfl, hO, _, hC⟩
        have HN2 : Hid (New w w2) := (HN1.out.alloc _).trans hC (fun i hi h => by have := Hrb.out; omega)
        obtain ⟨g2, hA2, hcell⟩ : ∃ g2, A2 = some ⟨g2, 0, none⟩ ∧ w2.cell? ⟨g2, 0, none⟩ = some (.int .i64 (T : Int)) := by
          obtain ⟨g2, h1, h2⟩ := own_some (i := 0) hO (by omega)
          refine ⟨g2, h1, ?_⟩
          rw [h2 0 (by omega), HT.out]
          rfl
        subst hA2
        clear hO hC HTk
        go_wp2_with fail
        with_reducible refine (HRt.out _).mono ?_
        rintro e w3 ⟨rfl, hN⟩
        have HN3 := Lib.hid (HN2.out.then_new hN)
        clear hN
        cases b with
        | false =>
          go_wp2_with fail
          go_ret2
          exact ⟨HA2.out Hall2.out (by trivial), HN3.out⟩
        | true =>
          go_wp2_with fail
          go_ret2
          exact ⟨HA3.out Hall2.out (by trivial), HN3.out⟩
end Go.Proofs.Ytkcokcanakljnaa
