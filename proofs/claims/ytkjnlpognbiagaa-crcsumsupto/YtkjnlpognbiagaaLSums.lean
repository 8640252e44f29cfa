/-
  What the law CrcSums does where the lists are not too long: it returns true and turns nothing that was there.
-/
import Derived.Test.YtkjnlpognbiagaaLOpens
import Derived.Deep.RegionHeldLaw
namespace Go.Proofs.Ytkjnlpognbiagaa
open Go.RowKit
theorem Lists.three {w : World} {F : Nat → Prop} {g : Nat} {t : TypeId} {v1 v2 v3 : Value} {b1 b2 b3 : List Nat} (hg : Has w g t #[v1, v2, v3]) (h1 : Byts w F v1 b1) (h2 : Byts w F v2 b2) (h3 : Byts w F v3 b3) : Lists w (fun k => F k ∨ k = g) (some ⟨g, 0, none⟩) [b1, b2, b3] :=
  Lists.of_has (vs := [v1, v2, v3]) hg rfl fun i hi => by
    rcases (show i = 0 ∨ i = 1 ∨ i = 2 by simp at hi; omega) with rfl | rfl | rfl
    · exact h1
    · exact h2
    · exact h3
theorem Sum_none (w : World) : Calls Try.prog 10 #[.slice none 0 0] w fun e w' => e = .returned (.int .i64 65535) ∧ w' = w :=
  Sum_any none 0 0 (fun _ => False) [] w ⟨fun _ => undef, fun i hi => absurd hi (Nat.not_lt_zero i), fun i hi => absurd hi (Nat.not_lt_zero i)⟩ rfl (by omega)
theorem Seal_three (v1 v2 v3 : Value) (F : Nat → Prop) (b1 b2 b3 : List Nat) (w : World) (hh : Nat) (he : w.heap.size = hh) (h1 : Byts w F v1 b1) (h2 : Byts w F v2 b2) (h3 : Byts w F v3 b3) (hF : ∀ k, F k → k < w.heap.size) (hT : (b1 ++ (b2 ++ b3)).length + 2 ≤ 140737488355328) :
    Calls Try.prog 9 #[.slice (some ⟨hh, 0, none⟩) 3 3] (w.alloc (.cells #[v1, v2, v3] 22)) fun e w' => ∃ A' m c', e = .returned (.slice A' m c') ∧ m = (b1 ++ (b2 ++ b3)).length + 2 ∧ w'.ownsRow w.heap.size 5 1 (.slice A' m c') m ((sealed (b1 ++ (b2 ++ b3))).map bV) ∧ New w w' := by
  subst he
  have hN : New w (w.alloc (.cells #[v1, v2, v3] 22)) := (Chg.refl _ _).alloc _
  have h := Seal_any (some ⟨w.heap.size, 0, none⟩) 3 3 _ [b1, b2, b3] _ (Lists.three (Has.new w 22 #[v1, v2, v3]) (h1.new hN hF) (h2.new hN hF) (h3.new hN hF)) (fun k hk => by
    rcases hk with hk | rfl
    · have := hF k hk; simp; omega
    · simp) rfl (by omega) (by simpa using hT)
  have e : [b1, b2, b3].flatten = b1 ++ (b2 ++ b3) := by simp
  rw [e] at h
  refine h.mono ?_
  rintro e w' ⟨A', m, c', rfl, hm, hO, hN'⟩
  exact ⟨A', m, c', rfl, hm, own_base hO (fun k hk => by have := (hO.lt k hk).1; simp at this; omega), hN.then_new hN'⟩
theorem Sum_three (g : Nat) (v1 v2 v3 : Value) (F : Nat → Prop) (b1 b2 b3 : List Nat) (w : World) (hg : Has w g 22 #[v1, v2, v3]) (h1 : Byts w F v1 b1) (h2 : Byts w F v2 b2) (h3 : Byts w F v3 b3) :
    Calls Try.prog 10 #[.slice (some ⟨g, 0, none⟩) 3 3] w fun e w' => e = .returned (.int .i64 (crc 65535 (b1 ++ (b2 ++ b3)) : Nat)) ∧ w' = w := by
  have h := Sum_any (some ⟨g, 0, none⟩) 3 3 _ [b1, b2, b3] w (Lists.three hg h1 h2 h3) rfl (by omega)
  have e : [b1, b2, b3].flatten = b1 ++ (b2 ++ b3) := by simp
  rw [e] at h
  exact h
theorem Byts.own_any {w w' : World} {base c n : Nat} {A : Option Addr} {xb : List Nat} (h : w.ownsRow base 5 1 (.slice A n c) n (xb.map bV)) (hN : New w w') (h256 : ∀ x ∈ xb, x < 256) (hb : n ≤ 140737488355328) : Byts w' (· < w'.heap.size) (.slice A n c) xb :=
  (Byts.of_own (own_new h hN) h256 hb).mono (own_below (own_new h hN))
/-- append of bytes onto a row that was made behind the world wX -/
theorem wp_app {wX wy : World} {o : Oper} {a : Act} {K : Act → World → Prop} {Q : Exit → Act → World → Prop} (hNy : New wX wy) (s x : Operand)
    (ho : o.op = .call { callee := .builtin .append, args := #[s, x], argTypes := #[22, 22] }) (v : Value) (n : Nat) (xs : List Nat) (hs : a.eval s = v) (hown : wy.ownsRow wX.heap.size 5 1 v n (xs.map bV))
    (A : Option Addr) (m c : Nat) (ys : List Nat) (F : Nat → Prop) (hx : a.eval x = .slice A m c) (hA : Arr wy F A m (fun i => bV (ys.getD i 0))) (hl : ys.length = m) (hnil : A = none → m = 0 ∧ c = 0) (hn : n + m ≤ 140737488355328)
    (h : ∀ A' c' w', w'.ownsRow wX.heap.size 5 1 (.slice A' (n + m) c') (n + m) ((xs ++ ys).map bV) → New wX w' → Chg (fun k => v.ownBlock = some k) wy w' → K (a.put o.dst (.slice A' (n + m) c')) w') : o.wp Try.prog a wy K Q := by
  obtain ⟨i0, hi, hz0, hz1, hz2⟩ := info_parts Try.info5
  refine wp_append_src s x 22 ho wX.heap.size 5 i0 (.int .u8 0) 1 1 Try.underlying22 hi hz0 hz1 hz2 rfl (by decide) v n _ hs hown A m c (ys.map bV) hx hnil (by rw [List.length_map, Nat.mul_one, hl]) (map_news hA hl) (bV_one ys) (by simp only [maxLen]; omega) (by omega) hNy.size ?_
  intro A' c' w' hO hC _
  rw [← List.map_append] at hO
  exact h A' c' w' hO (hNy.trans hC (fun i hi hk => by have := (hown.lt i hk).1; omega)) hC
theorem wpList_app {wX wy : World} {ops : Array Oper} {rest : List Oper} {o : Oper} {a : Act} {Q : Exit → Act → World → Prop} (hgd : o.guard = none) (hNy : New wX wy) (s x : Operand)
    (ho : o.op = .call { callee := .builtin .append, args := #[s, x], argTypes := #[22, 22] }) (v : Value) (n : Nat) (xs : List Nat) (hs : a.eval s = v) (hown : wy.ownsRow wX.heap.size 5 1 v n (xs.map bV))
    (A : Option Addr) (m c : Nat) (ys : List Nat) (F : Nat → Prop) (hx : a.eval x = .slice A m c) (hA : Arr wy F A m (fun i => bV (ys.getD i 0))) (hl : ys.length = m) (hnil : A = none → m = 0 ∧ c = 0) (hn : n + m ≤ 140737488355328)
    (h : ∀ A' c' w', w'.ownsRow wX.heap.size 5 1 (.slice A' (n + m) c') (n + m) ((xs ++ ys).map bV) → New wX w' → wpList Try.prog ops Q rest (a.put o.dst (.slice A' (n + m) c')) w') : wpList Try.prog ops Q (o :: rest) a wy :=
  wpList_plain hgd fun _ hK => wp_app hNy s x ho v n xs hs hown A m c ys F hx hA hl hnil hn fun A' c' w' h1 h2 _ => hK _ _ (h A' c' w' h1 h2)
theorem step_app {wX wy : World} {ops : Array Oper} {o : Oper} {a : Act} {K : Act → World → Prop} {Q : Exit → Act → World → Prop} {E : Prop} (hw : Region.wanted o (yielded ops a.tmps) = true) (hNy : New wX wy) (s x : Operand)
    (ho : o.op = .call { callee := .builtin .append, args := #[s, x], argTypes := #[22, 22] }) (v : Value) (n : Nat) (xs : List Nat) (hs : a.eval s = v) (hown : wy.ownsRow wX.heap.size 5 1 v n (xs.map bV))
    (A : Option Addr) (m c : Nat) (ys : List Nat) (F : Nat → Prop) (hx : a.eval x = .slice A m c) (hA : Arr wy F A m (fun i => bV (ys.getD i 0))) (hl : ys.length = m) (hnil : A = none → m = 0 ∧ c = 0) (hn : n + m ≤ 140737488355328)
    (h : ∀ A' c' w', w'.ownsRow wX.heap.size 5 1 (.slice A' (n + m) c') (n + m) ((xs ++ ys).map bV) → New wX w' → Chg (fun k => v.ownBlock = some k) wy w' → K (a.put o.dst (.slice A' (n + m) c')) w') :
    if Region.wanted o (yielded ops a.tmps) = true then Oper.wp Try.prog o a wy K Q else E := by
  rw [if_pos hw]
  exact wp_app hNy s x ho v n xs hs hown A m c ys F hx hA hl hnil hn h
theorem Has.new_at (w : World) (t : TypeId) (cs : Array Value) (g : Nat) (h : w.heap.size = g) : Has (w.alloc (.cells cs t)) g t cs := by
  subst h; exact Has.new w t cs
theorem own_empty {w : World} {g base : Nat} (h : Has w g 5 #[]) (hb : base ≤ g) : w.ownsRow base 5 1 (.slice (some ⟨g, 0, none⟩) 0 0) 0 (([] : List Nat).map bV) :=
  ⟨by simp, Or.inr ⟨g, 0, #[], rfl, hb, h, Nat.le_refl _, by decide, rfl, rfl⟩⟩
theorem arr_two {w : World} {g x y : Nat} (h : Has w g 5 #[.int .u8 (x : Int), .int .u8 (y : Int)]) : Arr w (· = g) (some ⟨g, 0, none⟩) 2 (fun i => bV ([x, y].getD i 0)) := by
  intro i hi
  refine ⟨_, rfl, rfl, ?_⟩
  have hadd : (⟨g, 0, none⟩ : Addr).add i = ⟨g, i, none⟩ := by unfold Addr.add; split <;> simp_all
  rw [hadd, h.cell i]
  rcases (show i = 0 ∨ i = 1 by omega) with rfl | rfl <;> rfl
theorem step_copy {wX wy : World} {ops : Array Oper} {o : Oper} {a : Act} {K : Act → World → Prop} {Q : Exit → Act → World → Prop} {E : Prop} (hw : Region.wanted o (yielded ops a.tmps) = true) (hNy : New wX wy) (s x : Operand)
    (ho : o.op = .call { callee := .builtin .append, args := #[s, x], argTypes := #[22, 22] }) (g : Nat) (hs : a.eval s = .slice (some ⟨g, 0, none⟩) 0 0) (hg : Has wy g 5 #[]) (hb : wX.heap.size ≤ g)
    (A : Option Addr) (m c : Nat) (ys : List Nat) (F : Nat → Prop) (hx : a.eval x = .slice A m c) (hA : Arr wy F A m (fun i => bV (ys.getD i 0))) (hl : ys.length = m) (hnil : A = none → m = 0 ∧ c = 0) (hn : m ≤ 140737488355328)
    (h : ∀ A' c' w', w'.ownsRow wX.heap.size 5 1 (.slice A' m c') m (ys.map bV) → New wX w' → Chg (· = g) wy w' → K (a.put o.dst (.slice A' m c')) w') :
    if Region.wanted o (yielded ops a.tmps) = true then Oper.wp Try.prog o a wy K Q else E := by
  refine step_app hw hNy s x ho _ 0 [] hs (own_empty hg hb) A m c ys F hx hA hl hnil (by omega) ?_
  intro A' c' w' hO hN hC
  rw [Nat.zero_add, List.nil_append] at hO
  rw [Nat.zero_add]
  refine h A' c' w' hO hN (hC.mono fun i _ hi => ?_)
  simp only [Value.ownBlock, Option.some.injEq] at hi
  exact hi.symm
set_option maxRecDepth 100000 in
set_option maxHeartbeats 4000000 in
theorem sums_walk (A : Option Addr) (na ca : Nat) (xa : List Nat) (B : Option Addr) (nb cb : Nat) (xb : List Nat) (C : Option Addr) (nc cc : Nat) (xc : List Nat) (w : World)
    (hA : Arr w (· < w.heap.size) A na (fun i => bV (xa.getD i 0))) (hla : xa.length = na) (ha256 : ∀ x ∈ xa, x < 256) (hanil : A = none → na = 0 ∧ ca = 0) (hna : na ≤ 1048576)
    (hB : Arr w (· < w.heap.size) B nb (fun i => bV (xb.getD i 0))) (hlb : xb.length = nb) (hb256 : ∀ x ∈ xb, x < 256) (hbnil : B = none → nb = 0 ∧ cb = 0) (hnb : nb ≤ 1048576)
    (hC : Arr w (· < w.heap.size) C nc (fun i => bV (xc.getD i 0))) (hlc : xc.length = nc) (hc256 : ∀ x ∈ xc, x < 256) (hcnil : C = none → nc = 0 ∧ cc = 0) (hnc : nc ≤ 1048576) :
    Calls Try.prog 3 #[.slice A na ca, .slice B nb cb, .slice C nc cc] w fun e w' => e = .returned (.bool true) ∧ New w w' := by
  obtain ⟨i0, hi, hz0, hz1, hz2⟩ := info_parts Try.info5
  have HA : Hid (∀ wy, New w wy → Arr wy (· < w.heap.size) A na (fun i => bV (xa.getD i 0))) := fun wy h => hA.new h (fun k hk => hk)
  have HB : Hid (∀ wy, New w wy → Arr wy (· < w.heap.size) B nb (fun i => bV (xb.getD i 0))) := fun wy h => hB.new h (fun k hk => hk)
  have HC : Hid (∀ wy, New w wy → Arr wy (· < w.heap.size) C nc (fun i => bV (xc.getD i 0))) := fun wy h => hC.new h (fun k hk => hk)
  have HF : Hid (∀ wy, New w wy → ∀ k, k < w.heap.size → k < wy.heap.size) := fun wy h k hk => Nat.lt_of_lt_of_le hk h.size
  have Hla := Lib.hid hla
  have Hlb := Lib.hid hlb
  have Hlc := Lib.hid hlc
  have Ha := Lib.hid ha256
  have Hb := Lib.hid hb256
  have Hc := Lib.hid hc256
  have Hna := Lib.hid hanil
  have Hnb := Lib.hid hbnil
  have Hnc := Lib.hid hcnil
  clear hA hB hC hla hlb hlc ha256 hb256 hc256 hanil hbnil hcnil
  go_enter Try.func3, Try.ntmps3
  go_wp2_with fail
  with_reducible refine (awake_any _).mono ?_
  rintro e w1 ⟨rfl, hN1⟩
  have HN1 := Lib.hid hN1; clear hN1
  go_upto_region 4 with (first
    | (at_builtin; refine wpList_copy rfl _ _ rfl rfl A na ca xa _ rfl (HA.out _ HN1.out) (HF.out _ HN1.out) Hla.out Hna.out (by omega) ?_; intro Ax cx w2 hO2 hN2; have HN2 := Lib.hid (HN1.out.then_new hN2); have HOx := Lib.hid (own_base hO2 (base' := w.heap.size) (fun k hk => Nat.le_trans HN1.out.size (hO2.lt k hk).1)); clear hO2 hN2)
    | (at_builtin; refine wpList_copy rfl _ _ rfl rfl B nb cb xb _ rfl (HB.out _ HN2.out) (HF.out _ HN2.out) Hlb.out Hnb.out (by omega) ?_; intro Ay cy w3 hO3 hN3; have HN3 := Lib.hid (HN2.out.then_new hN3); have HOx := Lib.hid (own_new HOx.out hN3); have HOy := Lib.hid (own_base hO3 (base' := w.heap.size) (fun k hk => Nat.le_trans HN2.out.size (hO3.lt k hk).1)); clear hO3 hN3)
    | (at_builtin; refine wpList_copy rfl _ _ rfl rfl C nc cc xc _ rfl (HC.out _ HN3.out) (HF.out _ HN3.out) Hlc.out Hnc.out (by omega) ?_; intro Az cz w4 hO4 hN4; have HN4 := Lib.hid (HN3.out.then_new hN4); have HOx := Lib.hid (own_new HOx.out hN4); have HOy := Lib.hid (own_new HOy.out hN4); have HOz := Lib.hid (own_base hO4 (base' := w.heap.size) (fun k hk => Nat.le_trans HN3.out.size (hO4.lt k hk).1)); clear hO4 hN4)
    | go_in)
  have HF4 := Lib.hid (HF.out _ HN4.out)
  go_upto_region 5 with (first
    | (at_builtin; refine wpList_copy rfl _ _ rfl rfl A na ca xa _ rfl (HA.out _ HN4.out) HF4.out Hla.out Hna.out (by omega) ?_; intro A5 c5 w5 hO5 hN5; have HN5 := Lib.hid hN5; have HO5 := Lib.hid hO5; clear hO5 hN5)
    | (at_builtin; refine wpList_app rfl HN5.out _ _ rfl _ na xa rfl HO5.out B nb cb xb _ rfl (HB.out _ (HN4.out.then_new HN5.out)) Hlb.out Hnb.out (by omega) ?_; intro A6 c6 w6 hO6 hN6; have HN6 := Lib.hid hN6; have HO6 := Lib.hid hO6; clear hO6 hN6)
    | (at_builtin; refine wpList_app rfl HN6.out _ _ rfl _ (na + nb) (xa ++ xb) rfl HO6.out C nc cc xc _ rfl (HC.out _ (HN4.out.then_new HN6.out)) Hlc.out Hnc.out (by omega) ?_; intro A7 c7 w7 hO7 hN7; have HN7 := Lib.hid hN7; have HO7 := Lib.hid hO7; clear hO7 hN7)
    | go_in)
  rw [List.append_assoc] at HO7
  obtain ⟨L, hL⟩ : ∃ L, L = xa ++ (xb ++ xc) := ⟨_, rfl⟩
  obtain ⟨N, hN⟩ : ∃ N, N = na + nb + nc := ⟨_, rfl⟩
  rw [← hL, ← hN] at HO7
  rw [← hN]
  have hNb : N ≤ 3145728 := by omega
  have hLN : L.length = N := own_length HO7.out
  have HL256 : Hid (∀ x ∈ L, x < 256) := by
    intro x hx
    rw [hL, List.mem_append, List.mem_append] at hx
    rcases hx with hx | hx | hx
    · exact Ha.out x hx
    · exact Hb.out x hx
    · exact Hc.out x hx
  have HLN := Lib.hid hLN; clear hLN
  have HL := Lib.hid hL; clear hL hN
  have hs := crc_lt L 65535 (by omega)
  have HR : Hid (Calls Try.prog 8 #[.slice A7 N c7] w7 fun e w' => e = .returned (.int .i64 (crc 65535 L : Nat)) ∧ w' = w7) := refSum_any A7 N c7 _ L w7 (own_arr_bs HLN.out HO7.out) HLN.out HL256.out (by omega)
  obtain ⟨s, hse⟩ : ∃ s, s = crc 65535 L := ⟨_, rfl⟩
  rw [← hse] at hs HR
  have Hse := Lib.hid hse; clear hse
  go_wp2_with fail
  with_reducible refine HR.out.mono ?_
  rintro e w8 ⟨rfl, rfl⟩
  have HBx := Lib.hid (Byts.own_any HOx.out HN7.out Ha.out (by omega))
  have HBy := Lib.hid (Byts.own_any HOy.out HN7.out Hb.out (by omega))
  have HBz := Lib.hid (Byts.own_any HOz.out HN7.out Hc.out (by omega))
  go_wp2_with fail
  with_reducible refine (Seal_three _ _ _ _ xa xb xc w8 _ rfl HBx.out HBy.out HBz.out (fun k hk => hk) (by rw [← HL.out, HLN.out]; omega)).mono ?_
  rw [← HL.out, HLN.out]
  rintro e w9 ⟨A9, m9, c9, rfl, hm9, hO9, hN9⟩
  have hm9' : m9 ≤ 3145730 := by omega
  clear hm9
  have HO9 := Lib.hid hO9; clear hO9
  have HN9 := Lib.hid hN9; clear hN9
  go_upto_region 7 with (fail)
  have HN89 := Lib.hid (HN7.out.then_new HN9.out)
  have HS3 : Hid (∀ g wy, Has wy g 22 #[.slice Ax na cx, .slice Ay nb cy, .slice Az nc cz] → New w9 wy → Calls Try.prog 10 #[.slice (some ⟨g, 0, none⟩) 3 3] wy fun e w' => e = .returned (.int .i64 (s : Int)) ∧ w' = wy) := fun g wy h1 h2 => by
    have hn := HN89.out.then_new h2
    have h := Sum_three g _ _ _ _ xa xb xc wy h1 (Byts.own_any HOx.out hn Ha.out (by omega)) (Byts.own_any HOy.out hn Hb.out (by omega)) (Byts.own_any HOz.out hn Hc.out (by omega))
    rw [← HL.out, ← Hse.out] at h
    exact h
  have HS1 : Hid (∀ g wy, Has wy g 22 #[.slice A7 N c7] → New w9 wy → Calls Try.prog 10 #[.slice (some ⟨g, 0, none⟩) 1 1] wy fun e w' => e = .returned (.int .i64 (s : Int)) ∧ w' = wy) := fun g wy h1 h2 => by
    have h := Sum_one g _ _ L wy h1 (Byts.own_any HO7.out (HN9.out.then_new h2) HL256.out (by omega))
    rw [← Hse.out] at h
    exact h
  have HA7 : Hid (∀ wy, New w9 wy → Arr wy (fun k => Value.ownBlock (.slice A7 N c7) = some k) A7 N (fun i => bV (L.getD i 0))) := fun wy h => own_arr_bs HLN.out (own_new HO7.out (HN9.out.then_new h))
  have HA7n := Lib.hid (own_nil HO7.out)
  have HCv : Hid (∀ wy, New w9 wy → (convert 22 9 (.slice A9 m9 c9)).run Try.prog wy = .ok (.string (bstr (sealed L))) wy) := fun wy h => own_string Try.underlying22 Try.underlying5 Try.underlying9 (own_new HO9.out h)
  obtain ⟨h8, hh8⟩ : ∃ q, q = s / 256 := ⟨_, rfl⟩
  obtain ⟨l8, hl8⟩ : ∃ q, q = s % 256 := ⟨_, rfl⟩
  have HSe : Hid (L ++ [h8, l8] = sealed L) := by rw [Hid, sealed, ← Hse.out, ← hh8, ← hl8]
  have f0 : Int.tdiv (s : Int) 256 = (h8 : Int) := by rw [hh8]; rfl
  have f3 : IntKind.i64.wrap (h8 : Int) = (h8 : Int) := IntWalk.i64_in _ (by omega)
  have f1 : IntKind.u8.wrap (h8 : Int) = (h8 : Int) := by rw [IntKind.wrap_u8]; omega
  have f2 : IntKind.u8.wrap (s : Int) = (l8 : Int) := by rw [IntKind.wrap_u8]; omega
  clear hh8 hl8
  go_cut [68] (fun s68 wc => s68 = .bool false ∧ New w9 wc)
  case first =>
    go_region_held_law (fun w' => (convert 22 9 (.slice A9 m9 c9)).run Try.prog w' = .ok (.string (bstr (sealed L))) w')
      (exact HCv.out _ (by repeat (first | exact HN11.out | exact HN10.out | exact Chg.refl _ _ | refine Chg.alloc ?_ _ | refine Chg.drew ?_)))
      (first
        | (go_at_call 10; (with_reducible refine (HS3.out _ _ (by ((with_reducible repeat (first | exact Has.new_at _ _ _ _ (by simp; done) | refine Has.drew ?_ | refine Has.alloc ?_ _)); done)) (by ((with_reducible repeat (first | exact Chg.refl _ _ | refine Chg.alloc ?_ _ | refine Chg.drew ?_)); done))).mono ?_); rintro e w' ⟨rfl, rfl⟩)
        | (go_at_call 10; (with_reducible refine (HS1.out _ _ (by ((with_reducible repeat (first | exact Has.new_at _ _ _ _ (by simp; done) | refine Has.drew ?_ | refine Has.alloc ?_ _)); done)) (by ((with_reducible repeat (first | exact Chg.refl _ _ | refine Chg.alloc ?_ _ | refine Chg.drew ?_)); done))).mono ?_); rintro e w' ⟨rfl, rfl⟩)
        | (refine step_copy (wX := w9) (by kernel_rfl) (by ((with_reducible repeat (first | exact HN11.out | exact HN10.out | exact Chg.refl _ _ | refine Chg.alloc ?_ _ | refine Chg.drew ?_)); fail_if_success (have := True.intro))) (.tmp 56) (.tmp 57) rfl _ rfl (by ((with_reducible repeat (first | exact Has.new_at _ _ _ _ (by simp; fail_if_success (have := True.intro)) | refine Has.drew ?_ | refine Has.alloc ?_ _)); fail_if_success (have := True.intro))) (by omega) A7 N c7 L (fun k => Value.ownBlock (.slice A7 N c7) = some k) rfl (HA7.out _ (by ((with_reducible repeat (first | exact HN11.out | exact HN10.out | exact Chg.refl _ _ | refine Chg.alloc ?_ _ | refine Chg.drew ?_)); fail_if_success (have := True.intro)))) HLN.out HA7n.out (by omega) ?_
           intro A10 c10 w10 hO10 hN10 hC10
           have HO10 := Lib.hid hO10
           have HN10 := Lib.hid hN10
           have HC10 := Lib.hid hC10
           clear hO10 hN10 hC10)
        | (refine step_app (wX := w9) (by kernel_rfl) (by ((with_reducible repeat (first | exact HN11.out | exact HN10.out | exact Chg.refl _ _ | refine Chg.alloc ?_ _ | refine Chg.drew ?_)); fail_if_success (have := True.intro))) (.tmp 58) (.tmp 64) rfl (.slice A10 N c10) N L rfl (by ((with_reducible repeat (first | exact HO10.out | refine World.ownsRow.alloc ?_ _)); fail_if_success (have := True.intro))) (some ⟨_, 0, none⟩) 2 2 [h8, l8] _ rfl (arr_two (by first | ((with_reducible repeat (first | exact Has.new_at _ _ _ _ (by simp; fail_if_success (have := True.intro)) | refine Has.drew ?_ | refine Has.alloc ?_ _)); fail_if_success (have := True.intro)) | (refine Has.chg ?_ HC10.out (by omega); ((with_reducible repeat (first | exact Has.new_at _ _ _ _ (by simp; fail_if_success (have := True.intro)) | refine Has.drew ?_ | refine Has.alloc ?_ _)); fail_if_success (have := True.intro))))) rfl (by intro h; cases h) (by omega) ?_
           intro A11 c11 w11 hO11 hN11 hC11
           rw [HSe.out] at hO11
           have hcv : (convert 22 9 (.slice A11 (N + 2) c11)).run Try.prog w11 = .ok (.string (bstr (sealed L))) w11 := own_string Try.underlying22 Try.underlying5 Try.underlying9 hO11
           have HN11 := Lib.hid hN11
           clear hO11 hN11 hC11))
    all_goals
      go_wp2
      go_meet
      case rel => exact ⟨by simp, HN11.out⟩
  case rest =>
    obtain ⟨rfl, hNc⟩ := hcut
    have HOt := Lib.hid (own_new HO9.out hNc)
    have HNc := Lib.hid (HN9.out.then_new hNc); clear hNc
    have Hs256 := Lib.hid (sealed_lt L HL256.out)
    clear f0 f1 f2 f3
    go_wp2_with fail
    go_loopg [13] m9 (fun gk i wr => ∃ (k : Nat) (zs : List Nat), k ≤ m9 ∧ gk = m9 - k ∧ i = .int .i64 k ∧ (∀ x ∈ zs, x < 256) ∧ wr.ownsRow w8.heap.size 5 1 (.slice A9 m9 c9) m9 (zs.map bV) ∧ New w8 wr)
    case atStart => exact ⟨0, _, by omega, by omega, rfl, Hs256.out, HOt.out, HNc.out⟩
    case round =>
      obtain ⟨k, zs, hk, rfl, rfl, hz, hOz, hC⟩ := hrel
      by_cases hlt : k < m9
      · obtain ⟨g, rfl, hqq⟩ := own_some hOz hlt
        clear hqq
        have hzl := own_length hOz
        have hzk : zs.getD k 0 < 256 := getD_lt zs hz k
        have hcell : wr.cell? ⟨g, k, none⟩ = some (.int .u8 ((zs.getD k 0 : Nat) : Int)) := by
          rw [hOz.cellAt k (by omega), List.getElem?_map, List.getElem?_eq_getElem (by omega)]
          simp [bV, List.getElem?_eq_getElem (show k < zs.length by omega)]
        have hfree : wr.frozen? ⟨g, k, none⟩ = false := own_free hOz k
        obtain ⟨x, hx⟩ : ∃ x, x = zs.getD k 0 := ⟨_, rfl⟩
        rw [← hx] at hzk hcell
        have hxx : bits .xor .u8 (x : Int) 255 = ((x ^^^ 255 : Nat) : Int) := u8_xor_nat x 255 hzk (by omega)
        obtain ⟨y, hy⟩ : ∃ y, y = x ^^^ 255 := ⟨_, rfl⟩
        rw [← hy] at hxx
        have hy256 : y < 256 := by rw [hy]; exact Nat.xor_lt_two_pow (n := 8) hzk (by omega)
        have Hz := Lib.hid hz; clear hz
        have HOz' := Lib.hid hOz; clear hOz
        have HCw := Lib.hid hC; clear hC
        clear hx hy hzl hzk
        have Hy := Lib.hid hy256; clear hy256
        go_wp2
        go_roundg (m9 - (k + 1))
        case measure => omega
        case rel =>
          have hgw : w8.heap.size ≤ g := (HOz'.out.lt g rfl).1
          refine ⟨k + 1, zs.set k y, by omega, rfl, by go_num, ?_, ?_, ?_⟩
          · intro z hzm
            rcases List.mem_or_eq_of_mem_set hzm with h1 | rfl
            · exact Hz.out z h1
            · exact Hy.out
          · rw [List.map_set]; exact own_put HOz'.out k _
          · exact HCw.out.setCell (p := ⟨g, k, none⟩) (fun h => by dsimp only at h; omega) _
      · have hN4r := HN7.out.then_new hC
        have hNr := HN4.out.then_new hN4r
        have cx1 : (convert 22 9 (.slice Ax na cx)).run Try.prog wr = .ok (.string (bstr xa)) wr := own_string Try.underlying22 Try.underlying5 Try.underlying9 (own_new HOx.out hN4r)
        have cy1 : (convert 22 9 (.slice Ay nb cy)).run Try.prog wr = .ok (.string (bstr xb)) wr := own_string Try.underlying22 Try.underlying5 Try.underlying9 (own_new HOy.out hN4r)
        have cz1 : (convert 22 9 (.slice Az nc cz)).run Try.prog wr = .ok (.string (bstr xc)) wr := own_string Try.underlying22 Try.underlying5 Try.underlying9 (own_new HOz.out hN4r)
        have ca1 : (convert 22 9 (.slice A na ca)).run Try.prog wr = .ok (.string (bstr xa)) wr := arr_string Try.underlying22 Try.underlying5 Try.underlying9 (HA.out wr hNr) Hla.out Ha.out Hna.out
        have cb1 : (convert 22 9 (.slice B nb cb)).run Try.prog wr = .ok (.string (bstr xb)) wr := arr_string Try.underlying22 Try.underlying5 Try.underlying9 (HB.out wr hNr) Hlb.out Hb.out Hnb.out
        have cc1 : (convert 22 9 (.slice C nc cc)).run Try.prog wr = .ok (.string (bstr xc)) wr := arr_string Try.underlying22 Try.underlying5 Try.underlying9 (HC.out wr hNr) Hlc.out Hc.out Hnc.out
        have HNr := Lib.hid hNr; clear hNr hN4r hC hOz hz
        go_wp2_with fail
        with_reducible refine (Sum_none wr).mono ?_
        rintro e w' ⟨rfl, rfl⟩
        go_wp2
        go_ret
        exact ⟨by simp, HNr.out⟩
theorem sums_law {w : World} (A : Option Addr) (na ca : Nat) (h1 : (∃ bs : List Nat, bs.length = na ∧ Arr w (· < w.heap.size) A na (fun i => bV (bs.getD i 0)) ∧ (∀ x ∈ bs, x < 256) ∧ na ≤ ca ∧ ca ≤ maxLen ∧ (A = none → na = 0 ∧ ca = 0))) (b1 : na ≤ 1048576) (B : Option Addr) (nb cb : Nat) (h2 : (∃ bs : List Nat, bs.length = nb ∧ Arr w (· < w.heap.size) B nb (fun i => bV (bs.getD i 0)) ∧ (∀ x ∈ bs, x < 256) ∧ nb ≤ cb ∧ cb ≤ maxLen ∧ (B = none → nb = 0 ∧ cb = 0))) (b2 : nb ≤ 1048576) (C : Option Addr) (nc cc : Nat) (h3 : (∃ bs : List Nat, bs.length = nc ∧ Arr w (· < w.heap.size) C nc (fun i => bV (bs.getD i 0)) ∧ (∀ x ∈ bs, x < 256) ∧ nc ≤ cc ∧ cc ≤ maxLen ∧ (C = none → nc = 0 ∧ cc = 0))) (b3 : nc ≤ 1048576) :
    Calls Try.prog 3 #[.slice A na ca, .slice B nb cb, .slice C nc cc] w fun e w' => e = .returned (.bool true) ∧ New w w' := by
  obtain ⟨xa, hla, hA, ha, _, _, hna⟩ := h1
  obtain ⟨xb, hlb, hB, hb, _, _, hnb⟩ := h2
  obtain ⟨xc, hlc, hC, hc, _, _, hnc⟩ := h3
  exact sums_walk A na ca xa B nb cb xb C nc cc xc w hA hla ha hna b1 hB hlb hb hnb b2 hC hlc hc hnc b3
end Go.Proofs.Ytkjnlpognbiagaa
