/-
  What the program's takeEntry and readShell do.
-/
import Derived.Test.YtjkpijinpfimiaaPrG
import Derived.Test.YtjkpijinpfimiaaPrL
import Derived.Test.YtjkpijinpfimiaaRefD
namespace Go.Proofs.Ytjkpijinpfimiaa
open Go.RowKit
theorem sumN_list (ws : List Nat) : ∀ n, sumN (fun i => ws.getD i 0) n = (ws.take n).sum := by
  intro n
  induction n with
  | zero => simp [sumN]
  | succ n ih =>
    rw [sumN, ih, List.take_add_one, List.sum_append]
    by_cases h : n < ws.length
    · rw [List.getD_eq_getElem?_getD, List.getElem?_eq_getElem h]; simp
    · rw [List.getD_eq_getElem?_getD, List.getElem?_eq_none (by omega)]; simp
/-- Take of some widths that lie in a block of their own -/
theorem Take_row (b : Nat) (bs : List Nat) (p : Nat) (w : World) (h : Rd w b bs p 0) (hl : bs.length ≤ 1000) (h256 : ∀ x ∈ bs, x < 256) (g : Nat) (ws : List Nat) (hg : Has w g 3 (ws.map iV).toArray) (hne : g ≠ b) (hws : ∀ x ∈ ws, 1 ≤ x ∧ x ≤ 32) (n : Nat) (hn : ws.length = n) (hn1 : 1 ≤ n) (hn2 : n ≤ 10) (hp : p + ws.sum ≤ 8 * bs.length) :
    Calls Try.prog 64 #[.pointer (some ⟨b, 0, none⟩), .slice (some ⟨g, 0, none⟩) n n] w fun e w' => ∃ A c, e = .returned (.slice (some ⟨A, 0, none⟩) n c) ∧ w.heap.size ≤ A ∧ A < w'.heap.size ∧ (∀ j, j < n → w'.cell? ⟨A, j, none⟩ = some (iV (numAt bs (p + (ws.take j).sum) (ws.getD j 0)))) ∧ Rd w' b bs (p + ws.sum) 0 ∧ Chg (· = b) w w' := by
  have hs : sumN (fun i => ws.getD i 0) n = ws.sum := by rw [sumN_list, List.take_of_length_le (by omega)]
  have hA : Arr w (· = g) (some ⟨g, 0, none⟩) n (fun i => iV (ws.getD i 0)) := by
    intro i hi
    have hadd : (⟨g, 0, none⟩ : Addr).add i = ⟨g, i, none⟩ := by unfold Addr.add; split <;> simp_all
    refine ⟨_, rfl, rfl, ?_⟩
    rw [hadd, hg.cell]
    have hi' : i < ws.length := by omega
    simp [hi']
  refine (take_ok b bs p w h (by omega) h256 (some ⟨g, 0, none⟩) n n (· = g) (fun i => ws.getD i 0) (by omega) hA (fun k hk => by rw [hk]; exact ⟨hg.lt, hne⟩) (fun i hi => ?_) (by rw [hs]; exact hp)).mono ?_
  · have hi' : i < ws.length := by omega
    rw [List.getD_eq_getElem?_getD, List.getElem?_eq_getElem hi', Option.getD_some]
    exact hws _ (List.getElem_mem hi')
  · rintro e w' ⟨A', c', rfl, hO, hR, hC⟩
    rw [hs] at hR
    obtain ⟨A, rfl, hc⟩ := own_some (i := 0) hO (by omega)
    have hlt := hO.lt A rfl
    refine ⟨A, c', rfl, hlt.1, hlt.2, fun j hj => ?_, hR, hC⟩
    rw [hc j hj, List.getElem?_map, List.getElem?_range hj, Option.map_some]
    unfold nums
    rw [sumN_list]
theorem Rd.lt {w : World} {b : Nat} {bs : List Nat} {p : Nat} {er : Int} (h : Rd w b bs p er) : b < w.heap.size := by
  obtain ⟨cs, hcs⟩ := h.has
  exact hcs.lt
theorem Rd.far {w w' : World} {b g : Nat} {t : TypeId} {cs : Array Value} {bs : List Nat} {p : Nat} {er : Int} (h : Rd w b bs p er) (hg : Has w g t cs) (hne : b ≠ g) (h5 : 5 ≠ t) (c : Chg (· = g) w w') : Rd w' b bs p er := by
  obtain ⟨A, cc, hH, hO⟩ := h
  exact ⟨A, cc, hH.chg c hne, own_chg hO c fun k hk e => own_apart hO hg h5 (e ▸ hk)⟩
theorem set4 {w : World} {g : Nat} {y0 y1 y2 y3 : Value} (h : Has w g 60 #[y0, y1, y2, y3]) (x0 x1 x2 x3 : Value) :
    Has ((((w.setCell ⟨g, 0, none⟩ x0).setCell ⟨g, 1, none⟩ x1).setCell ⟨g, 2, none⟩ x2).setCell ⟨g, 3, none⟩ x3) g 60 #[x0, x1, x2, x3] ∧
      Chg (· = g) w ((((w.setCell ⟨g, 0, none⟩ x0).setCell ⟨g, 1, none⟩ x1).setCell ⟨g, 2, none⟩ x2).setCell ⟨g, 3, none⟩ x3) := by
  refine ⟨?_, ?_⟩
  · have := (((h.set 0 x0).set 1 x1).set 2 x2).set 3 x3
    simpa using this
  · exact Chg.setCell (S := (· = g)) (Chg.setCell (S := (· = g)) (Chg.setCell (S := (· = g)) (Chg.setCell (S := (· = g)) (Chg.refl _ _) (fun _ => rfl) _) (fun _ => rfl) _) (fun _ => rfl) _) (fun _ => rfl) _
theorem setV {w : World} {g : Nat} {y0 y1 y2 y3 y4 : Value} (h : Has w g 30 #[y0, y1, y2, y3, y4]) (x0 x1 x2 x3 x4 : Value) :
    Has (((((w.setCell ⟨g, 0, none⟩ x0).setCell ⟨g, 1, none⟩ x1).setCell ⟨g, 2, none⟩ x2).setCell ⟨g, 3, none⟩ x3).setCell ⟨g, 4, none⟩ x4) g 30 #[x0, x1, x2, x3, x4] ∧
      Chg (· = g) w (((((w.setCell ⟨g, 0, none⟩ x0).setCell ⟨g, 1, none⟩ x1).setCell ⟨g, 2, none⟩ x2).setCell ⟨g, 3, none⟩ x3).setCell ⟨g, 4, none⟩ x4) := by
  refine ⟨?_, ?_⟩
  · have := ((((h.set 0 x0).set 1 x1).set 2 x2).set 3 x3).set 4 x4
    simpa using this
  · exact Chg.setCell (S := (· = g)) (Chg.setCell (S := (· = g)) (Chg.setCell (S := (· = g)) (Chg.setCell (S := (· = g)) (Chg.setCell (S := (· = g)) (Chg.refl _ _) (fun _ => rfl) _) (fun _ => rfl) _) (fun _ => rfl) _) (fun _ => rfl) _) (fun _ => rfl) _
set_option maxRecDepth 100000 in
set_option maxHeartbeats 4000000 in
theorem takeEntry_any (b : Nat) (bs : List Nat) (k : Nat) (w : World) (h : Rd w b bs (8 * (3 + 5 * k)) 0) (hl : bs.length ≤ 1000) (h256 : ∀ x ∈ bs, x < 256) (hk : 8 + 5 * k ≤ bs.length) :
    Calls Try.prog 66 #[.pointer (some ⟨b, 0, none⟩)] w fun e w' => e = .returned (.agg #[.int .i64 (enAt bs k).k, .int .i64 (enAt bs k).o, .int .i64 (enAt bs k).i, .int .i64 (enAt bs k).s]) ∧ Rd w' b bs (8 * (3 + 5 * (k + 1))) 0 ∧ Chg (· = b) w w' := by
  obtain ⟨x0, hx0⟩ : ∃ x : Nat, x = bs.getD (3 + 5 * k) 0 := ⟨_, rfl⟩
  obtain ⟨x1, hx1⟩ : ∃ x : Nat, x = bs.getD (4 + 5 * k) 0 := ⟨_, rfl⟩
  obtain ⟨x2, hx2⟩ : ∃ x : Nat, x = bs.getD (5 + 5 * k) 0 * 256 + bs.getD (6 + 5 * k) 0 := ⟨_, rfl⟩
  obtain ⟨x3, hx3⟩ : ∃ x : Nat, x = bs.getD (7 + 5 * k) 0 := ⟨_, rfl⟩
  have He : Hid (enAt bs k = ⟨(x0 : Int), (x1 : Int), (x2 : Int), (x3 : Int)⟩) := by show _ = _; rw [hx0, hx1, hx2, hx3]; rfl
  have n0 : numAt bs (8 * (3 + 5 * k)) 8 = x0 := by rw [hx0]; exact numAt8 bs _ (by omega) h256
  have n1 : numAt bs (8 * (3 + 5 * k) + 8) 8 = x1 := by rw [hx1, show 8 * (3 + 5 * k) + 8 = 8 * (4 + 5 * k) by omega]; exact numAt8 bs _ (by omega) h256
  have n2 : numAt bs (8 * (3 + 5 * k) + 16) 16 = x2 := by rw [hx2, show 8 * (3 + 5 * k) + 16 = 8 * (5 + 5 * k) by omega, show 6 + 5 * k = 5 + 5 * k + 1 by omega]; exact numAt16 bs _ (by omega) h256
  have n3 : numAt bs (8 * (3 + 5 * k) + 32) 8 = x3 := by rw [hx3, show 8 * (3 + 5 * k) + 32 = 8 * (7 + 5 * k) by omega]; exact numAt8 bs _ (by omega) h256
  have HT : Hid (∀ (wx : World) (g : Nat), Rd wx b bs (8 * (3 + 5 * k)) 0 → Has wx g 3 #[.int .i64 8, .int .i64 8, .int .i64 16, .int .i64 8] → g ≠ b → Calls Try.prog 64 #[.pointer (some ⟨b, 0, none⟩), .slice (some ⟨g, 0, none⟩) 4 4] wx fun e w' => ∃ A c, e = .returned (.slice (some ⟨A, 0, none⟩) 4 c) ∧ wx.heap.size ≤ A ∧ A < w'.heap.size ∧ (w'.cell? ⟨A, 0, none⟩ = some (.int .i64 (x0 : Int)) ∧ w'.cell? ⟨A, 1, none⟩ = some (.int .i64 (x1 : Int)) ∧ w'.cell? ⟨A, 2, none⟩ = some (.int .i64 (x2 : Int)) ∧ w'.cell? ⟨A, 3, none⟩ = some (.int .i64 (x3 : Int))) ∧ Rd w' b bs (8 * (3 + 5 * (k + 1))) 0 ∧ Chg (· = b) wx w') := by
    intro wx g hR hg hne
    refine (Take_row b bs (8 * (3 + 5 * k)) wx hR hl h256 g [8, 8, 16, 8] hg hne (by decide) 4 rfl (by omega) (by omega) (by simp; omega)).mono ?_
    rintro e w' ⟨A, c, rfl, h1, h2, h3, h4, h5⟩
    refine ⟨A, c, rfl, h1, h2, ⟨?_, ?_, ?_, ?_⟩, ?_, h5⟩
    · rw [h3 0 (by omega), ← n0]; rfl
    · rw [h3 1 (by omega), ← n1]; rfl
    · rw [h3 2 (by omega), ← n2]; rfl
    · rw [h3 3 (by omega), ← n3]; rfl
    · have e : 8 * (3 + 5 * k) + [8, 8, 16, 8].sum = 8 * (3 + 5 * (k + 1)) := by simp; omega
      rw [e] at h4; exact h4
  have HR := Lib.hid h
  have Hbl := Lib.hid h.lt
  clear h hx0 hx1 hx2 hx3 n0 n1 n2 n3 hl h256 hk
  obtain ⟨rb, hrb⟩ : ∃ rb, rb = w.heap.size := ⟨_, rfl⟩
  obtain ⟨gb, hgb⟩ : ∃ gb, gb = w.heap.size + 1 := ⟨_, rfl⟩
  go_enter Try.func66, Try.ntmps66
  go_wp2_with fail
  obtain ⟨w1, hw1⟩ : ∃ w1, w1 = (w.alloc (.cells #[.int .i64 0, .int .i64 0, .int .i64 0, .int .i64 0] 60)).alloc (.cells #[.int .i64 8, .int .i64 8, .int .i64 16, .int .i64 8] 3) := ⟨_, rfl⟩
  have HB1 : Hid (Has w1 rb 60 #[.int .i64 0, .int .i64 0, .int .i64 0, .int .i64 0]) := by rw [hw1, hrb]; exact (Has.new w 60 _).alloc _
  have HG1 : Hid (Has w1 gb 3 #[.int .i64 8, .int .i64 8, .int .i64 16, .int .i64 8]) := by rw [hw1, hgb]; exact Has.new_at _ 3 _ _ (by simp)
  have HN1 : Hid (New w w1) := by rw [hw1]; exact ((Chg.refl _ _).alloc _).alloc _
  have Hrb : Hid (w.heap.size ≤ rb) := by show _ ≤ _; omega
  have Hne : Hid (gb ≠ b) := by have := Hbl.out; show _ ≠ _; omega
  have Hnr : Hid (rb ≠ b) := by have := Hbl.out; show _ ≠ _; omega
  rw [← hw1, ← hgb, ← hrb]
  clear hw1 hrb hgb
  with_reducible refine (HT.out w1 gb (HR.out.new HN1.out) HG1.out Hne.out).mono ?_
  rintro e w2 ⟨A, c, rfl, hA1, hA2, ⟨c0, c1, c2, c3⟩, hR2, hG2⟩
  have HB2 := Lib.hid (HB1.out.chg hG2 Hnr.out)
  have HR2 := Lib.hid hR2
  have HG2 : Hid (Chg (· = b) w w2) := Chg.new_then HN1.out hG2
  have hAr : A ≠ rb := by have := HB1.out.lt; omega
  have HAr := Lib.hid hAr
  clear hR2 hG2 hA1
  have r0 : w2.cell? ⟨rb, 0, none⟩ = some (.int .i64 0) := (HB2.out.cell 0).trans rfl
  have r1 : w2.cell? ⟨rb, 1, none⟩ = some (.int .i64 0) := (HB2.out.cell 1).trans rfl
  have r2 : w2.cell? ⟨rb, 2, none⟩ = some (.int .i64 0) := (HB2.out.cell 2).trans rfl
  have r3 : w2.cell? ⟨rb, 3, none⟩ = some (.int .i64 0) := (HB2.out.cell 3).trans rfl
  have z0 := HB2.out.free 0
  have z1 := HB2.out.free 1
  have z2 := HB2.out.free 2
  have z3 := HB2.out.free 3
  have hrl := HB2.out.lt
  clear hAr
  go_upto_region 2 with (fail)
  go_region
  all_goals
    go_wp2_with fail
    obtain ⟨hX, hGX⟩ := set4 HB2.out (.int .i64 (x0 : Int)) (.int .i64 (x1 : Int)) (.int .i64 (x2 : Int)) (.int .i64 (x3 : Int))
    generalize ((((w2.setCell ⟨rb, 0, none⟩ (.int .i64 (x0 : Int))).setCell ⟨rb, 1, none⟩ (.int .i64 (x1 : Int))).setCell ⟨rb, 2, none⟩ (.int .i64 (x2 : Int))).setCell ⟨rb, 3, none⟩ (.int .i64 (x3 : Int))) = wX at hX hGX ⊢
    have g0 := (hX.drew.cell 0).trans rfl
    have g1 := (hX.drew.cell 1).trans rfl
    have g2 := (hX.drew.cell 2).trans rfl
    have g3 := (hX.drew.cell 3).trans rfl
    refine bodyPost_ret (v := .agg #[.int .i64 (x0 : Int), .int .i64 (x1 : Int), .int .i64 (x2 : Int), .int .i64 (x3 : Int)]) (by simp [results, Try.results66, go_sem, g0, g1, g2, g3]) rfl ?_
    rw [He.out]
    exact ⟨rfl, HR2.out.far HB2.out Hnr.out.symm (by decide) hGX.drew, HG2.out.trans hGX.drew (fun i hi h => by have := Hrb.out; omega)⟩
/-- what the first sector says -/
def rsE (S : List Nat) : Int := if sumOk S then (if formB S then 0 else 12) else 13
set_option maxRecDepth 100000 in
set_option maxHeartbeats 8000000 in
theorem readShell_any (g : Nat) (B : List Nat) (p : Int) (w : World) (hC : Cd w g B p) :
    Calls Try.prog 34 #[.pointer (some ⟨g, 0, none⟩)] w fun e w' => (rsE (sec B 0) = 0 ∧ e = .returned (.tuple #[.agg #[.int .i64 (idN (sec B 0) : Nat), .int .i64 ((sec B 0).getD 4 0 : Nat), .int .i64 0, .int .i64 0, .slice none 0 0], .int .i64 0]) ∨ rsE (sec B 0) ≠ 0 ∧ e = .returned (.tuple #[.agg #[.int .i64 0, .int .i64 0, .int .i64 0, .int .i64 0, .slice none 0 0], .int .i64 (rsE (sec B 0))])) ∧ New w w' := by
  have HO := Lib.hid (opened_any g 0 B p)
  rw [show (0 : Int).toNat = 0 from rfl] at HO
  have HC := Lib.hid hC
  obtain ⟨S, hS⟩ : ∃ S, S = sec B 0 := ⟨_, rfl⟩
  have hSl : S.length = 32 := by rw [hS]; exact sec_len hC.len (by omega)
  have hSs : ∀ x ∈ S, x < 256 := by rw [hS]; exact sec_small hC.small
  rw [← hS] at HO ⊢
  clear hS hC
  obtain ⟨oE, oB⟩ := open_sum hSl hSs
  obtain ⟨rb, hrb⟩ : ∃ rb, rb = w.heap.size := ⟨_, rfl⟩
  go_enter Try.func34, Try.ntmps34
  go_wp2_with fail
  obtain ⟨w1, hw1⟩ : ∃ w1, w1 = w.alloc (.cells #[.int .i64 0, .int .i64 0, .int .i64 0, .int .i64 0, .slice none 0 0] 30) := ⟨_, rfl⟩
  have HB1 : Hid (Has w1 rb 30 #[.int .i64 0, .int .i64 0, .int .i64 0, .int .i64 0, .slice none 0 0]) := by rw [hw1, hrb]; exact Has.new w 30 _
  have HN1 : Hid (New w w1) := by rw [hw1]; exact (Chg.refl _ _).alloc _
  have Hrb : Hid (w.heap.size ≤ rb) := by show _ ≤ _; omega
  rw [← hw1, ← hrb]
  clear hw1 hrb
  with_reducible refine (HO.out w1 (HC.out.new HN1.out) (by omega)).mono ?_
  rintro e w2 ⟨A, c, A', q, c', rfl, hq, hO1, hO2, hN2⟩
  rw [oB] at hq hO2
  rw [oE]
  have HB2 := Lib.hid (HB1.out.keep hN2)
  have HN2 := Lib.hid (HN1.out.then_new hN2)
  have HO1 := Lib.hid hO1
  clear hN2 hO1 HO
  cases hsum : sumOk S with
  | false =>
    have Hd : Hid (rsE S = 13) := by show _ = _; unfold rsE; rw [hsum]; rfl
    simp only [Bool.false_eq_true, if_false]
    clear oE oB hq hO2
    have r0 : w2.cell? ⟨rb, 0, none⟩ = some (.int .i64 0) := (HB2.out.cell 0).trans rfl
    have r1 : w2.cell? ⟨rb, 1, none⟩ = some (.int .i64 0) := (HB2.out.cell 1).trans rfl
    have r2 : w2.cell? ⟨rb, 2, none⟩ = some (.int .i64 0) := (HB2.out.cell 2).trans rfl
    have r3 : w2.cell? ⟨rb, 3, none⟩ = some (.int .i64 0) := (HB2.out.cell 3).trans rfl
    have r4 : w2.cell? ⟨rb, 4, none⟩ = some (.slice none 0 0) := (HB2.out.cell 4).trans rfl
    have z0 := HB2.out.free 0
    have z1 := HB2.out.free 1
    have z2 := HB2.out.free 2
    have z3 := HB2.out.free 3
    have z4 := HB2.out.free 4
    go_wp2_with fail
    obtain ⟨hX, hGX⟩ := setV HB2.out (.int .i64 0) (.int .i64 0) (.int .i64 0) (.int .i64 0) (.slice none 0 0)
    generalize (((((w2.setCell ⟨rb, 0, none⟩ (.int .i64 0)).setCell ⟨rb, 1, none⟩ (.int .i64 0)).setCell ⟨rb, 2, none⟩ (.int .i64 0)).setCell ⟨rb, 3, none⟩ (.int .i64 0)).setCell ⟨rb, 4, none⟩ (.slice none 0 0)) = wX at hX hGX ⊢
    have g0 := (hX.cell 0).trans rfl
    have g1 := (hX.cell 1).trans rfl
    have g2 := (hX.cell 2).trans rfl
    have g3 := (hX.cell 3).trans rfl
    have g4 := (hX.cell 4).trans rfl
    refine bodyPost_ret (v := .tuple #[.agg #[.int .i64 0, .int .i64 0, .int .i64 0, .int .i64 0, .slice none 0 0], .int .i64 13]) (by simp [results, Try.results34, go_sem, g0, g1, g2, g3, g4]) rfl ?_
    rw [Hd.out]
    exact ⟨Or.inr ⟨by decide, rfl⟩, HN2.out.trans hGX (fun i hi h => by have := Hrb.out; omega)⟩
  | true =>
  have Hform := Lib.hid (shell_test hSl hSs hsum)
  rw [hsum] at hq hO2
  simp only [if_true] at hq hO2 ⊢
  obtain rfl : q = 30 := by rw [hq, List.length_take]; omega
  have Hsum := Lib.hid hsum
  obtain ⟨P, hP⟩ : ∃ P, P = S.take 30 := ⟨_, rfl⟩
  rw [← hP] at hO2
  have hPl : P.length = 30 := by rw [hP, List.length_take]; omega
  have hPs : ∀ x ∈ P, x < 256 := by rw [hP]; exact fun x hx => hSs x (List.mem_of_mem_take hx)
  have hPg : ∀ i, i < 30 → P.getD i 0 = S.getD i 0 := by
    intro i hi
    rw [hP, List.getD_eq_getElem?_getD, List.getD_eq_getElem?_getD, List.getElem?_take, if_pos hi]
  obtain ⟨id, hid⟩ : ∃ id, id = idN S := ⟨_, rfl⟩
  obtain ⟨u, hu⟩ : ∃ u, u = S.getD 4 0 := ⟨_, rfl⟩
  have hu2 : u ≤ 255 := by rw [hu]; have := getD_lt S hSs 4; omega
  have hid2 : id ≤ 65535 := by rw [hid]; unfold idN; have := getD_lt S hSs 2; have := getD_lt S hSs 3; omega
  have n1 : numAt P 16 16 = id := by rw [show (16 : Nat) = 8 * 2 from rfl, numAt16 P 2 (by omega) hPs, hPg 2 (by omega), hPg 3 (by omega), hid]; rfl
  have n2 : numAt P 32 8 = u := by rw [show (32 : Nat) = 8 * 4 from rfl, numAt8 P 4 (by omega) hPs, hPg 4 (by omega), hu]
  rw [← hid, ← hu] at Hform
  have HRd : Hid (Calls Try.prog 63 #[.slice A' 30 c'] w2 fun e w' => ∃ b, e = .returned (.pointer (some ⟨b, 0, none⟩)) ∧ Rd w' b P 0 0 ∧ New w2 w' ∧ w2.heap.size ≤ b) := bRead_any A' 30 c' _ P w2 (own_arr_bs hPl hO2) hPl (own_nil hO2) (by omega)
  have HT : Hid (∀ (wx : World) (b g : Nat), Rd wx b P 0 0 → Has wx g 3 #[.int .i64 16, .int .i64 16, .int .i64 8] → g ≠ b → Calls Try.prog 64 #[.pointer (some ⟨b, 0, none⟩), .slice (some ⟨g, 0, none⟩) 3 3] wx fun e w' => ∃ A c, e = .returned (.slice (some ⟨A, 0, none⟩) 3 c) ∧ wx.heap.size ≤ A ∧ A < w'.heap.size ∧ (w'.cell? ⟨A, 1, none⟩ = some (.int .i64 (id : Int)) ∧ w'.cell? ⟨A, 2, none⟩ = some (.int .i64 (u : Int))) ∧ Chg (· = b) wx w') := by
    intro wx b g hR hg hne
    refine (Take_row b P 0 wx hR (by omega) hPs g [16, 16, 8] hg hne (by decide) 3 rfl (by omega) (by omega) (by simp; omega)).mono ?_
    rintro e w' ⟨A, c, rfl, h1, h2, h3, h4, h5⟩
    refine ⟨A, c, rfl, h1, h2, ⟨?_, ?_⟩, h5⟩
    · rw [h3 1 (by omega), ← n1]; rfl
    · rw [h3 2 (by omega), ← n2]; rfl
  have Hidu : Hid (id = idN S ∧ u = S.getD 4 0) := ⟨hid, hu⟩
  have HSl := Lib.hid hSl
  have HSs := Lib.hid hSs
  clear hPl hPs hPg hP hid hu n1 n2 hO2 hq oE oB hSl hSs hsum
  go_wp2_with fail
  with_reducible refine HRd.out.mono ?_
  rintro e w3 ⟨b, rfl, hR3, hN3, hb3⟩
  have HB3 := Lib.hid (HB2.out.keep hN3)
  have HN3 := Lib.hid (HN2.out.then_new hN3)
  have HO3 := Lib.hid (own_new HO1.out hN3)
  have Hbb : Hid (w.heap.size ≤ b ∧ b ≠ rb) := by have := HN2.out.size; have := HB2.out.lt; show _ ∧ _; omega
  have Hbl := Lib.hid hR3.lt
  have HR3 := Lib.hid hR3
  clear hN3 hR3 hb3 HB2 HO1 HRd HB1
  go_wp2_with fail
  obtain ⟨w4, hw4⟩ : ∃ w4, w4 = w3.alloc (.cells #[.int .i64 16, .int .i64 16, .int .i64 8] 3) := ⟨_, rfl⟩
  obtain ⟨gb, hgb⟩ : ∃ gb, gb = w3.heap.size := ⟨_, rfl⟩
  have hN4 : New w3 w4 := by rw [hw4]; exact (Chg.refl _ _).alloc _
  have HG4 : Hid (Has w4 gb 3 #[.int .i64 16, .int .i64 16, .int .i64 8]) := by rw [hw4, hgb]; exact Has.new w3 3 _
  have Hgb : Hid (gb ≠ b) := by have := Hbl.out; show _ ≠ _; omega
  have HB4 := Lib.hid (HB3.out.keep hN4)
  have HN4 := Lib.hid (HN3.out.then_new hN4)
  have HO4 := Lib.hid (own_new HO3.out hN4)
  have HR4 := Lib.hid (HR3.out.new hN4)
  rw [← hw4, ← hgb]
  clear hw4 hgb hN4 HB3 HO3 HR3
  with_reducible refine (HT.out w4 b gb HR4.out HG4.out Hgb.out).mono ?_
  rintro e w5 ⟨A5, c5, rfl, hA5, hA5l, ⟨d1, d2⟩, hG5⟩
  have HB5 := Lib.hid (HB4.out.chg hG5 Hbb.out.2.symm)
  have HN5 : Hid (New w w5) := HN4.out.trans hG5 (fun i hi h => by have := Hbb.out; omega)
  have HO5 := Lib.hid (own_chg HO4.out hG5 (fun k hk h => by
    obtain ⟨cs, hcs⟩ := HR4.out.has
    exact own_apart HO4.out hcs (by decide) (h ▸ hk)))
  clear hG5 hA5 HB4 HO4 HT
  go_upto_region 5 with (fail)
  go_quiet (fail)
  obtain ⟨w6, hw6⟩ : ∃ w6, w6 = w5.drewN nq := ⟨_, rfl⟩
  have hN6 : New w5 w6 := by rw [hw6]; exact (Chg.refl _ _).drewN _
  have HB6 := Lib.hid (HB5.out.keep hN6)
  have HN6 := Lib.hid (HN5.out.then_new hN6)
  have HO6 := Lib.hid (own_new HO5.out hN6)
  rw [← hw6]
  clear hw6 hN6 d1 d2 hA5l HB5 HO5
  have HNo : Hid (formB S = false → rsE S = 12) := by intro h; unfold rsE; rw [Hsum.out, h]; rfl
  have HYes : Hid (formB S = true → rsE S = 0) := by intro h; unfold rsE; rw [Hsum.out, h]; rfl
  have r0 : w6.cell? ⟨rb, 0, none⟩ = some (.int .i64 0) := (HB6.out.cell 0).trans rfl
  have r1 : w6.cell? ⟨rb, 1, none⟩ = some (.int .i64 0) := (HB6.out.cell 1).trans rfl
  have r2 : w6.cell? ⟨rb, 2, none⟩ = some (.int .i64 0) := (HB6.out.cell 2).trans rfl
  have r3 : w6.cell? ⟨rb, 3, none⟩ = some (.int .i64 0) := (HB6.out.cell 3).trans rfl
  have r4 : w6.cell? ⟨rb, 4, none⟩ = some (.slice none 0 0) := (HB6.out.cell 4).trans rfl
  have z0 := HB6.out.free 0
  have z1 := HB6.out.free 1
  have z2 := HB6.out.free 2
  have z3 := HB6.out.free 3
  have z4 := HB6.out.free 4
  go_wp2_with fail
  with_reducible refine (rightNumber_any (id : Int) w6).mono ?_
  rintro e w7 ⟨rfl, hw7⟩
  obtain rfl : w6 = w7 := hw7.symm
  clear hw7
  by_cases hi1 : 1 ≤ id
  case neg =>
    have Hf : Hid (formB S = false) := by show _ = _; rw [Hform.out, decide_eq_false hi1]; rfl
    rw [decide_eq_false (show ¬ (1 ≤ (id : Int) ∧ (id : Int) ≤ 65535) by omega)]
    go_wp2_with fail
    obtain ⟨hX, hGX⟩ := setV HB6.out (.int .i64 0) (.int .i64 0) (.int .i64 0) (.int .i64 0) (.slice none 0 0)
    generalize (((((w6.setCell ⟨rb, 0, none⟩ (.int .i64 0)).setCell ⟨rb, 1, none⟩ (.int .i64 0)).setCell ⟨rb, 2, none⟩ (.int .i64 0)).setCell ⟨rb, 3, none⟩ (.int .i64 0)).setCell ⟨rb, 4, none⟩ (.slice none 0 0)) = wX at hX hGX ⊢
    have g0 := (hX.cell 0).trans rfl
    have g1 := (hX.cell 1).trans rfl
    have g2 := (hX.cell 2).trans rfl
    have g3 := (hX.cell 3).trans rfl
    have g4 := (hX.cell 4).trans rfl
    refine bodyPost_ret (v := .tuple #[.agg #[.int .i64 0, .int .i64 0, .int .i64 0, .int .i64 0, .slice none 0 0], .int .i64 12]) (by simp [results, Try.results34, go_sem, g0, g1, g2, g3, g4]) rfl ?_
    rw [HNo.out Hf.out]
    exact ⟨Or.inr ⟨by decide, rfl⟩, HN6.out.trans hGX (fun i hi h => by have := Hrb.out; omega)⟩
  rw [decide_eq_true (show 1 ≤ (id : Int) ∧ (id : Int) ≤ 65535 by omega)]
  have Hi1 := Lib.hid hi1; clear hi1
  go_wp2_with fail
  with_reducible refine (rightOp_any (u : Int) w6).mono ?_
  rintro e w7 ⟨rfl, hw7⟩
  obtain rfl : w6 = w7 := hw7.symm
  clear hw7
  by_cases hu1 : 1 ≤ u ∧ u ≤ 4
  case neg =>
    have Hf : Hid (formB S = false) := by
      show _ = _
      rw [Hform.out]
      by_cases h1 : 1 ≤ u
      · rw [decide_eq_false (show ¬ u ≤ 4 by omega)]; simp
      · rw [decide_eq_false h1]; simp
    rw [decide_eq_false (show ¬ (1 ≤ (u : Int) ∧ (u : Int) ≤ 4) by omega)]
    go_wp2_with fail
    obtain ⟨hX, hGX⟩ := setV HB6.out (.int .i64 0) (.int .i64 0) (.int .i64 0) (.int .i64 0) (.slice none 0 0)
    generalize (((((w6.setCell ⟨rb, 0, none⟩ (.int .i64 0)).setCell ⟨rb, 1, none⟩ (.int .i64 0)).setCell ⟨rb, 2, none⟩ (.int .i64 0)).setCell ⟨rb, 3, none⟩ (.int .i64 0)).setCell ⟨rb, 4, none⟩ (.slice none 0 0)) = wX at hX hGX ⊢
    have g0 := (hX.cell 0).trans rfl
    have g1 := (hX.cell 1).trans rfl
    have g2 := (hX.cell 2).trans rfl
    have g3 := (hX.cell 3).trans rfl
    have g4 := (hX.cell 4).trans rfl
    refine bodyPost_ret (v := .tuple #[.agg #[.int .i64 0, .int .i64 0, .int .i64 0, .int .i64 0, .slice none 0 0], .int .i64 12]) (by simp [results, Try.results34, go_sem, g0, g1, g2, g3, g4]) rfl ?_
    rw [HNo.out Hf.out]
    exact ⟨Or.inr ⟨by decide, rfl⟩, HN6.out.trans hGX (fun i hi h => by have := Hrb.out; omega)⟩
  rw [decide_eq_true (show 1 ≤ (u : Int) ∧ (u : Int) ≤ 4 by omega)]
  have Hx : Hid (formB S = decide (S = sectorB (shellB id u))) := by
    show _ = _
    rw [Hform.out, decide_eq_true Hi1.out, decide_eq_true hu1.1, decide_eq_true hu1.2]; simp
  clear hu1
  go_wp2_with fail
  with_reducible refine (laidShell_any id u w6 hid2 hu2).mono ?_
  rintro e w7 ⟨A7, c7, rfl, hO7, hN7⟩
  have HB7 := Lib.hid (HB6.out.keep hN7)
  have HN7 := Lib.hid (HN6.out.then_new hN7)
  have HX7 := Lib.hid (own_new HO6.out hN7)
  have HO7 := Lib.hid hO7
  clear hO7 hN7 r0 r1 r2 r3 r4 z0 z1 z2 z3 z4 HB6 HO6
  have hss : ∀ x ∈ shellB id u, x < 256 := by
    intro x hx
    simp only [shellB, List.mem_cons, List.not_mem_nil, or_false] at hx
    rcases hx with rfl | rfl | rfl | rfl | rfl <;> omega
  have HE : Hid (Calls Try.prog 65 #[.slice A 32 c, .slice A7 32 c7] w7 fun e w' => e = .returned (.bool (decide (S = sectorB (shellB id u)))) ∧ New w7 w') :=
    Equal_any A A7 32 c c7 (· < w7.heap.size) S _ w7 ((own_arr_bs HSl.out HX7.out).mono (own_below HX7.out)) ((own_arr_bs (sector_len _) HO7.out).mono (own_below HO7.out)) (fun k hk => hk) HSl.out (sector_len _) (by omega) HSs.out (sector_small _ hss)
  clear hss
  go_wp2_with fail
  with_reducible refine HE.out.mono ?_
  rintro e w8 ⟨rfl, hN8⟩
  have HB8 := Lib.hid (HB7.out.keep hN8)
  have HN8 := Lib.hid (HN7.out.then_new hN8)
  clear hN8
  rw [← Hx.out]
  clear Hx HE
  have r0 : w8.cell? ⟨rb, 0, none⟩ = some (.int .i64 0) := (HB8.out.cell 0).trans rfl
  have r1 : w8.cell? ⟨rb, 1, none⟩ = some (.int .i64 0) := (HB8.out.cell 1).trans rfl
  have r2 : w8.cell? ⟨rb, 2, none⟩ = some (.int .i64 0) := (HB8.out.cell 2).trans rfl
  have r3 : w8.cell? ⟨rb, 3, none⟩ = some (.int .i64 0) := (HB8.out.cell 3).trans rfl
  have r4 : w8.cell? ⟨rb, 4, none⟩ = some (.slice none 0 0) := (HB8.out.cell 4).trans rfl
  have z0 := HB8.out.free 0
  have z1 := HB8.out.free 1
  have z2 := HB8.out.free 2
  have z3 := HB8.out.free 3
  have z4 := HB8.out.free 4
  cases hf : formB S with
  | false =>
    go_wp2_with fail
    obtain ⟨hX, hGX⟩ := setV HB8.out (.int .i64 0) (.int .i64 0) (.int .i64 0) (.int .i64 0) (.slice none 0 0)
    generalize (((((w8.setCell ⟨rb, 0, none⟩ (.int .i64 0)).setCell ⟨rb, 1, none⟩ (.int .i64 0)).setCell ⟨rb, 2, none⟩ (.int .i64 0)).setCell ⟨rb, 3, none⟩ (.int .i64 0)).setCell ⟨rb, 4, none⟩ (.slice none 0 0)) = wX at hX hGX ⊢
    have g0 := (hX.cell 0).trans rfl
    have g1 := (hX.cell 1).trans rfl
    have g2 := (hX.cell 2).trans rfl
    have g3 := (hX.cell 3).trans rfl
    have g4 := (hX.cell 4).trans rfl
    refine bodyPost_ret (v := .tuple #[.agg #[.int .i64 0, .int .i64 0, .int .i64 0, .int .i64 0, .slice none 0 0], .int .i64 12]) (by simp [results, Try.results34, go_sem, g0, g1, g2, g3, g4]) rfl ?_
    rw [HNo.out hf]
    exact ⟨Or.inr ⟨by decide, rfl⟩, HN8.out.trans hGX (fun i hi h => by have := Hrb.out; omega)⟩
  | true =>
    go_wp2_with fail
    obtain ⟨hX, hGX⟩ := setV HB8.out (.int .i64 (id : Int)) (.int .i64 (u : Int)) (.int .i64 0) (.int .i64 0) (.slice none 0 0)
    generalize (((((w8.setCell ⟨rb, 0, none⟩ (.int .i64 (id : Int))).setCell ⟨rb, 1, none⟩ (.int .i64 (u : Int))).setCell ⟨rb, 2, none⟩ (.int .i64 0)).setCell ⟨rb, 3, none⟩ (.int .i64 0)).setCell ⟨rb, 4, none⟩ (.slice none 0 0)) = wX at hX hGX ⊢
    have g0 := (hX.cell 0).trans rfl
    have g1 := (hX.cell 1).trans rfl
    have g2 := (hX.cell 2).trans rfl
    have g3 := (hX.cell 3).trans rfl
    have g4 := (hX.cell 4).trans rfl
    refine bodyPost_ret (v := .tuple #[.agg #[.int .i64 (id : Int), .int .i64 (u : Int), .int .i64 0, .int .i64 0, .slice none 0 0], .int .i64 0]) (by simp [results, Try.results34, go_sem, g0, g1, g2, g3, g4]) rfl ?_
    rw [HYes.out hf, ← Hidu.out.1, ← Hidu.out.2]
    exact ⟨Or.inl ⟨rfl, rfl⟩, HN8.out.trans hGX (fun i hi h => by have := Hrb.out; omega)⟩
end Go.Proofs.Ytjkpijinpfimiaa
