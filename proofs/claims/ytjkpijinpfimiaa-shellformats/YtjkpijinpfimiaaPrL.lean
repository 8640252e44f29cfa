/-
  What the program's laid, laidShell and laidCopy do: sectors of fields, with their checksum.
-/
import Derived.Test.YtjkpijinpfimiaaPrA
import Derived.Test.YtjkpijinpfimiaaRefX
namespace Go.Proofs.Ytjkpijinpfimiaa
open Go.RowKit
theorem Seal_at (v : Value) (F : Nat → Prop) (bs : List Nat) (w : World) (hh : Nat) (he : w.heap.size = hh) (hv : Byts w F v bs) (hF : ∀ k, F k → k < w.heap.size) (hT : bs.length + 2 ≤ 140737488355328) :
    Calls Try.prog 81 #[.slice (some ⟨hh, 0, none⟩) 1 1] (w.alloc (.cells #[v] 22)) fun e w' => ∃ A' m c', e = .returned (.slice A' m c') ∧ m = bs.length + 2 ∧ w'.ownsRow w.heap.size 5 1 (.slice A' m c') m ((sealed bs).map bV) ∧ New w w' := by
  subst he
  refine (Seal_one w.heap.size v F bs _ (Has.new _ _ _) (hv.new ((Chg.refl _ _).alloc _) hF) (fun k hk => by have := hF k hk; simp; omega) hT).mono ?_
  rintro e w' ⟨A', m, c', rfl, hm, hO, hN⟩
  exact ⟨A', m, c', rfl, hm, own_base hO (fun k hk => by have := (hO.lt k hk).1; simp at this; omega), Chg.new_then ((Chg.refl _ _).alloc _) hN⟩
theorem Row.byts {w : World} {g n : Nat} {bs : List Nat} (h : Row w g bs) (hn : bs.length = n) (hb : ∀ x ∈ bs, x < 256) (hm : n ≤ 140737488355328) : Byts w (· = g) (.slice (some ⟨g, 0, none⟩) n n) bs := by
  subst hn
  exact ⟨_, _, rfl, h.arr rfl, (fun h => by cases h), hb, hm⟩
theorem own_has {w : World} {base g t size n : Nat} {cs : List Value} (h : Has w g t cs.toArray) (hs : cs.length = n * size) (hb : base ≤ g) (hm : n ≤ maxLen) : w.ownsRow base t size (.slice (some ⟨g, 0, none⟩) n n) n cs :=
  ⟨hs, Or.inr ⟨g, n, _, rfl, hb, h, Nat.le_refl _, hm, by simp [hs], by rw [List.take_of_length_le (by simp [hs])]⟩⟩
theorem Wrt.start (w : World) : Wrt (w.alloc (.cells #[.slice none 0 0, .int .i64 0] 129)) w.heap.size (.slice none 0 0) [] := Wr_zero w
set_option maxRecDepth 100000 in
set_option maxHeartbeats 1000000 in
theorem laid_any (A : Option Addr) (n c : Nat) (F : Nat → Prop) (l : Fl) (w : World) (hA : Flds w F A n (fldW l) (fldV l)) (hF : ∀ k, F k → k < w.heap.size) (hl : l.length = n) (hn : n ≤ 1000) (hok : flOk l) :
    Calls Try.prog 72 #[.slice A n c] w fun e w' => ∃ A' c', e = .returned (.slice A' 32 c') ∧ w'.ownsRow w.heap.size 5 1 (.slice A' 32 c') 32 ((sectorB (pack (flBits l))).map bV) ∧ New w w' := by
  have hbl : (flBits l).length ≤ 32 * n := by rw [← fl_bits, hl]; exact fbits_len _ _ _ (by rw [← hl]; exact fl_ok hok)
  have HP : Hid (∀ (wx : World) (b : Nat), Wrt wx b (.slice none 0 0) [] → New w wx → w.heap.size ≤ b → Calls Try.prog 80 #[.pointer (some ⟨b, 0, none⟩), .slice A n c] wx fun e w' => e = .returned (.int .i64 0) ∧ ∃ v', Wrt w' b v' (flBits l) ∧ Chg (· = b) wx w') := by
    intro wx b hW hN hb
    refine (Put_ok b F (.slice none 0 0) [] A n c (fldW l) (fldV l) wx hW (hA.chg hN (fun k hk => ⟨hF k hk, fun f => f⟩)) (fun k hk => ⟨Nat.lt_of_lt_of_le (hF k hk) hN.size, by have := hF k hk; omega, by simp [Value.ownBlock]⟩) (by simp only [List.length_nil]; omega) (by rw [← hl]; exact fl_ok hok)).mono ?_
    rintro e w' ⟨rfl, v', hW', hX⟩
    rw [List.nil_append, ← hl, fl_bits] at hW'
    exact ⟨rfl, v', hW', hX.1.mono (fun i _ h => by rcases h with h | h; exact h; simp [Value.ownBlock] at h)⟩
  have Hbl := Lib.hid hbl; clear hbl
  clear hA hF hok hl
  go_enter Try.func72, Try.ntmps72
  go_wp2_with fail
  have hW0 := Wrt.start w
  have hN0 : New w (w.alloc (.cells #[.slice none 0 0, .int .i64 0] 129)) := (Chg.refl _ _).alloc _
  with_reducible refine (HP.out _ _ hW0 hN0 (Nat.le_refl _)).mono ?_
  rintro e w2 ⟨rfl, v', hW2, hG2⟩
  have HW2 := Lib.hid hW2; clear hW2
  have HN2 : Hid (New w w2) := hN0.trans hG2 (fun i hi h => by omega)
  clear hW0 hN0 hG2
  go_wp2_with fail
  with_reducible refine (Bytes_any _ v' (flBits l) w2 HW2.out (by have := Hbl.out; omega)).mono ?_
  rintro e w3 ⟨A3, c3, rfl, hO3, hN3⟩
  have hps : ∀ x ∈ pack (flBits l), x < 256 := pack_mem _
  obtain ⟨P, hP⟩ : ∃ P, P = pack (flBits l) := ⟨_, rfl⟩
  rw [← hP] at hO3 hps ⊢
  have HPe := Lib.hid hP; clear hP
  obtain ⟨m, hm⟩ : ∃ m, m = P.length := ⟨_, rfl⟩
  rw [← hm] at hO3 ⊢
  have Hm := Lib.hid hm; clear hm
  have Hps := Lib.hid hps; clear hps
  have HA3 := Lib.hid (own_arr_bs Hm.out.symm hO3)
  have HF3 := Lib.hid (own_below hO3)
  have HN3 := Lib.hid (HN2.out.then_new hN3); clear hN3 hO3
  go_wp2_with fail
  with_reducible refine (padded_any A3 m c3 _ P 30 30 w3 HA3.out HF3.out Hm.out.symm rfl (by omega)).mono ?_
  rintro e w4 ⟨g4, rfl, Hg4, hR4, hN4⟩
  have HB4 := Lib.hid (hR4.byts (pad_len 30 P) (pad_small 30 P Hps.out) (by omega))
  have Hlt := Lib.hid hR4.lt
  have HN4 := Lib.hid (HN3.out.then_new hN4); clear hN4 hR4
  go_wp2_with fail
  with_reducible refine (Seal_at _ _ (pad 30 P) w4 _ rfl HB4.out (fun k hk => by rw [hk]; exact Hlt.out) (by rw [pad_len]; omega)).mono ?_
  rintro e w5 ⟨A5, m5, c5, rfl, hm5, hO5, hN5⟩
  obtain rfl : m5 = 32 := by rw [hm5, pad_len]
  have HO5 : Hid (w5.ownsRow w.heap.size 5 1 (.slice A5 32 c5) 32 ((sectorB P).map bV)) := own_base hO5 (fun k hk => Nat.le_trans HN4.out.size (hO5.lt k hk).1)
  have HN5 := Lib.hid (HN4.out.then_new hN5)
  clear hO5 hN5 hm5
  go_wp2_with fail
  go_ret
  exact ⟨A5, c5, rfl, by rw [← HPe.out]; exact HO5.out, HN5.out⟩
/-- fields in a block known whole -/
theorem Flds.of_has {w : World} {g : Nat} {t : TypeId} {l : Fl} {cs : Array Value} (h : Has w g t cs) (hc : cs = (flCells l).toArray) {n : Nat} (hl : l.length = n) : Flds w (· = g) (some ⟨g, 0, none⟩) n (fldW l) (fldV l) := by
  subst hl hc
  intro i hi
  obtain ⟨h1, h2⟩ := fcells_get (fldW l) (fldV l) l.length i hi
  rw [fl_cells] at h1 h2
  have hadd : (⟨g, 0, none⟩ : Addr).add (i * 2) = ⟨g, i * 2, none⟩ := by unfold Addr.add; split <;> simp_all
  refine ⟨_, rfl, rfl, ?_, ?_⟩
  · rw [hadd, h.cell]; simpa using h1
  · rw [hadd, Has.cell h]; simpa using h2
set_option maxRecDepth 100000 in
set_option maxHeartbeats 1000000 in
theorem laidShell_any (id u : Nat) (w : World) (h1 : id ≤ 65535) (h2 : u ≤ 255) :
    Calls Try.prog 52 #[.int .i64 (id : Int), .int .i64 (u : Int)] w fun e w' => ∃ A' c', e = .returned (.slice A' 32 c') ∧ w'.ownsRow w.heap.size 5 1 (.slice A' 32 c') 32 ((sectorB (shellB id u)).map bV) ∧ New w w' := by
  have H : Hid (∀ (wx : World) (b : Nat), Has wx b 118 #[.int .i64 16, .int .i64 17986, .int .i64 16, .int .i64 (id : Int), .int .i64 8, .int .i64 (u : Int)] → New w wx → Calls Try.prog 72 #[.slice (some ⟨b, 0, none⟩) 3 3] wx fun e w' => ∃ A' c', e = .returned (.slice A' 32 c') ∧ w'.ownsRow w.heap.size 5 1 (.slice A' 32 c') 32 ((sectorB (shellB id u)).map bV) ∧ New w w') := by
    intro wx b hB hN
    refine (laid_any (some ⟨b, 0, none⟩) 3 3 (· = b) (shF (id : Int) (u : Int)) wx (Flds.of_has hB rfl rfl) (fun k hk => by rw [hk]; exact hB.lt) rfl (by omega) (shF_ok (by omega) (by omega) (by omega) (by omega))).mono ?_
    rintro e w' ⟨A', c', rfl, hO, hN'⟩
    rw [shF_pack id u h1 h2] at hO
    exact ⟨A', c', rfl, own_base hO (fun k hk => Nat.le_trans hN.size (hO.lt k hk).1), hN.then_new hN'⟩
  clear h1 h2
  go_enter Try.func52, Try.ntmps52
  go_wp2_with fail
  with_reducible refine (H.out _ _ (Has.new w 118 _) ((Chg.refl _ _).alloc _)).mono ?_
  rintro e w1 ⟨A', c', rfl, hO, hN⟩
  have HO := Lib.hid hO; clear hO
  have HN := Lib.hid hN; clear hN
  go_wp2_with fail
  go_ret
  exact ⟨A', c', rfl, HO.out, HN.out⟩
theorem dirF_step (q : Int) (l : List En) (k : Nat) (e : En) (h : l[k]? = some e) : flCells ([(16, q), (8, (l.length : Int))] ++ (l.take (k + 1)).flatMap enF) = flCells ([(16, q), (8, (l.length : Int))] ++ (l.take k).flatMap enF) ++ [.int .i64 8, .int .i64 e.k, .int .i64 8, .int .i64 e.o, .int .i64 16, .int .i64 e.i, .int .i64 8, .int .i64 e.s] := by
  rw [List.take_add_one, h]
  unfold flCells
  rw [Option.toList_some, List.flatMap_append, List.flatMap_append, List.flatMap_append, List.flatMap_append, List.append_assoc]
  rfl
theorem Try.info118 : (Try.prog.info? 118).map (fun i => (i.zero, i.size, i.bytes)) = some (some (.agg #[.int .i64 0, .int .i64 0]), 2, 16) := by kernel_rfl
set_option maxRecDepth 100000 in
set_option maxHeartbeats 2000000 in
theorem laidCopy_any (q : Nat) (A : Option Addr) (n c : Nat) (F : Nat → Prop) (l : List En) (w : World) (hE : Ents w F A l) (hF : ∀ k, F k → k < w.heap.size) (hl : l.length = n) (hn : n ≤ 5) (hq : q ≤ 65535) (hg : ∀ e ∈ l, e.good) :
    Calls Try.prog 51 #[.int .i64 (q : Int), .slice A n c] w fun e w' => ∃ A' c', e = .returned (.slice A' 32 c') ∧ w'.ownsRow w.heap.size 5 1 (.slice A' 32 c') 32 ((sectorB (listB q l)).map bV) ∧ New w w' := by
  have HL : Hid (∀ (wx : World) (A1 : Option Addr) (m1 c1 : Nat), wx.ownsRow w.heap.size 118 2 (.slice A1 m1 c1) m1 (flCells (dirF (q : Int) l)) → m1 = 2 + 4 * n → New w wx → Calls Try.prog 72 #[.slice A1 m1 c1] wx fun e w' => ∃ A' c', e = .returned (.slice A' 32 c') ∧ w'.ownsRow w.heap.size 5 1 (.slice A' 32 c') 32 ((sectorB (listB q l)).map bV) ∧ New w w') := by
    intro wx A1 m1 c1 hO hm hN
    have hlen : (dirF (q : Int) l).length = m1 := by
      have h4 : ∀ l : List En, (l.flatMap enF).length = 4 * l.length := by
        intro l
        induction l with
        | nil => rfl
        | cons e l ih => rw [List.flatMap_cons, List.length_append, ih, List.length_cons]; simp [enF]; omega
      unfold dirF
      rw [List.length_append, h4, hl, hm]
      rfl
    have hO' := hO
    rw [← fl_cells, hlen] at hO'
    refine (laid_any A1 m1 c1 _ (dirF (q : Int) l) wx (Flds.of_own hO') (own_below hO) hlen (by omega) (dirF_ok (by omega) (by omega) (by omega) hg)).mono ?_
    rintro e w' ⟨A', c', rfl, hO, hN'⟩
    rw [dirF_pack q l hq (by omega) hg] at hO
    exact ⟨A', c', rfl, own_base hO (fun k hk => Nat.le_trans hN.size (hO.lt k hk).1), hN.then_new hN'⟩
  have HS := Lib.hid (dirF_step (q : Int) l)
  have HD : Hid (dirF (q : Int) l = [(16, (q : Int)), (8, (n : Int))] ++ l.flatMap enF) := by show _ = _; rw [← hl]; rfl
  rw [hl] at HS
  have HE := Lib.hid hE; clear hE
  have HF := Lib.hid hF; clear hF
  have Hl := Lib.hid hl; clear hl
  clear hg hq
  obtain ⟨i0, hi, hz0, hz1, hz2⟩ := info_parts Try.info118
  go_enter Try.func51, Try.ntmps51
  go_wp2_with fail
  obtain ⟨w1, hw1⟩ : ∃ w1, w1 = w.alloc (.cells #[.int .i64 16, .int .i64 (q : Int), .int .i64 8, .int .i64 (n : Int)] 118) := ⟨_, rfl⟩
  have HO1 : Hid (w1.ownsRow w.heap.size 118 2 (.slice (some ⟨w.heap.size, 0, none⟩) 2 2) 2 (flCells ([(16, (q : Int)), (8, (n : Int))] ++ (l.take 0).flatMap enF))) := by
    rw [hw1]
    exact own_has (cs := [.int .i64 16, .int .i64 (q : Int), .int .i64 8, .int .i64 (n : Int)]) (Has.new w 118 _) rfl (Nat.le_refl _) (by simp only [maxLen]; omega)
  have HN1 : Hid (New w w1) := by rw [hw1]; exact (Chg.refl _ _).alloc _
  rw [← hw1]
  clear hw1
  go_loopg [5, 16] n (fun gk v x wr => ∃ (k : Nat) (B : Option Addr) (m cb : Nat), k ≤ n ∧ gk = n - k ∧ v = .slice B m cb ∧ m = 2 + 4 * k ∧ x = .int .i64 k ∧ wr.ownsRow w.heap.size 118 2 (.slice B m cb) m (flCells ([(16, (q : Int)), (8, (n : Int))] ++ (l.take k).flatMap enF)) ∧ New w wr)
  case atStart => exact ⟨0, _, 2, 2, by omega, by omega, rfl, rfl, rfl, HO1.out, HN1.out⟩
  case round =>
    clear HO1 HN1
    obtain ⟨k, B, m, cb, hk, rfl, rfl, hm, rfl, hO, hN⟩ := hrel
    by_cases hlt : k < n
    · obtain ⟨e, he⟩ : ∃ e, l[k]? = some e := ⟨_, List.getElem?_eq_getElem (by rw [Hl.out]; exact hlt)⟩
      have Hst := Lib.hid (HS.out k e he)
      obtain ⟨a, rfl, hab, h0, h1, h2, h3⟩ := (HE.out.new hN HF.out) k e he
      obtain ⟨ek, hek⟩ : ∃ x, x = e.k := ⟨_, rfl⟩
      obtain ⟨eo, heo⟩ : ∃ x, x = e.o := ⟨_, rfl⟩
      obtain ⟨ei, hei⟩ : ∃ x, x = e.i := ⟨_, rfl⟩
      obtain ⟨es, hes⟩ : ∃ x, x = e.s := ⟨_, rfl⟩
      rw [← hek, ← heo, ← hei, ← hes] at Hst
      rw [← hek] at h0
      rw [← heo] at h1
      rw [← hei] at h2
      rw [← hes] at h3
      have HO := Lib.hid hO
      have HN := Lib.hid hN
      have Hm := Lib.hid hm
      have hm2 : m ≤ 22 := by omega
      clear hO hN he hek heo hei hes hm hab
      go_wp2_with (at_builtin; refine wpList_append_src rfl (.tmp 20) (.tmp 33) 119 rfl w.heap.size 118 i0 (.agg #[.int .i64 0, .int .i64 0]) 2 16 Try.underlying119 hi hz0 hz1 hz2 rfl (by decide) (.slice B m cb) m _ rfl (own_new HO.out (by with_reducible repeat (first | exact Chg.refl _ _ | refine Chg.alloc ?_ _ | refine Chg.drew ?_))) _ 4 4 [.int .i64 8, .int .i64 ek, .int .i64 8, .int .i64 eo, .int .i64 16, .int .i64 ei, .int .i64 8, .int .i64 es] rfl (by intro h; cases h) rfl (has_news (Has.new_at _ 118 _ _ (by simp))) ?c1 ?c2 ?c3 ?c4 ?_)
      case c1 => intro u hu; simp only [List.mem_cons, List.not_mem_nil, or_false] at hu; rcases hu with rfl | rfl | rfl | rfl | rfl | rfl | rfl | rfl <;> rfl
      case c2 => simp only [maxLen]; omega
      case c3 => omega
      case c4 => have := HN.out.size; simp; omega
      intro A3 c3 w3 hO3 hC3 _
      have HO3 : Hid (w3.ownsRow w.heap.size 118 2 (.slice A3 (m + 4) c3) (m + 4) (flCells ([(16, (q : Int)), (8, (n : Int))] ++ (l.take (k + 1)).flatMap enF))) := by rw [Hst.out]; exact hO3
      have HN3 : Hid (New w w3) := by
        exact ((HN.out.alloc _).alloc _).trans hC3 (fun i hi h => by have := (HO.out.lt i h).1; omega)
      clear hO3 hC3
      go_wp2_with fail
      go_roundg (n - (k + 1))
      case measure => omega
      case rel => exact ⟨k + 1, A3, m + 4, c3, by omega, rfl, rfl, by rw [Hm.out]; omega, by go_num, HO3.out, HN3.out⟩
    · obtain rfl : k = n := by omega
      have HO : Hid (wr.ownsRow w.heap.size 118 2 (.slice B m cb) m (flCells (dirF (q : Int) l))) := by
        have h := hO
        rw [List.take_of_length_le (by rw [Hl.out]; omega), ← HD.out] at h
        exact h
      have Hm := Lib.hid hm
      have HN := Lib.hid hN
      clear hO hm hN
      go_wp2_with fail
      with_reducible refine (HL.out wr B m cb HO.out Hm.out HN.out).mono ?_
      rintro e w1 ⟨A', c', rfl, hO, hN⟩
      have HO := Lib.hid hO; clear hO
      have HN := Lib.hid hN; clear hN
      go_wp2_with fail
      go_ret
      exact ⟨A', c', rfl, HO.out, HN.out⟩
end Go.Proofs.Ytjkpijinpfimiaa
