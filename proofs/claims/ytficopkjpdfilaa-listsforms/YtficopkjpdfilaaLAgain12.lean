/-
  The walk of ListsAgain: the same deltas again, older ones in between and doubled.
-/
import Derived.Test.YtficopkjpdfilaaLiS
import Derived.Test.YtficopkjpdfilaaLiT
namespace Go.Proofs.Ytficopkjpdfilaa
open Go.RowKit
open Go.ChangeShapes Go.WideShapes Go.ChangeAt Go.Joins
theorem open_numsz {H : Type} {enc : TypeId × Value → H} {W : World} {sp : Nat → Bool} {held : Bool} {A : Option Addr} {n c : Nat} {d : DataW H} {p : List MemPlace}
    (h : DataW.Trod enc Try.prog W 0 sp held 67 (.slice A n c) d p) (hw : ∀ n ∈ d.weights Try.prog 67, n ≤ reachBytes) : ∃ xs, Nums W A n c xs := by
  obtain ⟨fuel, hf⟩ := h
  obtain ⟨A', n', c', xs, he, hN⟩ := open_numsI (v := .slice A n c) (by simpa [Value.cells] using hf) hw
  simp only [Value.slice.injEq] at he
  obtain ⟨rfl, rfl, rfl⟩ := he
  exact ⟨xs, hN⟩
theorem Lst.other {w w' : World} {base g : Nat} {t : TypeId} {ver : Int} {L : List It} {g' : Nat} {t' : TypeId} {cs : Array Value} (h : Lst w base g t ver L) (h' : Has w g' t' cs) (hne : g ≠ g') (ht : 44 ≠ t') (c : Chg (· = g') w w') : Lst w' base g t ver L :=
  h.chg c hne fun _ _ hk e => absurd e (Has.apart hk h' ht)
theorem Lst.box {w : World} {base g : Nat} {t : TypeId} {ver : Int} {L : List It} (h : Lst w base g t ver L) : ∃ cs, Has w g t cs := by
  obtain ⟨v, h1, _⟩ := h.ex
  exact ⟨_, h1⟩
/-- a delta's place in a slice, behind what was made since -/
theorem DelAt.new {W w : World} {A : Option Addr} {i : Nat} {d : De} (h : DelAt W A i d) (hN : New W w) : ∃ a B m ca D p co, A = some a ∧ w.cell? (a.add (i * 3)) = some (.int .i64 d.to_) ∧ w.cell? ⟨(a.add (i * 3)).block, (a.add (i * 3)).off + 1, none⟩ = some (.slice B m ca) ∧ w.cell? ⟨(a.add (i * 3)).block, (a.add (i * 3)).off + 2, none⟩ = some (.slice D p co) ∧ ItsN W B m ca d.add ∧ ItsN W D p co d.off := by
  obtain ⟨a, B, m, ca, D, p, co, rfl, hb, h0, h1, h2, h3, h4⟩ := h
  have hb1 : (a.add (i * 3)).block < W.heap.size := by rw [add_block]; exact hb
  exact ⟨a, B, m, ca, D, p, co, rfl, (hN.cell hb1 (fun f => f)).trans h0, (hN.cell (p := ⟨(a.add (i * 3)).block, _, none⟩) hb1 (fun f => f)).trans h1, (hN.cell (p := ⟨(a.add (i * 3)).block, _, none⟩) hb1 (fun f => f)).trans h2, h3, h4⟩
/-- the place of an older delta -/
theorem old_at (z : Int) (i : Nat) (hi : i < 30) : ∃ (r : Int) (j : Nat), Int.tmod z ((i : Int) + 1) = r ∧ wrap64 (r + (i : Int)) = r + (i : Int) ∧ wrap64 (r + (i : Int) + 1) = r + (i : Int) + 1 ∧ Int.tmod (r + (i : Int) + 1) ((i : Int) + 1) = (j : Int) ∧ j ≤ i := by
  have h1 : Int.tmod z ((i : Int) + 1) < (i : Int) + 1 := Int.tmod_lt_of_pos _ (by omega)
  have h2 : -((i : Int) + 1) < Int.tmod z ((i : Int) + 1) := Int.lt_tmod_of_pos z (by omega)
  have h4 := Int.emod_nonneg (Int.tmod z ((i : Int) + 1) + (i : Int) + 1) (show (i : Int) + 1 ≠ 0 by omega)
  have h5 := Int.emod_lt_of_pos (Int.tmod z ((i : Int) + 1) + (i : Int) + 1) (show (0 : Int) < (i : Int) + 1 by omega)
  refine ⟨_, ((Int.tmod z ((i : Int) + 1) + (i : Int) + 1) % ((i : Int) + 1)).toNat, rfl, by unfold wrap64; omega, by unfold wrap64; omega, ?_, by omega⟩
  rw [Int.tmod_eq_emod_of_nonneg (by omega)]
  omega
/-- an older version -/
theorem old_to (z : Int) (q : Nat) (hb : q ≤ 31) : ∃ (r s : Int), Int.tmod z ((q : Int) + 1) = r ∧ wrap64 (r + ((q : Int) + 1)) = r + ((q : Int) + 1) ∧ Int.tmod (r + ((q : Int) + 1)) ((q : Int) + 1) = s ∧ wrap64 (1 + s) = 1 + s ∧ 1 + s ≤ (q : Int) + 1 := by
  have h1 : Int.tmod z ((q : Int) + 1) < (q : Int) + 1 := Int.tmod_lt_of_pos _ (by omega)
  have h2 : -((q : Int) + 1) < Int.tmod z ((q : Int) + 1) := Int.lt_tmod_of_pos z (by omega)
  have h4 := Int.emod_nonneg (Int.tmod z ((q : Int) + 1) + ((q : Int) + 1)) (show (q : Int) + 1 ≠ 0 by omega)
  have h5 := Int.emod_lt_of_pos (Int.tmod z ((q : Int) + 1) + ((q : Int) + 1)) (show (0 : Int) < (q : Int) + 1 by omega)
  have h6 : Int.tmod (Int.tmod z ((q : Int) + 1) + ((q : Int) + 1)) ((q : Int) + 1) = (Int.tmod z ((q : Int) + 1) + ((q : Int) + 1)) % ((q : Int) + 1) := Int.tmod_eq_emod_of_nonneg (by omega)
  exact ⟨_, _, rfl, by unfold wrap64; omega, rfl, by rw [h6]; unfold wrap64; omega, by rw [h6]; omega⟩
theorem old_at' (z : Int) (i : Nat) (hi : i < 30) : ∃ (r : Int) (j : Nat), (Int.tmod z ((i : Int) + 1) = r ∧ wrap64 (r + (i : Int)) = r + (i : Int) ∧ wrap64 (r + (i : Int) + 1) = r + (i : Int) + 1 ∧ Int.tmod (r + (i : Int) + 1) ((i : Int) + 1) = (j : Int)) ∧ j ≤ i := by
  obtain ⟨r, j, h1, h2, h3, h4, h5⟩ := old_at z i hi
  exact ⟨r, j, ⟨h1, h2, h3, h4⟩, h5⟩
theorem old_to' (z : Int) (q : Nat) (hb : q ≤ 31) : ∃ (r s : Int), (Int.tmod z ((q : Int) + 1) = r ∧ wrap64 (r + ((q : Int) + 1)) = r + ((q : Int) + 1) ∧ Int.tmod (r + ((q : Int) + 1)) ((q : Int) + 1) = s ∧ wrap64 (1 + s) = 1 + s) ∧ 1 + s ≤ (q : Int) + 1 := by
  obtain ⟨r, s, h1, h2, h3, h4, h5⟩ := old_to z q hb
  exact ⟨r, s, ⟨h1, h2, h3, h4⟩, h5⟩
theorem wrap_q (q : Nat) (hb : q ≤ 31) : wrap64 ((q : Int) + 1 + 2) = (q : Int) + 1 + 2 := by unfold wrap64; omega
/-- two rows in memory, for one block predicate -/
def Own2 (w : World) (base : Nat) (A1 : Option Addr) (m c1 : Nat) (A2 : Option Addr) (p c2 : Nat) (add off : List It) : Prop := w.ownsRow base 44 5 (.slice A1 m c1) m (ics add) ∧ w.ownsRow base 44 5 (.slice A2 p c2) p (ics off)
theorem Own2.chg {w w' : World} {base m c1 p c2 g : Nat} {t : TypeId} {cs : Array Value} {A1 A2 : Option Addr} {add off : List It} (h : Own2 w base A1 m c1 A2 p c2 add off) (hg : Has w g t cs) (ht : 44 ≠ t) (c : Chg (· = g) w w') : Own2 w' base A1 m c1 A2 p c2 add off :=
  ⟨own_chg h.1 c (fun k hk e => own_apart h.1 hg ht (by rw [hk]; exact congrArg some e)), own_chg h.2 c (fun k hk e => own_apart h.2 hg ht (by rw [hk]; exact congrArg some e))⟩
theorem Own2.new {w w' : World} {base m c1 p c2 : Nat} {A1 A2 : Option Addr} {add off : List It} (h : Own2 w base A1 m c1 A2 p c2 add off) (c : New w w') : Own2 w' base A1 m c1 A2 p c2 add off := ⟨own_new h.1 c, own_new h.2 c⟩
/-- Apply of a delta of the call's own -/
theorem hot_own (base g : Nat) (ver : Int) (L add off : List It) (A1 A2 : Option Addr) (b2 m p c1 c2 : Nat) (tv : Int) (w : World) (hL : Lst w base g 30 ver L) (h64 : L.length ≤ 64) (hbs : base ≤ w.heap.size) (hv0 : 0 ≤ ver) (hv1 : ver ≤ 4611686018427387904) (hO : Own2 w b2 A1 m c1 A2 p c2 add off) (hmb : m ≤ 3518437208880) (hpb : p ≤ 3518437208880) :
    Calls Try.prog 10 #[.pointer (some ⟨g, 0, none⟩), .agg #[.int .i64 tv, .slice A1 m c1, .slice A2 p c2]] w fun e w' => e = .returned (.int .i64 (appE false ver L tv add off)) ∧ Lst w' base g 30 (appV false ver L tv add off) (appL false ver L tv add off) ∧ Chg (· = g) w w' :=
  (HotApply_any base g ver L add off A1 A2 m p c1 c2 tv (fun k => Value.ownBlock (.slice A1 m c1) = some k ∨ Value.ownBlock (.slice A2 p c2) = some k) w hL h64 hbs hv0 hv1 ((Its.of_own hO.1).mono fun _ hk => Or.inl hk) ((Its.of_own hO.2).mono fun _ hk => Or.inr hk) (fun k hk => hk.elim (own_lt hO.1 k) (own_lt hO.2 k)) (own_items hO.1) (own_items hO.2) hmb hpb).mono fun _ _ h => h.parts (Chg.refl _ _)
set_option maxRecDepth 100000 in
set_option maxHeartbeats 16000000 in
theorem again12_walk (A : Option Addr) (n c : Nat) {W : World} (hz : (∃ f, Dels W A n f) ∧ n ≤ 1000000000000000000) (O : Option Addr) (on oc : Nat) (ho : ∃ xs, Nums W O on oc xs) :
    Calls Try.prog 5 #[.slice A n c, .slice O on oc] W fun e w' => e = .returned (.bool true) ∧ New W w' := by
  obtain ⟨⟨f, hf⟩, hnb⟩ := hz
  obtain ⟨xs, hxl, hxa, hxn, hxb⟩ := ho
  have HD := Lib.hid hf; clear hf
  have HX := Lib.hid hxa; clear hxa
  have HA0 := Lib.hid (awake12_any W)
  clear hxl hxn
  go_enter Try.func5, Try.ntmps5
  go_wp2_with fail
  with_reducible refine HA0.out.mono ?_
  rintro e w0 ⟨rfl, hN0⟩
  have hLa : Lst ((w0.alloc (.cells #[.int .i64 0, .slice none 0 0] 30)).alloc (.cells #[.int .i64 0, .slice none 0 0] 30)) W.heap.size w0.heap.size 30 0 [] := ⟨_, (Has.new _ _ _).alloc _, nil_own _ _⟩
  have hLb : Lst ((w0.alloc (.cells #[.int .i64 0, .slice none 0 0] 30)).alloc (.cells #[.int .i64 0, .slice none 0 0] 30)) W.heap.size (w0.heap.size + 1) 30 0 [] := ⟨_, Has.new_at _ _ _ _ (by simp), nil_own _ _⟩
  have hN2 : New W ((w0.alloc (.cells #[.int .i64 0, .slice none 0 0] 30)).alloc (.cells #[.int .i64 0, .slice none 0 0] 30)) := (hN0.alloc _).alloc _
  obtain ⟨ga, hga⟩ : ∃ g, g = w0.heap.size := ⟨_, rfl⟩
  obtain ⟨gb, hgb⟩ : ∃ g, g = w0.heap.size + 1 := ⟨_, rfl⟩
  have hgW : W.heap.size ≤ ga := by rw [hga]; exact hN0.size
  have hgW2 : W.heap.size ≤ gb := by rw [hgb]; exact Nat.le_succ_of_le hN0.size
  have hab : ga ≠ gb := by rw [hga, hgb]; omega
  have Hab := Lib.hid hab; clear hab
  have HgW := Lib.hid hgW; clear hgW
  have HgW2 := Lib.hid hgW2; clear hgW2
  go_upto_block 0 with (fail)
  rw [← hgb, ← hga]
  rw [← hga] at hLa
  rw [← hgb] at hLb
  generalize (w0.alloc (.cells #[.int .i64 0, .slice none 0 0] 30)).alloc (.cells #[.int .i64 0, .slice none 0 0] 30) = w2 at hLa hLb hN2 ⊢
  have HLa0 := Lib.hid hLa; clear hLa
  have HLb0 := Lib.hid hLb; clear hLb
  have HN20 := Lib.hid hN2; clear hN2
  clear hga hgb hN0
  go_cut [7] (fun s7 wc => ∃ (q : Nat) (L : List It), s7 = .int .i64 q ∧ q ≤ 30 ∧ L.length ≤ 64 ∧ Lst wc W.heap.size ga 30 q L ∧ Lst wc W.heap.size gb 30 q L ∧ New W wc)
  case first =>
   go_wp2_with fail
   go_loopg [8, 7] n (fun gk i s7 wr => ∃ (k q : Nat) (L : List It), k ≤ n ∧ gk = n - k ∧ i = .int .i64 k ∧ s7 = .int .i64 q ∧ q ≤ k ∧ k ≤ 30 ∧ L.length ≤ 64 ∧ Lst wr W.heap.size ga 30 q L ∧ Lst wr W.heap.size gb 30 q L ∧ New W wr)
   case atStart => exact ⟨0, 0, [], by omega, by omega, rfl, rfl, by omega, by omega, by simp, HLa0.out, HLb0.out, HN20.out⟩
   case round =>
     clear HLa0 HLb0 HN20
     obtain ⟨i, q, L, hi, rfl, rfl, rfl, hq, hi30, hL, hLa, hLb, hN⟩ := hrel
     obtain ⟨w9, hw9⟩ : ∃ w9, w9 = wr := ⟨_, rfl⟩
     rw [← hw9] at hLa hLb hN ⊢
     clear hw9
     have HLa := Lib.hid hLa; clear hLa
     have HLb := Lib.hid hLb; clear hLb
     have HN := Lib.hid hN; clear hN
     have HL := Lib.hid hL; clear hL
     by_cases hlt : i < n
     case neg =>
       obtain rfl : i = n := by omega
       have t1 : decide ((i : Int) < (i : Int)) = false := decide_eq_false (by omega)
       go_wp2_with fail
       go_meet
       exact ⟨q, L, rfl, by omega, HL.out, HLa.out, HLb.out, HN.out⟩
     by_cases h30 : i < 30
     case neg =>
       obtain rfl : i = 30 := by omega
       have t1 : decide (((30 : Nat) : Int) < (n : Int)) = true := decide_eq_true (by omega)
       go_wp2_with fail
       go_meet
       exact ⟨q, L, rfl, by omega, HL.out, HLa.out, HLb.out, HN.out⟩
     obtain ⟨a, B, m, ca, D, p, co, rfl, d0, d1, d2, hB, hD⟩ := (HD.out i hlt).new HN.out
     obtain ⟨tv, htv⟩ : ∃ t, t = (f i).to_ := ⟨_, rfl⟩
     rw [← htv] at d0
     clear htv
     have HC := Lib.hid (copied_any (f i).add (f i).off B D m p ca co tv (· < W.heap.size) w9 (hB.2.1.new HN.out (fun k h => h)) (hD.2.1.new HN.out (fun k h => h)) (fun k hk => Nat.lt_of_lt_of_le hk HN.out.size) hB.1 hD.1 (by have := hB.2.2.2; omega) (by have := hD.2.2.2; omega) hB.2.2.1 hD.2.2.1)
     have Hmb := Lib.hid (And.intro hB.2.2.2 hD.2.2.2)
     have Hml := Lib.hid (And.intro hB.1 hD.1)
     clear hB hD
     go_wp2_with fail
     with_reducible refine HC.out.mono ?_
     rintro e w10 ⟨A1, c1, A2, c2, rfl, hO1, hO2, hN10⟩
     have HO10 : Hid (Own2 w10 W.heap.size A1 m c1 A2 p c2 (f i).add (f i).off) := ⟨own_base hO1 (fun k hk => Nat.le_trans HN.out.size (own_ge hO1 k hk)), own_base hO2 (fun k hk => Nat.le_trans HN.out.size (own_ge hO2 k hk))⟩
     obtain ⟨w11, hw11⟩ : ∃ w, w = w10.alloc (.cells #[.int .i64 tv, .slice A1 m c1, .slice A2 p c2] 37) := ⟨_, rfl⟩
     have hNa : New w10 w11 := by rw [hw11]; exact (Chg.refl _ _).alloc _
     have hX9 : Has w11 w10.heap.size 37 #[.int .i64 tv, .slice A1 m c1, .slice A2 p c2] := by rw [hw11]; exact Has.new _ _ _
     obtain ⟨g9, hg9⟩ : ∃ g, g = w10.heap.size := ⟨_, rfl⟩
     rw [← hg9] at hX9
     have hg9W : W.heap.size ≤ g9 := by rw [hg9]; exact Nat.le_trans HN.out.size hN10.size
     have HX11 := Lib.hid hX9; clear hX9
     have HO11 := Lib.hid (HO10.out.new hNa)
     have HLa11 := Lib.hid (HLa.out.new (hN10.then_new hNa))
     have HLb11 := Lib.hid (HLb.out.new (hN10.then_new hNa))
     have HN11 := Lib.hid (HN.out.then_new (hN10.then_new hNa))
     have Hg9W := Lib.hid hg9W; clear hg9W hO1 hO2 hN10 hNa d0 d1 d2
     have HV := Lib.hid (Version_any ga 30 q L W.heap.size w11 HLa11.out)
     go_wp2_with fail
     rw [← hw11, ← hg9]
     with_reducible refine HV.out.mono ?_
     rintro e w12 ⟨rfl, hN12⟩
     have HX12 := Lib.hid (HX11.out.keep hN12)
     have HO12 := Lib.hid (HO11.out.new hN12)
     have HLa12 := Lib.hid (HLa11.out.new hN12)
     have HLb12 := Lib.hid (HLb11.out.new hN12)
     have HN12 := Lib.hid (HN11.out.then_new hN12)
     clear hN12 hw11 hg9 HC HV
     have x9 := HX12.out.lt
     have e0 : w12.cell? ⟨g9, 0, none⟩ = some (.int .i64 tv) := (HX12.out.cell 0).trans rfl
     have e1 : w12.cell? ⟨g9, 1, none⟩ = some (.slice A1 m c1) := (HX12.out.cell 1).trans rfl
     have e2 : w12.cell? ⟨g9, 2, none⟩ = some (.slice A2 p c2) := (HX12.out.cell 2).trans rfl
     have z0 := HX12.out.free 0
     obtain ⟨w13, hw13⟩ : ∃ w, w = w12.setCell ⟨g9, 0, none⟩ (.int .i64 ((q : Int) + 1)) := ⟨_, rfl⟩
     have hC13 : Chg (· = g9) w12 w13 := by rw [hw13]; exact Chg.setCell (S := (· = g9)) (p := ⟨g9, 0, none⟩) (Chg.refl _ _) (fun _ => rfl) _
     have hX13 : Has w13 g9 37 #[.int .i64 ((q : Int) + 1), .slice A1 m c1, .slice A2 p c2] := by rw [hw13]; exact HX12.out.set 0 _
     have HX13 := Lib.hid hX13; clear hX13
     have HO13 := Lib.hid (HO12.out.chg HX12.out (by decide) hC13)
     have HLa13 : Hid (Lst w13 W.heap.size ga 30 q L) := by
       obtain ⟨cs, hcs⟩ := HLa12.out.box
       exact HLa12.out.other HX12.out (Has.apart hcs HX12.out (by decide)) (by decide) hC13
     have HLb13 : Hid (Lst w13 W.heap.size gb 30 q L) := by
       obtain ⟨cs, hcs⟩ := HLb12.out.box
       exact HLb12.out.other HX12.out (Has.apart hcs HX12.out (by decide)) (by decide) hC13
     have HN13 : Hid (New W w13) := New.set HN12.out hC13 Hg9W.out
     clear hC13
     have HAp := Lib.hid (hot_own W.heap.size ga q L (f i).add (f i).off A1 A2 W.heap.size m p c1 c2 ((q : Int) + 1) w13 HLa13.out HL.out HN13.out.size (by omega) (by omega) HO13.out (by have := Hmb.out.1; omega) (by have := Hmb.out.2; omega))
     obtain ⟨E, hE⟩ : ∃ E, E = appE false q L ((q : Int) + 1) (f i).add (f i).off := ⟨_, rfl⟩
     rw [← hE] at HAp
     have HE := Lib.hid hE; clear hE
     go_wp2_with fail
     rw [← hw13]
     with_reducible refine HAp.out.mono ?_
     rintro e w14 ⟨rfl, hLa14, hC14⟩
     obtain ⟨ca, hca⟩ := HLa13.out.box
     have HX14 := Lib.hid (HX13.out.chg hC14 (Has.apart HX13.out hca (by decide)))
     have HO14 := Lib.hid (HO13.out.chg hca (by decide) hC14)
     have HLb14 := Lib.hid (HLb13.out.other hca (fun e => Hab.out e.symm) (by decide) hC14)
     have HN14 : Hid (New W w14) := New.set HN13.out hC14 HgW.out
     clear hca hC14 hw13 e0 e1 e2 z0 x9
     by_cases hE0 : E = 0
     case neg =>
       obtain ⟨hv, hl⟩ := @app_none false q L ((q : Int) + 1) (f i).add (f i).off (by rw [← HE.out]; exact hE0)
       rw [hv, hl] at hLa14
       have HLa14 := Lib.hid hLa14; clear hLa14 hv hl
       have t1 : (E != 0) = true := bne_iff_ne.2 hE0
       clear hE0
       go_wp2_with fail
       go_roundg (n - (i + 1))
       case measure => omega
       case rel => exact ⟨i + 1, q, L, by omega, rfl, by go_num, rfl, by omega, by omega, HL.out, HLa14.out, HLb14.out, HN14.out⟩
     subst hE0
     obtain ⟨hv, hl, _, _, _, hl64⟩ := @app_some false q L ((q : Int) + 1) (f i).add (f i).off HE.out.symm
     rw [hv, hl] at hLa14
     obtain ⟨M, hM⟩ : ∃ M, M = nextI L (f i).add (f i).off := ⟨_, rfl⟩
     rw [← hM] at hLa14 hl64 hl
     have HLa14 := Lib.hid hLa14; clear hLa14
     have HM := Lib.hid hl64; clear hl64
     have HB1 := Lib.hid (hot_own W.heap.size gb q L (f i).add (f i).off A1 A2 W.heap.size m p c1 c2 ((q : Int) + 1) w14 HLb14.out HL.out HN14.out.size (by omega) (by omega) HO14.out (by have := Hmb.out.1; omega) (by have := Hmb.out.2; omega))
     rw [← HE.out, hv, hl] at HB1
     clear hv hl hM
     have x14 := HX14.out.lt
     have e0 : w14.cell? ⟨g9, 0, none⟩ = some (.int .i64 ((q : Int) + 1)) := (HX14.out.cell 0).trans rfl
     have e1 : w14.cell? ⟨g9, 1, none⟩ = some (.slice A1 m c1) := (HX14.out.cell 1).trans rfl
     have e2 : w14.cell? ⟨g9, 2, none⟩ = some (.slice A2 p c2) := (HX14.out.cell 2).trans rfl
     go_wp2_with fail
     with_reducible refine HB1.out.mono ?_
     rintro e w15 ⟨rfl, hLb15, hC15⟩
     obtain ⟨cb, hcb⟩ := HLb14.out.box
     have HX15 := Lib.hid (HX14.out.chg hC15 (Has.apart HX14.out hcb (by decide)))
     have HO15 := Lib.hid (HO14.out.chg hcb (by decide) hC15)
     have HLa15 := Lib.hid (HLa14.out.other hcb Hab.out (by decide) hC15)
     have HLb15 := Lib.hid hLb15
     have HN15 : Hid (New W w15) := New.set HN14.out hC15 HgW2.out
     clear hcb hC15 hLb15 e0 e1 e2 x14
     have HB2 := Lib.hid (hot_own W.heap.size gb ((q : Int) + 1) M (f i).add (f i).off A1 A2 W.heap.size m p c1 c2 ((q : Int) + 1) w15 HLb15.out HM.out HN15.out.size (by omega) (by omega) HO15.out (by have := Hmb.out.1; omega) (by have := Hmb.out.2; omega))
     have hE31 : appE false ((q : Int) + 1) M ((q : Int) + 1) (f i).add (f i).off = 31 := appE_old (Int.le_refl _)
     obtain ⟨hv, hl⟩ := @app_none false ((q : Int) + 1) M ((q : Int) + 1) (f i).add (f i).off (by rw [hE31]; decide)
     rw [hE31, hv, hl] at HB2
     clear hE31 hv hl
     have x15 := HX15.out.lt
     have e0 : w15.cell? ⟨g9, 0, none⟩ = some (.int .i64 ((q : Int) + 1)) := (HX15.out.cell 0).trans rfl
     have e1 : w15.cell? ⟨g9, 1, none⟩ = some (.slice A1 m c1) := (HX15.out.cell 1).trans rfl
     have e2 : w15.cell? ⟨g9, 2, none⟩ = some (.slice A2 p c2) := (HX15.out.cell 2).trans rfl
     go_wp2_with fail
     with_reducible refine HB2.out.mono ?_
     rintro e w16 ⟨rfl, hLb16, hC16⟩
     obtain ⟨cb, hcb⟩ := HLb15.out.box
     have HLa16 := Lib.hid (HLa15.out.other hcb Hab.out (by decide) hC16)
     have HLb16 := Lib.hid hLb16
     have HN16 : Hid (New W w16) := New.set HN15.out hC16 HgW2.out
     clear hcb hC16 hLb16 e0 e1 e2 x15
     clear HX11 HX12 HX13 HX14 HX15 HO10 HO11 HO12 HO13 HO14 HO15 HLa HLb HLa11 HLb11 HLa12 HLb12 HLa13 HLb13 HLa14 HLb14 HLa15 HLb15 HAp HB1 HB2 HN HN11 HN12 HN13 HN14 HN15 HE
     go_wp2_with fail
     go_loopg [10] 5 (fun gk s wr => ∃ k : Nat, k ≤ 5 ∧ gk = 5 - k ∧ s = .int .i64 k ∧ Lst wr W.heap.size ga 30 ((q : Int) + 1) M ∧ Lst wr W.heap.size gb 30 ((q : Int) + 1) M ∧ New W wr)
     case atStart => exact ⟨0, by omega, by omega, rfl, HLa16.out, HLb16.out, HN16.out⟩
     case round =>
       clear HLa16 HLb16 HN16
       obtain ⟨k, hk, rfl, rfl, hLa, hLb, hN⟩ := hrel
       have HLa := Lib.hid hLa; clear hLa
       have HLb := Lib.hid hLb; clear hLb
       have HN := Lib.hid hN; clear hN
       by_cases hk1 : k < on
       case neg =>
         have t1 : decide ((k : Int) < (on : Int)) = false := decide_eq_false (by omega)
         go_wp2_with fail
         go_roundg (n - (i + 1))
         case measure => omega
         case rel => exact ⟨i + 1, q + 1, M, by omega, rfl, by go_num, rfl, by omega, by omega, HM.out, HLa.out, HLb.out, HN.out⟩
       by_cases hk2 : k < 5
       case neg =>
         have t2 : decide ((k : Int) < 5) = false := decide_eq_false (by omega)
         go_wp2_with fail
         go_roundg (n - (i + 1))
         case measure => omega
         case rel => exact ⟨i + 1, q + 1, M, by omega, rfl, by go_num, rfl, by omega, by omega, HM.out, HLa.out, HLb.out, HN.out⟩
       obtain ⟨ax, hax, _, a0⟩ := (HX.out.new HN.out (fun _ h => h)) k hk1
       subst hax
       simp only [iV] at a0
       obtain ⟨z, hz⟩ : ∃ z, z = xs.getD k 0 := ⟨_, rfl⟩
       rw [← hz] at a0
       have hz1 : iV (xs.getD k 0) = .int .i64 z := by rw [iV, ← hz]
       clear hz
       have hq31 : q ≤ 31 := by omega
       obtain ⟨r1, j, hM1, hji⟩ := old_at' z i h30
       obtain ⟨r2, s2, hM2, hs2⟩ := old_to' z q hq31
       have HM1 := Lib.hid hM1; clear hM1
       have HM2 := Lib.hid hM2; clear hM2
       have HWQ := Lib.hid (wrap_q q hq31)
       obtain ⟨a', B, m, ca, D, p, co, ha', d0, d1, d2, hB, hD⟩ := (HD.out j (by omega)).new HN.out
       simp only [Option.some.injEq] at ha'
       subst ha'
       obtain ⟨tv, htv⟩ : ∃ t, t = (f j).to_ := ⟨_, rfl⟩
       rw [← htv] at d0
       clear htv
       have HC := Lib.hid (copied_any (f j).add (f j).off B D m p ca co tv (· < W.heap.size) wr (hB.2.1.new HN.out (fun k h => h)) (hD.2.1.new HN.out (fun k h => h)) (fun k hk => Nat.lt_of_lt_of_le hk HN.out.size) hB.1 hD.1 (by have := hB.2.2.2; omega) (by have := hD.2.2.2; omega) hB.2.2.1 hD.2.2.1)
       have Hmb := Lib.hid (And.intro hB.2.2.2 hD.2.2.2)
       clear hB hD
       have q1 : ¬ (i : Int) + 1 = 0 := by omega
       have q2 : ¬ (q : Int) + 1 = 0 := by omega
       have hjn : j < n := by omega
       obtain ⟨m1, m2, m3, m4⟩ := HM1.out
       go_wp2_with fail
       clear m1 m2 m3 m4
       with_reducible refine HC.out.mono ?_
       rintro e w10 ⟨A1, c1, A2, c2, rfl, hO1, hO2, hN10⟩
       have HO10 : Hid (Own2 w10 W.heap.size A1 m c1 A2 p c2 (f j).add (f j).off) := ⟨own_base hO1 (fun k hk => Nat.le_trans HN.out.size (own_ge hO1 k hk)), own_base hO2 (fun k hk => Nat.le_trans HN.out.size (own_ge hO2 k hk))⟩
       obtain ⟨w11, hw11⟩ : ∃ w, w = w10.alloc (.cells #[.int .i64 tv, .slice A1 m c1, .slice A2 p c2] 37) := ⟨_, rfl⟩
       have hNa : New w10 w11 := by rw [hw11]; exact (Chg.refl _ _).alloc _
       have hX9 : Has w11 w10.heap.size 37 #[.int .i64 tv, .slice A1 m c1, .slice A2 p c2] := by rw [hw11]; exact Has.new _ _ _
       obtain ⟨g8, hg8⟩ : ∃ g, g = w10.heap.size := ⟨_, rfl⟩
       rw [← hg8] at hX9
       have hg8W : W.heap.size ≤ g8 := by rw [hg8]; exact Nat.le_trans HN.out.size hN10.size
       have HX11 := Lib.hid hX9; clear hX9
       have HO11 := Lib.hid (HO10.out.new hNa)
       have HLa11 := Lib.hid (HLa.out.new (hN10.then_new hNa))
       have HLb11 := Lib.hid (HLb.out.new (hN10.then_new hNa))
       have HN11 := Lib.hid (HN.out.then_new (hN10.then_new hNa))
       have HX0 := Lib.hid ((HX.out.new HN11.out (fun _ h => h)) k hk1)
       have Hg8W := Lib.hid hg8W; clear hg8W hO1 hO2 hN10 hNa d0 d1 d2 a0
       go_upto_region 18 with (fail)
       rw [← hw11, ← hg8]
       obtain ⟨ax', hax', hab, a9⟩ := HX0.out
       simp only [Option.some.injEq] at hax'
       subst hax'
       have a0 : w11.cell? (ax.add k) = some (.int .i64 z) := by rw [a9]; exact congrArg some hz1
       have x8 := HX11.out.lt
       have e0 : w11.cell? ⟨g8, 0, none⟩ = some (.int .i64 tv) := (HX11.out.cell 0).trans rfl
       have e1 : w11.cell? ⟨g8, 1, none⟩ = some (.slice A1 m c1) := (HX11.out.cell 1).trans rfl
       have e2 : w11.cell? ⟨g8, 2, none⟩ = some (.slice A2 p c2) := (HX11.out.cell 2).trans rfl
       have z0 := HX11.out.free 0
       clear hw11 hg8 hab a9
       obtain ⟨w12, hw12⟩ : ∃ w, w = w11.setCell ⟨g8, 0, none⟩ (.int .i64 (1 + s2)) := ⟨_, rfl⟩
       have hC12 : Chg (· = g8) w11 w12 := by rw [hw12]; exact Chg.setCell (S := (· = g8)) (p := ⟨g8, 0, none⟩) (Chg.refl _ _) (fun _ => rfl) _
       have HX12 : Hid (Has w12 g8 37 #[.int .i64 (1 + s2), .slice A1 m c1, .slice A2 p c2]) := by rw [Hid, hw12]; exact HX11.out.set 0 _
       have HO12 := Lib.hid (HO11.out.chg HX11.out (by decide) hC12)
       have HLa12 : Hid (Lst w12 W.heap.size ga 30 ((q : Int) + 1) M) := by
         obtain ⟨cs, hcs⟩ := HLa11.out.box
         exact HLa11.out.other HX11.out (Has.apart hcs HX11.out (by decide)) (by decide) hC12
       have HLb12 : Hid (Lst w12 W.heap.size gb 30 ((q : Int) + 1) M) := by
         obtain ⟨cs, hcs⟩ := HLb11.out.box
         exact HLb11.out.other HX11.out (Has.apart hcs HX11.out (by decide)) (by decide) hC12
       have HN12 : Hid (New W w12) := New.set HN11.out hC12 Hg8W.out
       clear hC12
       have HB1 := Lib.hid (hot_own W.heap.size gb ((q : Int) + 1) M (f j).add (f j).off A1 A2 W.heap.size m p c1 c2 (1 + s2) w12 HLb12.out HM.out HN12.out.size (by omega) (by omega) HO12.out (by have := Hmb.out.1; omega) (by have := Hmb.out.2; omega))
       have hE31 : appE false ((q : Int) + 1) M (1 + s2) (f j).add (f j).off = 31 := appE_old hs2
       obtain ⟨hv, hl⟩ := @app_none false ((q : Int) + 1) M (1 + s2) (f j).add (f j).off (by rw [hE31]; decide)
       rw [hE31, hv, hl] at HB1
       clear hE31 hv hl
       obtain ⟨m5, m6, m7, m8⟩ := HM2.out
       go_wp2_with fail
       clear m5 m6 m7 m8
       rw [← hw12]
       with_reducible refine HB1.out.mono ?_
       rintro e w13 ⟨rfl, hLb13, hC13⟩
       obtain ⟨cb, hcb⟩ := HLb12.out.box
       have HX13 := Lib.hid (HX12.out.chg hC13 (Has.apart HX12.out hcb (by decide)))
       have HO13 := Lib.hid (HO12.out.chg hcb (by decide) hC13)
       have HLa13 := Lib.hid (HLa12.out.other hcb Hab.out (by decide) hC13)
       have HLb13 := Lib.hid hLb13
       have HN13 : Hid (New W w13) := New.set HN12.out hC13 HgW2.out
       clear hcb hC13 hLb13 e0 e1 e2 z0 x8 hw12 a0
       have x8 := HX13.out.lt
       have e0 : w13.cell? ⟨g8, 0, none⟩ = some (.int .i64 (1 + s2)) := (HX13.out.cell 0).trans rfl
       have e1 : w13.cell? ⟨g8, 1, none⟩ = some (.slice A1 m c1) := (HX13.out.cell 1).trans rfl
       have e2 : w13.cell? ⟨g8, 2, none⟩ = some (.slice A2 p c2) := (HX13.out.cell 2).trans rfl
       have z0 := HX13.out.free 0
       obtain ⟨w14, hw14⟩ : ∃ w, w = w13.setCell ⟨g8, 0, none⟩ (.int .i64 ((q : Int) + 1 + 2)) := ⟨_, rfl⟩
       have hC14 : Chg (· = g8) w13 w14 := by rw [hw14]; exact Chg.setCell (S := (· = g8)) (p := ⟨g8, 0, none⟩) (Chg.refl _ _) (fun _ => rfl) _
       have HO14 := Lib.hid (HO13.out.chg HX13.out (by decide) hC14)
       have HLa14 : Hid (Lst w14 W.heap.size ga 30 ((q : Int) + 1) M) := by
         obtain ⟨cs, hcs⟩ := HLa13.out.box
         exact HLa13.out.other HX13.out (Has.apart hcs HX13.out (by decide)) (by decide) hC14
       have HLb14 : Hid (Lst w14 W.heap.size gb 30 ((q : Int) + 1) M) := by
         obtain ⟨cs, hcs⟩ := HLb13.out.box
         exact HLb13.out.other HX13.out (Has.apart hcs HX13.out (by decide)) (by decide) hC14
       have HN14 : Hid (New W w14) := New.set HN13.out hC14 Hg8W.out
       clear hC14
       have HB2 := Lib.hid (hot_own W.heap.size gb ((q : Int) + 1) M (f j).add (f j).off A1 A2 W.heap.size m p c1 c2 ((q : Int) + 1 + 2) w14 HLb14.out HM.out HN14.out.size (by omega) (by omega) HO14.out (by have := Hmb.out.1; omega) (by have := Hmb.out.2; omega))
       have hE28 : appE false ((q : Int) + 1) M ((q : Int) + 1 + 2) (f j).add (f j).off = 28 := appE_state (by omega) (by omega)
       obtain ⟨hv, hl⟩ := @app_none false ((q : Int) + 1) M ((q : Int) + 1 + 2) (f j).add (f j).off (by rw [hE28]; decide)
       rw [hE28, hv, hl] at HB2
       clear hE28 hv hl
       go_upto_region 21 with (fail)
       obtain ⟨vq, hvq⟩ : ∃ v : Int, v = (q : Int) + 1 := ⟨_, rfl⟩
       have hwq : wrap64 (vq + 2) = vq + 2 := by rw [hvq]; exact HWQ.out
       rw [← hvq] at hw14 ⊢
       have Hvq := Lib.hid hvq
       clear hvq
       go_wp2_with fail
       clear hwq
       rw [← hw14]
       have hvq := Hvq.out
       clear Hvq
       subst hvq
       with_reducible refine HB2.out.mono ?_
       rintro e w15 ⟨rfl, hLb15, hC15⟩
       obtain ⟨cb, hcb⟩ := HLb14.out.box
       have HLa15 := Lib.hid (HLa14.out.other hcb Hab.out (by decide) hC15)
       have HLb15 := Lib.hid hLb15
       have HN15 : Hid (New W w15) := New.set HN14.out hC15 HgW2.out
       clear hcb hC15 hLb15 e0 e1 e2 z0 x8 hw14
       go_wp2_with fail
       go_roundg (5 - (k + 1))
       case measure => omega
       case rel => exact ⟨k + 1, by omega, rfl, by go_num, HLa15.out, HLb15.out, HN15.out⟩
  case rest =>
    obtain ⟨q, L, hs, hq, hL, hLa, hLb, hN⟩ := hcut
    subst hs
    have HL := Lib.hid hL; clear hL
    have HLa := Lib.hid hLa; clear hLa
    have HLb := Lib.hid hLb; clear hLb
    have HN := Lib.hid hN; clear hN
    have HVa : Hid (∀ wy, New wc wy → Calls Try.prog 15 #[.pointer (some ⟨ga, 0, none⟩)] wy fun e w' => e = .returned (.int .i64 (q : Int)) ∧ New wy w') := fun wy hy => Version_any ga 30 q L W.heap.size wy (HLa.out.new hy)
    have HVb : Hid (∀ wy, New wc wy → Calls Try.prog 15 #[.pointer (some ⟨gb, 0, none⟩)] wy fun e w' => e = .returned (.int .i64 (q : Int)) ∧ New wy w') := fun wy hy => Version_any gb 30 q L W.heap.size wy (HLb.out.new hy)
    have HIa : Hid (∀ wy, New wc wy → Calls Try.prog 14 #[.pointer (some ⟨ga, 0, none⟩)] wy fun e w' => ∃ A c, e = .returned (.slice A L.length c) ∧ w'.ownsRow wy.heap.size 44 5 (.slice A L.length c) L.length (ics L) ∧ New wy w') := fun wy hy => (Items_any ga 30 q L W.heap.size wy (HLa.out.new hy) HL.out).mono fun e w' ⟨v, he, hO, hN⟩ => by obtain ⟨A, c, rfl, _⟩ := own_form hO; exact ⟨A, c, he, hO, hN⟩
    have HIb : Hid (∀ wy, New wc wy → Calls Try.prog 14 #[.pointer (some ⟨gb, 0, none⟩)] wy fun e w' => ∃ A c, e = .returned (.slice A L.length c) ∧ w'.ownsRow wy.heap.size 44 5 (.slice A L.length c) L.length (ics L) ∧ New wy w') := fun wy hy => (Items_any gb 30 q L W.heap.size wy (HLb.out.new hy) HL.out).mono fun e w' ⟨v, he, hO, hN⟩ => by obtain ⟨A, c, rfl, _⟩ := own_form hO; exact ⟨A, c, he, hO, hN⟩
    obtain ⟨nl, hnl⟩ : ∃ nl, nl = L.length := ⟨_, rfl⟩
    have HSm : Hid (∀ wy A3 c3 A4 c4 b3 b4, wy.ownsRow b3 44 5 (.slice A3 nl c3) nl (ics L) → wy.ownsRow b4 44 5 (.slice A4 nl c4) nl (ics L) → Calls Try.prog 13 #[.slice A3 nl c3, .slice A4 nl c4] wy fun e w' => e = .returned (.bool true) ∧ New wy w') := fun wy A3 c3 A4 c4 b3 b4 h3 h4 => by
      have h := Same_any L L A3 A4 nl nl c3 c4 wy (fun k => Value.ownBlock (.slice A3 nl c3) = some k ∨ Value.ownBlock (.slice A4 nl c4) = some k) (own_items h3) (own_items h3) (by have := HL.out; omega) (by have := HL.out; omega) ((Its.of_own h3).mono fun _ hk => Or.inl hk) ((Its.of_own h4).mono fun _ hk => Or.inr hk)
      rw [decide_eq_true rfl] at h
      exact h
    rw [← hnl] at HIa HIb
    clear hnl
    go_wp2_with fail
    go_region_held_law (fun _ => True) (trivial) (first
      | (go_at_call 13; (with_reducible refine (HSm.out _ _ _ _ _ _ _ (own_new HO3.out (by ((with_reducible repeat (first | exact Chg.refl _ _ | exact HM4.out | exact HM3.out | refine Chg.alloc ?_ _ | refine Chg.drew ?_)); fail_if_success (have := True.intro)))) (own_new HO4.out (by ((with_reducible repeat (first | exact Chg.refl _ _ | exact HM4.out | exact HM3.out | refine Chg.alloc ?_ _ | refine Chg.drew ?_)); fail_if_success (have := True.intro))))).mono ?_); rintro e v5 ⟨rfl, hN5⟩; have HV5 : Hid (New wc v5) := Chg.then_new (by ((with_reducible repeat (first | exact HV5.out | exact HV4.out | exact HV3.out | exact HV2.out | exact HV1.out | exact Chg.refl _ _ | refine Chg.alloc ?_ _ | refine Chg.drew ?_)); fail_if_success (have := True.intro))) hN5; clear hN5)
      | (go_at_call 14; (with_reducible refine (HIa.out _ (by ((with_reducible repeat (first | exact HV5.out | exact HV4.out | exact HV3.out | exact HV2.out | exact HV1.out | exact Chg.refl _ _ | refine Chg.alloc ?_ _ | refine Chg.drew ?_)); fail_if_success (have := True.intro)))).mono ?_); rintro e v3 ⟨A3, c3, rfl, hO3, hN3⟩; have HO3 := Lib.hid hO3; have HM3 := Lib.hid hN3; have HV3 : Hid (New wc v3) := Chg.then_new (by ((with_reducible repeat (first | exact HV5.out | exact HV4.out | exact HV3.out | exact HV2.out | exact HV1.out | exact Chg.refl _ _ | refine Chg.alloc ?_ _ | refine Chg.drew ?_)); fail_if_success (have := True.intro))) hN3; clear hO3 hN3)
      | (go_at_call 14; (with_reducible refine (HIb.out _ (by ((with_reducible repeat (first | exact HV5.out | exact HV4.out | exact HV3.out | exact HV2.out | exact HV1.out | exact Chg.refl _ _ | refine Chg.alloc ?_ _ | refine Chg.drew ?_)); fail_if_success (have := True.intro)))).mono ?_); rintro e v4 ⟨A4, c4, rfl, hO4, hN4⟩; have HO4 := Lib.hid hO4; have HM4 := Lib.hid hN4; have HV4 : Hid (New wc v4) := Chg.then_new (by ((with_reducible repeat (first | exact HV5.out | exact HV4.out | exact HV3.out | exact HV2.out | exact HV1.out | exact Chg.refl _ _ | refine Chg.alloc ?_ _ | refine Chg.drew ?_)); fail_if_success (have := True.intro))) hN4; clear hO4 hN4)
      | (go_at_call 15; (with_reducible refine (HVa.out _ (by ((with_reducible repeat (first | exact HV5.out | exact HV4.out | exact HV3.out | exact HV2.out | exact HV1.out | exact Chg.refl _ _ | refine Chg.alloc ?_ _ | refine Chg.drew ?_)); fail_if_success (have := True.intro)))).mono ?_); rintro e v1 ⟨rfl, hN1⟩; have HV1 : Hid (New wc v1) := Chg.then_new (by ((with_reducible repeat (first | exact HV5.out | exact HV4.out | exact HV3.out | exact HV2.out | exact HV1.out | exact Chg.refl _ _ | refine Chg.alloc ?_ _ | refine Chg.drew ?_)); fail_if_success (have := True.intro))) hN1; clear hN1)
      | (go_at_call 15; (with_reducible refine (HVb.out _ (by ((with_reducible repeat (first | exact HV5.out | exact HV4.out | exact HV3.out | exact HV2.out | exact HV1.out | exact Chg.refl _ _ | refine Chg.alloc ?_ _ | refine Chg.drew ?_)); fail_if_success (have := True.intro)))).mono ?_); rintro e v2 ⟨rfl, hN2⟩; have HV2 : Hid (New wc v2) := Chg.then_new (by ((with_reducible repeat (first | exact HV5.out | exact HV4.out | exact HV3.out | exact HV2.out | exact HV1.out | exact Chg.refl _ _ | refine Chg.alloc ?_ _ | refine Chg.drew ?_)); fail_if_success (have := True.intro))) hN2; clear hN2))
    all_goals
      go_wp2_with fail
      go_ret
      exact ⟨rfl, HN.out.then_new HV5.out⟩
end Go.Proofs.Ytficopkjpdfilaa
