/-
  Package isam: bytes.Clone; a message's key, head, and whether it can be.
-/
import Derived.Test.YtkcokcanakljnaaXIs1
import Derived.Test.YtkcokcanakljnaaIpB
import Derived.Test.YtkcokcanakljnaaRowW
import Derived.Deep.RegionHeldLaw
import Derived.Test.YtkcokcanakljnaaIqR
namespace Go.Proofs.Ytkcokcanakljnaa
open Go.ChangeShapes Go.WideShapes Go.ChangeAt Go.RowKit
set_option maxHeartbeats 400000 in
theorem bclone_any (A : Option Addr) (n c : Nat) (F : Nat → Prop) (f : Nat → Value) (w : World) (hA : Arr w F A n f) (hn : A = none → n = 0 ∧ c = 0) (h1 : ∀ i, i < n → (f i).oneCell' = true) (hb : n ≤ 140737488355328) :
    Calls Try.prog 61 #[.slice A n c] w fun e w' => ∃ A' c', e = .returned (.slice A' n c') ∧ w'.ownsRow w.heap.size 5 1 (.slice A' n c') n ((List.range n).map f) ∧ New w w' := by
  have HA := Lib.hid hA; clear hA
  have H1 := Lib.hid h1; clear h1
  cases A with
  | none =>
    obtain ⟨rfl, rfl⟩ := hn rfl
    have hnil := fun w => Lib.run_eql_slice_nil (P := Try.prog) w 27 5 none 0 0 0 0 Try.underlying27
    go_enter Try.func61, Try.ntmps61
    go_wp2
    go_ret
    exact ⟨_, _, rfl, World.ownsRow_nil _ _ _ _, Chg.refl _ _⟩
  | some ad =>
    obtain ⟨i0, hi, hz0, hz1, hz2⟩ := info_parts Try.info5
    have HN := Lib.hid hn; clear hn
    have hnil := fun w => Lib.run_eql_slice_nil (P := Try.prog) w 27 5 (some ad) n c 0 0 Try.underlying27
    go_enter Try.func61, Try.ntmps61
    go_wp2_with (first | (at_builtin; refine wpList_append_own_at _ rfl _ _ 27 rfl w.heap.size 5 i0 (.int .u8 0) 1 1 Try.underlying27 hi hz0 hz1 hz2 rfl (by decide) _ 0 [] rfl ?c0 ad n c ((List.range n).map f) rfl ?c1 ?c2 ?c3 ?c4 ?c5 ?c6 ?_) | go_in)
    case c0 => exact World.ownsRow_made (base := w.heap.size) (e := 5) (size := 1) w #[] 0 (Nat.le_refl _) (by decide) rfl
    case c1 => simp
    case c2 =>
      intro j u hu
      obtain ⟨hj, rfl⟩ : j < n ∧ f j = u := map_range_get hu
      obtain ⟨a, ha, hb1, hc⟩ := HA.out j hj
      simp only [Option.some.injEq] at ha
      subst ha
      rw [World.cell?_alloc_lt _ _ _ (World.block_lt_of_cell? _ _ hc)]; exact hc
    case c3 =>
      intro u hu
      simp only [List.mem_map, List.mem_range] at hu
      obtain ⟨j, hj, rfl⟩ := hu
      exact H1.out j hj
    case c4 => simp only [maxLen]; omega
    case c5 => omega
    case c6 => simp
    intro v' w' ho hg _ hfr
    obtain ⟨A', c', hv, _⟩ := own_form ho
    subst hv
    go_wp2
    go_ret
    exact ⟨_, _, rfl, ho, Chg.grown ((Chg.refl _ _).alloc _) hg (by rintro k hk hlt; simp [Value.ownBlock] at hk; omega)⟩
theorem bclone_byts (A : Option Addr) (n c : Nat) (F : Nat → Prop) (bs : List Nat) (w : World) (hB : Byts w F (.slice A n c) bs) (hb : n ≤ 140737488351232) :
    Calls Try.prog 61 #[.slice A n c] w fun e w' => ∃ A' c', e = .returned (.slice A' n c') ∧ w'.ownsRow w.heap.size 5 1 (.slice A' n c') n (bs.map bV) ∧ New w w' := by
  obtain ⟨A', c', e, hA, hnil, h256, hl⟩ := hB
  cases e
  have := bclone_any A bs.length c F (fun i => bV (bs.getD i 0)) w hA hnil (fun i _ => rfl) (by omega)
  rw [bs_range bs bs.length rfl] at this
  exact this
set_option maxRecDepth 100000 in
set_option maxHeartbeats 4000000 in
theorem messageKey_any (k f t tk : Int) (A : Option Addr) (n c : Nat) (w : World) : Calls Try.prog 63 #[.agg #[.int .i64 k, .int .i64 f, .int .i64 t, .slice A n c, .int .i64 tk]] w fun e w' => e = .returned (.agg #[.int .i64 f, .int .i64 0, .int .i64 0, .int .i64 1]) ∧ New w w' := by
  go_enter Try.func63, Try.ntmps63
  go_upto_region 1 with (fail)
  obtain ⟨w0, hw0⟩ : ∃ w0, w0 = w.alloc (.cells #[.int .i64 k, .int .i64 f, .int .i64 t, .slice A n c, .int .i64 tk] 59) := ⟨_, rfl⟩
  obtain ⟨w1, hw1⟩ : ∃ w1, w1 = w0.alloc (.cells #[.int .i64 0, .int .i64 0, .int .i64 0, .int .i64 0] 123) := ⟨_, rfl⟩
  obtain ⟨ba, hba⟩ : ∃ ba, ba = w.heap.size := ⟨_, rfl⟩
  obtain ⟨kb, hkb⟩ : ∃ kb, kb = ba + 1 := ⟨_, rfl⟩
  have hs0 : w0.heap.size = ba + 1 := by rw [hw0, hba]; simp
  have HA : Hid (Has w1 ba 59 #[.int .i64 k, .int .i64 f, .int .i64 t, .slice A n c, .int .i64 tk]) := by rw [hw1, hw0, hba]; exact (Has.new _ _ _).alloc _
  have HK : Hid (Has w1 kb 123 #[.int .i64 0, .int .i64 0, .int .i64 0, .int .i64 0]) := by rw [hkb, ← hs0, hw1]; exact Has.new _ _ _
  have HN1 : Hid (New w w1) := by rw [hw1, hw0]; exact ((Chg.refl _ _).alloc _).alloc _
  have Hkb : Hid (w.heap.size < kb) := by rw [Hid]; omega
  rw [← hw0, ← hw1, ← hba, ← hkb]
  clear hw0 hw1 hba hkb hs0
  have c0 : w1.cell? ⟨ba, 0, none⟩ = some (.int .i64 k) := (HA.out.cell 0).trans rfl
  have c1 : w1.cell? ⟨ba, 1, none⟩ = some (.int .i64 f) := (HA.out.cell 1).trans rfl
  have c2 : w1.cell? ⟨ba, 2, none⟩ = some (.int .i64 t) := (HA.out.cell 2).trans rfl
  have c3 : w1.cell? ⟨ba, 3, none⟩ = some (.slice A n c) := (HA.out.cell 3).trans rfl
  have c4 : w1.cell? ⟨ba, 4, none⟩ = some (.int .i64 tk) := (HA.out.cell 4).trans rfl
  have r0 : w1.cell? ⟨kb, 0, none⟩ = some (.int .i64 0) := (HK.out.cell 0).trans rfl
  have r1 : w1.cell? ⟨kb, 1, none⟩ = some (.int .i64 0) := (HK.out.cell 1).trans rfl
  have r2 : w1.cell? ⟨kb, 2, none⟩ = some (.int .i64 0) := (HK.out.cell 2).trans rfl
  have r3 : w1.cell? ⟨kb, 3, none⟩ = some (.int .i64 0) := (HK.out.cell 3).trans rfl
  have z0 := HK.out.free 0
  have z1 := HK.out.free 1
  have z2 := HK.out.free 2
  have z3 := HK.out.free 3
  go_wp2_with fail
  obtain ⟨hX, hGX⟩ := setK4 HK.out (.int .i64 f) (.int .i64 0) (.int .i64 0) (.int .i64 1)
  generalize ((((w1.setCell ⟨kb, 0, none⟩ (.int .i64 f)).setCell ⟨kb, 1, none⟩ (.int .i64 0)).setCell ⟨kb, 2, none⟩ (.int .i64 0)).setCell ⟨kb, 3, none⟩ (.int .i64 1)) = wX at hX hGX ⊢
  have g0 := (hX.cell 0).trans rfl
  have g1 := (hX.cell 1).trans rfl
  have g2 := (hX.cell 2).trans rfl
  have g3 := (hX.cell 3).trans rfl
  refine bodyPost_ret (v := .agg #[.int .i64 f, .int .i64 0, .int .i64 0, .int .i64 1]) (by simp [results, Try.results63, go_sem, g0, g1, g2, g3]) rfl ?_
  exact ⟨rfl, HN1.out.trans hGX (fun i hi h => by have := Hkb.out; omega)⟩
set_option maxRecDepth 100000 in
set_option maxHeartbeats 4000000 in
theorem messageHead_any (k f t : Nat) (hk : k < 256) (hf : f < 256) (ht : t < 256) (tk : Int) (A : Option Addr) (n c : Nat) (w : World) : Calls Try.prog 64 #[.agg #[.int .i64 k, .int .i64 f, .int .i64 t, .slice A n c, .int .i64 tk]] w fun e w' => ∃ h, e = .returned (.slice (some ⟨h, 0, none⟩) 3 3) ∧ w.heap.size ≤ h ∧ Row w' h [k, f, t] ∧ New w w' := by
  have u1 : IntKind.u8.wrap (k : Int) = (k : Int) := small_wrap _ hk
  have u2 : IntKind.u8.wrap (f : Int) = (f : Int) := small_wrap _ hf
  have u3 : IntKind.u8.wrap (t : Int) = (t : Int) := small_wrap _ ht
  clear hk hf ht
  go_enter Try.func64, Try.ntmps64
  go_upto_region 1 with (fail)
  obtain ⟨w1, hw1⟩ : ∃ w1, w1 = w.alloc (.cells #[.int .i64 k, .int .i64 f, .int .i64 t, .slice A n c, .int .i64 tk] 59) := ⟨_, rfl⟩
  obtain ⟨ba, hba⟩ : ∃ ba, ba = w.heap.size := ⟨_, rfl⟩
  have HA : Hid (Has w1 ba 59 #[.int .i64 k, .int .i64 f, .int .i64 t, .slice A n c, .int .i64 tk]) := by rw [hw1, hba]; exact Has.new _ _ _
  have HN1 : Hid (New w w1) := by rw [hw1]; exact (Chg.refl _ _).alloc _
  rw [← hw1, ← hba]
  clear hw1 hba
  have c0 : w1.cell? ⟨ba, 0, none⟩ = some (.int .i64 k) := (HA.out.cell 0).trans rfl
  have c1 : w1.cell? ⟨ba, 1, none⟩ = some (.int .i64 f) := (HA.out.cell 1).trans rfl
  have c2 : w1.cell? ⟨ba, 2, none⟩ = some (.int .i64 t) := (HA.out.cell 2).trans rfl
  have c3 : w1.cell? ⟨ba, 3, none⟩ = some (.slice A n c) := (HA.out.cell 3).trans rfl
  have c4 : w1.cell? ⟨ba, 4, none⟩ = some (.int .i64 tk) := (HA.out.cell 4).trans rfl
  go_wp2_with fail
  go_ret
  exact ⟨_, rfl, HN1.out.size, Has.new _ _ _, HN1.out.alloc _⟩
/-- can it be a message? -/
def msgB (k f t : Int) : Bool := withB 1 255 [k] && withB 0 4 [f, t]
theorem msgB_at {k f t : Int} (h : msgB k f t = true) : (1 ≤ k ∧ k ≤ 255) ∧ (0 ≤ f ∧ f ≤ 4) ∧ (0 ≤ t ∧ t ≤ 4) := by
  unfold msgB at h
  simp only [withB, List.all_cons, List.all_nil, Bool.and_true, Bool.and_eq_true, decide_eq_true_eq] at h
  omega
set_option maxRecDepth 100000 in
set_option maxHeartbeats 4000000 in
theorem mright_any (k f t tk : Int) (A : Option Addr) (n c : Nat) (w : World) : Calls Try.prog 62 #[.agg #[.int .i64 k, .int .i64 f, .int .i64 t, .slice A n c, .int .i64 tk]] w fun e w' => e = .returned (.bool (msgB k f t)) ∧ New w w' := by
  have HV : Hid (∀ wx g, Has wx g 3 #[.int .i64 k] → Calls Try.prog 65 #[.int .i64 1, .int .i64 255, .slice (some ⟨g, 0, none⟩) 1 1] wx fun e w' => e = .returned (.bool (withB 1 255 [k])) ∧ New wx w') := fun wx g hx => iswithin_any 1 255 [k] _ 1 1 wx _ rfl (by omega) (row_arr1 (xs := [k]) hx)
  have HW : Hid (∀ wx g, Has wx g 3 #[.int .i64 f, .int .i64 t] → Calls Try.prog 65 #[.int .i64 0, .int .i64 4, .slice (some ⟨g, 0, none⟩) 2 2] wx fun e w' => e = .returned (.bool (withB 0 4 [f, t])) ∧ New wx w') := fun wx g hx => iswithin_any 0 4 [f, t] _ 2 2 wx _ rfl (by omega) (row_arr1 (xs := [f, t]) hx)
  unfold msgB
  generalize withB 1 255 [k] = b1 at HV ⊢
  generalize withB 0 4 [f, t] = b2 at HW ⊢
  go_enter Try.func62, Try.ntmps62
  go_upto_region 1 with (fail)
  obtain ⟨w1, hw1⟩ : ∃ w1, w1 = w.alloc (.cells #[.int .i64 k, .int .i64 f, .int .i64 t, .slice A n c, .int .i64 tk] 59) := ⟨_, rfl⟩
  obtain ⟨ba, hba⟩ : ∃ ba, ba = w.heap.size := ⟨_, rfl⟩
  have HA : Hid (Has w1 ba 59 #[.int .i64 k, .int .i64 f, .int .i64 t, .slice A n c, .int .i64 tk]) := by rw [hw1, hba]; exact Has.new _ _ _
  have HN1 : Hid (New w w1) := by rw [hw1]; exact (Chg.refl _ _).alloc _
  rw [← hw1, ← hba]
  clear hw1 hba
  have c0 : w1.cell? ⟨ba, 0, none⟩ = some (.int .i64 k) := (HA.out.cell 0).trans rfl
  have c1 : w1.cell? ⟨ba, 1, none⟩ = some (.int .i64 f) := (HA.out.cell 1).trans rfl
  have c2 : w1.cell? ⟨ba, 2, none⟩ = some (.int .i64 t) := (HA.out.cell 2).trans rfl
  have c3 : w1.cell? ⟨ba, 3, none⟩ = some (.slice A n c) := (HA.out.cell 3).trans rfl
  have c4 : w1.cell? ⟨ba, 4, none⟩ = some (.int .i64 tk) := (HA.out.cell 4).trans rfl
  cases b1 with
  | false =>
    go_wp2_with fail
    have hH := Has.new w1 3 #[.int .i64 k]
    have hN : New w1 (w1.alloc (.cells #[.int .i64 k] 3)) := (Chg.refl _ _).alloc _
    generalize w1.alloc (.cells #[.int .i64 k] 3) = w2 at hH hN ⊢
    with_reducible refine (HV.out _ _ hH).mono ?_
    rintro e w3 ⟨rfl, hN2⟩
    have HN := Lib.hid (HN1.out.then_new (hN.then_new hN2))
    clear hN hN2 hH
    go_wp2_with fail
    go_ret
    exact ⟨rfl, HN.out⟩
  | true =>
    go_wp2_with fail
    have hH := Has.new w1 3 #[.int .i64 k]
    have hN : New w1 (w1.alloc (.cells #[.int .i64 k] 3)) := (Chg.refl _ _).alloc _
    generalize w1.alloc (.cells #[.int .i64 k] 3) = w2 at hH hN ⊢
    with_reducible refine (HV.out _ _ hH).mono ?_
    rintro e w3 ⟨rfl, hN2⟩
    have HN := Lib.hid (HN1.out.then_new (hN.then_new hN2))
    have HA3 := Lib.hid (HA.out.keep (hN.then_new hN2))
    clear hN hN2 hH c0 c1 c2 c3 c4
    have c0 : w3.cell? ⟨ba, 0, none⟩ = some (.int .i64 k) := (HA3.out.cell 0).trans rfl
    have c1 : w3.cell? ⟨ba, 1, none⟩ = some (.int .i64 f) := (HA3.out.cell 1).trans rfl
    have c2 : w3.cell? ⟨ba, 2, none⟩ = some (.int .i64 t) := (HA3.out.cell 2).trans rfl
    have c3 : w3.cell? ⟨ba, 3, none⟩ = some (.slice A n c) := (HA3.out.cell 3).trans rfl
    have c4 : w3.cell? ⟨ba, 4, none⟩ = some (.int .i64 tk) := (HA3.out.cell 4).trans rfl
    go_wp2_with fail
    have hH := Has.new w3 3 #[.int .i64 f, .int .i64 t]
    have hN : New w3 (w3.alloc (.cells #[.int .i64 f, .int .i64 t] 3)) := (Chg.refl _ _).alloc _
    generalize w3.alloc (.cells #[.int .i64 f, .int .i64 t] 3) = w4 at hH hN ⊢
    with_reducible refine (HW.out _ _ hH).mono ?_
    rintro e w5 ⟨rfl, hN2⟩
    have HN5 := Lib.hid (HN.out.then_new (hN.then_new hN2))
    clear hN hN2 hH
    go_wp2_with fail
    go_ret
    exact ⟨rfl, HN5.out⟩
end Go.Proofs.Ytkcokcanakljnaa
/-
  Package isam: Post.
-/
namespace Go.Proofs.Ytkcokcanakljnaa
open Go.ChangeShapes Go.WideShapes Go.ChangeAt Go.RowKit
/-- what a message is sealed by, and its sealed data -/
def msgS (k f t : Nat) (bs : List Nat) : Sl := ⟨f, 0, 0, 1, bstr ([k, f, t] ++ bs)⟩
theorem lists_two {wx : World} {s h n c : Nat} {A : Option Addr} {F : Nat → Prop} {xs bs : List Nat} (hx : xs.length = 3) (hx256 : ∀ x ∈ xs, x < 256) (hr : Row wx h xs) (hB : Byts wx F (.slice A n c) bs) (hs : Has wx s 27 #[.slice (some ⟨h, 0, none⟩) 3 3, .slice A n c]) :
    Lists wx (fun k => F k ∨ k = h ∨ k = s) (some ⟨s, 0, none⟩) [xs, bs] := by
  refine ⟨fun i => if i = 0 then .slice (some ⟨h, 0, none⟩) 3 3 else .slice A n c, fun i hi => ?_, fun i hi => ?_⟩
  · rcases (show i = 0 ∨ i = 1 by simp at hi; omega) with rfl | rfl
    · exact ⟨_, rfl, Or.inr (Or.inr rfl), (hs.cell 0).trans rfl⟩
    · exact ⟨_, rfl, Or.inr (Or.inr rfl), (hs.cell 1).trans rfl⟩
  · rcases (show i = 0 ∨ i = 1 by simp at hi; omega) with rfl | rfl
    · refine ⟨some ⟨h, 0, none⟩, 3, ?_, ?_, (fun e => by cases e), hx256, by show xs.length ≤ _; omega⟩
      · show _ = Value.slice _ xs.length _
        rw [hx]; rfl
      · exact (hr.arr rfl).mono fun k hk => Or.inr (Or.inl hk)
    · exact hB.mono fun k hk => Or.inl hk
theorem Orc.setg {w w' : World} {base b q : Nat} {M : List Sl} {t : TypeId} {cs : Array Value} (h : Orc w base b M) (hq : Has w q t cs) (h1 : t ≠ 77) (h2 : t ≠ 158) (c : Chg (· = q) w w') : Orc w' base b M := by
  obtain ⟨mv, sv, a1, a2, a3, a4, a5, a6⟩ := h
  refine ⟨mv, sv, a1.chg c (fun e => (a1.apart hq (fun h => h1 h.symm)) e), a2, own_setg a3 c (own_apart a3 hq (fun h => h2 h.symm)), ?_, a5, a6⟩
  rcases a4 with h | ⟨b', e, hb, hm⟩
  · exact Or.inl h
  · exact Or.inr ⟨b', e, hb, hm.chg c (fun e => (hm.ne_has hq) e.symm)⟩
/-- a message and a module -/
def MsgR (q g : Nat) (C D : Array Value) (w : World) : Prop := Has w q 59 C ∧ Has w g 129 D
theorem MsgR.drew {q g : Nat} {C D : Array Value} {w : World} (h : MsgR q g C D w) : MsgR q g C D w.drew := ⟨h.1.drew, h.2.drew⟩
theorem MsgR.drewN {q g : Nat} {C D : Array Value} {w : World} (h : MsgR q g C D w) (n : Nat) : MsgR q g C D (w.drewN n) := ⟨h.1.drewN n, h.2.drewN n⟩
theorem MsgR.alloc {q g : Nat} {C D : Array Value} {w : World} (h : MsgR q g C D w) (o : Obj) : MsgR q g C D (w.alloc o) := ⟨h.1.alloc o, h.2.alloc o⟩
theorem MsgR.new {q g : Nat} {C D : Array Value} {w w' : World} (h : MsgR q g C D w) (c : New w w') : MsgR q g C D w' := ⟨h.1.keep c, h.2.keep c⟩
theorem MsgR.held2 {q g b : Nat} {o nn : Int} {acc : Nat → Bool} {y0 y1 y2 y3 y4 : Value} {w : World} (h : MsgR q g #[y0, y1, y2, y3, y4] (mdC b o acc nn) w) : w.cell? ⟨g, 0, none⟩ = some (.pointer (some ⟨b, 0, none⟩)) ∧ w.cell? ⟨q, 3, none⟩ = some y3 :=
  ⟨(h.2.cell 0).trans rfl, (h.1.cell 3).trans rfl⟩
theorem takeH {Pr : Program} {md : Region.Mode} {ops : Array Oper} {Q : Exit → Act → World → Prop} {S : World → Prop} {i d : Nat} {oi : Oper} {v : Value} {fuel : Nat} {listed : Array Bool} {a : Act} {w : World} (hi : ops[i]? = some oi) (hd : oi.dst = some d)
    (hs : Region.noSelect ops = true) (hf : Region.free md ops listed i = true) (hr : (Region.ready md ops listed).contains i = true)
    (hQ : ∀ c a w, Q (.panic c) (a.put oi.dst v) w → Q (.panic c) a w) (hy : YieldsIf Pr ops S oi v a) (hS : S w)
    (h : wpAnyH Pr md ops Q S fuel (listed.setIfInBounds i true) { a with tmps := a.tmps.setIfInBounds d v } w) : wpAnyH Pr md ops Q S (fuel + 1) listed a w :=
  wpAnyH_take hi hs hf hr hQ hy hS (by rw [hd]; exact h)
theorem MsgR.held {q g b : Nat} {o nn : Int} {acc : Nat → Bool} {y0 y1 y2 y3 y4 : Value} {w : World} (h : MsgR q g #[y0, y1, y2, y3, y4] (mdC b o acc nn) w) : w.cell? ⟨g, 0, none⟩ = some (.pointer (some ⟨b, 0, none⟩)) ∧ w.cell? ⟨q, 0, none⟩ = some y0 ∧ w.cell? ⟨q, 1, none⟩ = some y1 ∧ w.cell? ⟨q, 2, none⟩ = some y2 ∧ w.cell? ⟨q, 3, none⟩ = some y3 ∧ w.cell? ⟨q, 4, none⟩ = some y4 :=
  ⟨(h.2.cell 0).trans rfl, (h.1.cell 0).trans rfl, (h.1.cell 1).trans rfl, (h.1.cell 2).trans rfl, (h.1.cell 3).trans rfl, (h.1.cell 4).trans rfl⟩
def PostP (base b : Nat) (ok : Bool) (kd op td : Int) (T : Int) (M' : List Sl) (bs : List Nat) (n : Nat) (w : World) (e : Ending) (w' : World) : Prop :=
  (ok = false ∧ e = .returned (.tuple #[.agg #[.int .i64 0, .int .i64 0, .int .i64 0, .slice none 0 0, .int .i64 0], .int .i64 2]) ∧ New w w') ∨
  (ok = true ∧ ∃ A' c', e = .returned (.tuple #[.agg #[.int .i64 kd, .int .i64 op, .int .i64 td, .slice A' n c', .int .i64 T], .int .i64 0]) ∧ w'.ownsRow w.heap.size 5 1 (.slice A' n c') n (bs.map bV) ∧ Orc w' base b M' ∧ Chg (OS base w) w w')
set_option maxRecDepth 100000 in
set_option maxHeartbeats 4000000 in
theorem Post_no (kd td : Int) (A : Option Addr) (n c : Nat) (bs : List Nat) (F : Nat → Prop) (b g : Nat) (o nn : Int) (acc : Nat → Bool) (w : World) (hG : Has w g 129 (mdC b o acc nn)) (hB : Byts w F (.slice A n c) bs) (hF : ∀ k, F k → k < w.heap.size) (hb : n ≤ 140737488351232) (hok : msgB kd o td = false) :
    Calls Try.prog 25 #[.pointer (some ⟨g, 0, none⟩), .int .i64 kd, .int .i64 td, .slice A n c] w fun e w' => e = .returned (.tuple #[.agg #[.int .i64 0, .int .i64 0, .int .i64 0, .slice none 0 0, .int .i64 0], .int .i64 2]) ∧ New w w' := by
  have HCl : Hid (∀ wx, New w wx → Calls Try.prog 61 #[.slice A n c] wx fun e w' => ∃ A' c', e = .returned (.slice A' n c') ∧ w'.ownsRow wx.heap.size 5 1 (.slice A' n c') n (bs.map bV) ∧ New wx w') := fun wx hx => bclone_byts A n c F bs wx (hB.new hx hF) hb
  have HRi : Hid (∀ (A : Option Addr) (n c : Nat) (w : World), Calls Try.prog 62 #[.agg #[.int .i64 kd, .int .i64 o, .int .i64 td, .slice A n c, .int .i64 0]] w fun e w' => e = .returned (.bool false) ∧ New w w') := fun A n c w => by rw [← hok]; exact mright_any kd o td 0 A n c w
  have HG := Lib.hid hG
  clear hG hB hF hb hok
  go_enter Try.func25, Try.ntmps25
  go_upto_region 1 with (fail)
  obtain ⟨w1, hw1⟩ : ∃ w1, w1 = w.alloc (.cells #[.int .i64 0, .int .i64 0, .int .i64 0, .slice none 0 0, .int .i64 0] 59) := ⟨_, rfl⟩
  obtain ⟨rb, hrb⟩ : ∃ rb, rb = w.heap.size := ⟨_, rfl⟩
  have HR1 : Hid (Has w1 rb 59 #[.int .i64 0, .int .i64 0, .int .i64 0, .slice none 0 0, .int .i64 0]) := by rw [hw1, hrb]; exact Has.new _ _ _
  have HN1 : Hid (New w w1) := by rw [hw1]; exact (Chg.refl _ _).alloc _
  have Hrb : Hid (rb = w.heap.size) := hrb
  rw [← hw1, ← hrb]
  clear hw1 hrb
  have m1 : w1.cell? ⟨g, 1, none⟩ = some (.int .i64 o) := ((HG.out.keep HN1.out).cell 1).trans rfl
  have hNa : New w1 (w1.alloc (.cells #[.int .i64 0, .int .i64 0, .int .i64 0, .slice none 0 0, .int .i64 0] 59)) := (Chg.refl _ _).alloc _
  have m1a : (w1.alloc (.cells #[.int .i64 0, .int .i64 0, .int .i64 0, .slice none 0 0, .int .i64 0] 59)).cell? ⟨g, 1, none⟩ = some (.int .i64 o) := ((HG.out.keep (HN1.out.then_new hNa)).cell 1).trans rfl
  clear hNa
  go_cut [10] (fun s10 wx => ∃ A' c' q, s10 = .pointer (some ⟨q, 0, none⟩) ∧ Has wx q 59 #[.int .i64 kd, .int .i64 o, .int .i64 td, (.slice A' n c'), .int .i64 0] ∧ wx.ownsRow w.heap.size 5 1 (.slice A' n c') n (bs.map bV) ∧ New w wx ∧ Has wx rb 59 #[.int .i64 0, .int .i64 0, .int .i64 0, .slice none 0 0, .int .i64 0] ∧ q ≠ rb ∧ (Value.slice A' n c').ownBlock ≠ some q ∧ w.heap.size ≤ q)
  case first =>
    go_region_law
      (go_simp; go_at_call 61;
       (with_reducible refine (HCl.out _ (HN1.out.then_new (by with_reducible repeat (first | exact Chg.refl _ _ | refine Chg.drew ?_ | refine Chg.drewN ?_ _ | refine Chg.alloc ?_ _)))).mono ?_)
       rintro e w3 ⟨A', c', rfl, hO3, hN3⟩
       have HN3 : Hid (New w1 w3) := Chg.new_then (by with_reducible repeat (first | exact Chg.refl _ _ | refine Chg.drew ?_ | refine Chg.drewN ?_ _ | refine Chg.alloc ?_ _)) hN3
       have HO3 := Lib.hid (own_base (base' := w.heap.size) hO3 (fun k hk => Nat.le_trans (HN1.out.then_new (by with_reducible repeat (first | exact Chg.refl _ _ | refine Chg.drew ?_ | refine Chg.drewN ?_ _ | refine Chg.alloc ?_ _))).size (hO3.lt k hk).1))
       have m3 : w3.cell? ⟨g, 1, none⟩ = some (.int .i64 o) := ((HG.out.keep (HN1.out.then_new HN3.out)).cell 1).trans rfl
       have hNa : New w3 (w3.alloc (.cells #[.int .i64 0, .int .i64 0, .int .i64 0, .slice none 0 0, .int .i64 0] 59)) := (Chg.refl _ _).alloc _
       have m3a : (w3.alloc (.cells #[.int .i64 0, .int .i64 0, .int .i64 0, .slice none 0 0, .int .i64 0] 59)).cell? ⟨g, 1, none⟩ = some (.int .i64 o) := ((HG.out.keep (HN1.out.then_new (HN3.out.then_new hNa))).cell 1).trans rfl
       clear hNa
       have HR3 := Lib.hid (HR1.out.keep HN3.out)
       have Hz3 : Hid (w.heap.size ≤ w3.heap.size) := (HN1.out.then_new HN3.out).size
       try
         have HX3 : Hid (Has w3 w1.heap.size 59 #[.int .i64 0, .int .i64 0, .int .i64 0, .slice none 0 0, .int .i64 0]) := Has.keep (by with_reducible first | exact Has.new _ _ _ | exact (Has.new _ _ _).drew | exact Has.drewN (Has.new _ _ _) _) hN3
         have x0 : w3.cell? ⟨w1.heap.size, 0, none⟩ = some (.int .i64 0) := (HX3.out.cell 0).trans rfl
         have x1 : w3.cell? ⟨w1.heap.size, 1, none⟩ = some (.int .i64 0) := (HX3.out.cell 1).trans rfl
         have x2 : w3.cell? ⟨w1.heap.size, 2, none⟩ = some (.int .i64 0) := (HX3.out.cell 2).trans rfl
         have x3 : w3.cell? ⟨w1.heap.size, 3, none⟩ = some (.slice none 0 0) := (HX3.out.cell 3).trans rfl
         have x4 : w3.cell? ⟨w1.heap.size, 4, none⟩ = some (.int .i64 0) := (HX3.out.cell 4).trans rfl
         have z0 := HX3.out.free 0
         have z1 := HX3.out.free 1
         have z2 := HX3.out.free 2
         have z3 := HX3.out.free 3
         have z4 := HX3.out.free 4
       clear hO3 hN3)
    all_goals
      go_wp2_with fail
      go_meet
      case rel =>
        first
        | (refine ⟨A', c', _, rfl, ?_, ?_⟩
           · with_reducible exact Has.new _ _ _
           exact ⟨own_new HO3.out ((Chg.refl _ _).alloc _), (HN1.out.then_new HN3.out).alloc _, HR3.out.alloc _, Nat.ne_of_gt HR3.out.lt, fun h => Nat.lt_irrefl _ (HO3.out.lt _ h).2, Hz3.out⟩)
        | (obtain ⟨hX, hGX⟩ := setS HX3.out (.int .i64 kd) (.int .i64 o) (.int .i64 td) ((.slice A' n c')) (.int .i64 0)
           have hne : w1.heap.size ≠ rb := Nat.ne_of_gt HR1.out.lt
           have hnw : w.heap.size ≤ w1.heap.size := HN1.out.size
           refine ⟨A', c', _, rfl, ?_, ?_⟩
           · with_reducible exact hX
           have hO := own_setg HO3.out hGX (own_apart HO3.out HX3.out (by decide))
           have hNN := (HN1.out.then_new HN3.out).trans hGX (fun i hi h => by rw [h] at hi; exact absurd hi (Nat.not_lt.2 hnw))
           have hRR := HR3.out.chg hGX hne.symm
           have hPP := own_apart HO3.out HX3.out (by decide)
           with_reducible exact ⟨hO, hNN, hRR, hne, hPP, hnw⟩)
  case rest =>
  obtain ⟨A', c', q, rfl, hqc, hoc, hnc, hrc, hqr, hqo, hqs⟩ := hcut
  obtain ⟨w4, hw4⟩ : ∃ w4, w4 = wc := ⟨_, rfl⟩
  rw [← hw4] at hqc hoc hnc hrc ⊢
  clear hw4
  have HQc := Lib.hid hqc
  have HOc := Lib.hid hoc
  have HNc := Lib.hid hnc
  have HRc := Lib.hid hrc
  have Hqr := Lib.hid hqr
  have Hqo := Lib.hid hqo
  have Hqs := Lib.hid hqs
  clear hqc hoc hnc hrc hqr hqo hqs HR1 HN1 HCl m1 m1a
  have d0 : w4.cell? ⟨q, 0, none⟩ = some (.int .i64 kd) := (HQc.out.cell 0).trans rfl
  have d1 : w4.cell? ⟨q, 1, none⟩ = some (.int .i64 o) := (HQc.out.cell 1).trans rfl
  have d2 : w4.cell? ⟨q, 2, none⟩ = some (.int .i64 td) := (HQc.out.cell 2).trans rfl
  have d3 : w4.cell? ⟨q, 3, none⟩ = some ((.slice A' n c')) := (HQc.out.cell 3).trans rfl
  have d4 : w4.cell? ⟨q, 4, none⟩ = some (.int .i64 0) := (HQc.out.cell 4).trans rfl
  go_wp2_with fail
  with_reducible refine (HRi.out _ _ _ _).mono ?_
  rintro e w5 ⟨rfl, hN5⟩
  have HR5 := Lib.hid (HRc.out.keep hN5)
  have HN5 := Lib.hid (HNc.out.then_new hN5)
  clear hN5
  have r0 : w5.cell? ⟨rb, 0, none⟩ = some (.int .i64 0) := (HR5.out.cell 0).trans rfl
  have r1 : w5.cell? ⟨rb, 1, none⟩ = some (.int .i64 0) := (HR5.out.cell 1).trans rfl
  have r2 : w5.cell? ⟨rb, 2, none⟩ = some (.int .i64 0) := (HR5.out.cell 2).trans rfl
  have r3 : w5.cell? ⟨rb, 3, none⟩ = some (.slice none 0 0) := (HR5.out.cell 3).trans rfl
  have r4 : w5.cell? ⟨rb, 4, none⟩ = some (.int .i64 0) := (HR5.out.cell 4).trans rfl
  have z0 := HR5.out.free 0
  have z1 := HR5.out.free 1
  have z2 := HR5.out.free 2
  have z3 := HR5.out.free 3
  have z4 := HR5.out.free 4
  go_wp2_with fail
  obtain ⟨hX, hGX⟩ := setS HR5.out (.int .i64 0) (.int .i64 0) (.int .i64 0) (.slice none 0 0) (.int .i64 0)
  generalize (((((w5.setCell ⟨rb, 0, none⟩ (.int .i64 0)).setCell ⟨rb, 1, none⟩ (.int .i64 0)).setCell ⟨rb, 2, none⟩ (.int .i64 0)).setCell ⟨rb, 3, none⟩ (.slice none 0 0)).setCell ⟨rb, 4, none⟩ (.int .i64 0)) = wX at hX hGX ⊢
  have g0 := (hX.cell 0).trans rfl
  have g1 := (hX.cell 1).trans rfl
  have g2 := (hX.cell 2).trans rfl
  have g3 := (hX.cell 3).trans rfl
  have g4 := (hX.cell 4).trans rfl
  refine bodyPost_ret (v := .tuple #[.agg #[.int .i64 0, .int .i64 0, .int .i64 0, .slice none 0 0, .int .i64 0], .int .i64 2]) (by simp [results, Try.results25, go_sem, g0, g1, g2, g3, g4]) rfl ?_
  exact ⟨rfl, HN5.out.trans hGX (fun i hi h => by have := Hrb.out; omega)⟩
set_option maxRecDepth 100000 in
set_option maxHeartbeats 4000000 in
theorem Post_yes (k f t : Nat) (A : Option Addr) (n c : Nat) (bs : List Nat) (F : Nat → Prop) (base b g : Nat) (nn : Int) (acc : Nat → Bool) (M : List Sl) (w : World) (hG : Has w g 129 (mdC b (f : Int) acc nn)) (hM : Orc w base b M) (hm : M.length ≤ 1000) (hB : Byts w F (.slice A n c) bs) (hF : ∀ k, F k → k < w.heap.size) (hb : n ≤ 140737488351232) (hok : msgB k f t = true) :
    Calls Try.prog 25 #[.pointer (some ⟨g, 0, none⟩), .int .i64 (k : Int), .int .i64 (t : Int), .slice A n c] w fun e w' => ∃ A' c', e = .returned (.tuple #[.agg #[.int .i64 (k : Int), .int .i64 (f : Int), .int .i64 (t : Int), .slice A' n c', .int .i64 (mintN M (msgS k f t bs) : Nat)], .int .i64 0]) ∧ w'.ownsRow w.heap.size 5 1 (.slice A' n c') n (bs.map bV) ∧ Orc w' base b (mintL M (msgS k f t bs)) ∧ Chg (OS base w) w w' := by
  obtain ⟨hk, hf, ht⟩ := msgB_at hok
  have h256 := hB.len.2.2
  have hbn := hB.len.1
  have HCl : Hid (∀ wx, New w wx → Calls Try.prog 61 #[.slice A n c] wx fun e w' => ∃ A' c', e = .returned (.slice A' n c') ∧ w'.ownsRow wx.heap.size 5 1 (.slice A' n c') n (bs.map bV) ∧ New wx w') := fun wx hx => bclone_byts A n c F bs wx (hB.new hx hF) hb
  have HRi : Hid (∀ (A : Option Addr) (n c : Nat) (w : World), Calls Try.prog 62 #[.agg #[.int .i64 (k : Int), .int .i64 (f : Int), .int .i64 (t : Int), .slice A n c, .int .i64 0]] w fun e w' => e = .returned (.bool true) ∧ New w w') := fun A n c w => by rw [← hok]; exact mright_any k f t 0 A n c w
  have HKe : Hid (∀ (A : Option Addr) (n c : Nat) (w : World), Calls Try.prog 63 #[.agg #[.int .i64 (k : Int), .int .i64 (f : Int), .int .i64 (t : Int), .slice A n c, .int .i64 0]] w fun e w' => e = .returned (.agg #[.int .i64 (f : Int), .int .i64 0, .int .i64 0, .int .i64 1]) ∧ New w w') := fun A n c w => messageKey_any k f t 0 A n c w
  have HHe : Hid (∀ (A : Option Addr) (n c : Nat) (w : World), Calls Try.prog 64 #[.agg #[.int .i64 (k : Int), .int .i64 (f : Int), .int .i64 (t : Int), .slice A n c, .int .i64 0]] w fun e w' => ∃ h, e = .returned (.slice (some ⟨h, 0, none⟩) 3 3) ∧ w.heap.size ≤ h ∧ Row w' h [k, f, t] ∧ New w w') := fun A n c w => messageHead_any k f t (by omega) (by omega) (by omega) 0 A n c w
  have HMt : Hid (∀ (wx : World) (s h n c : Nat) (A : Option Addr) (F : Nat → Prop), Orc wx base b M → Row wx h [k, f, t] → Byts wx F (.slice A n c) bs → (∀ k, F k → k < wx.heap.size) → Has wx s 27 #[.slice (some ⟨h, 0, none⟩) 3 3, .slice A n c] → Calls Try.prog 59 #[.pointer (some ⟨b, 0, none⟩), .agg #[.int .i64 (f : Int), .int .i64 0, .int .i64 0, .int .i64 1], .slice (some ⟨s, 0, none⟩) 2 2] wx fun e w' => e = .returned (.int .i64 (mintN M (msgS k f t bs) : Nat)) ∧ Orc w' base b (mintL M (msgS k f t bs)) ∧ Chg (OS base wx) wx w') := fun wx s h n' c' A' F' hO hr hB' hF' hs => by
    have hL := lists_two (xs := [k, f, t]) rfl (by simp; omega) hr hB' hs
    have hn' := hB'.len.1
    have := Mint_orc base b M f 0 0 1 (wf_small (by omega) (by omega)) (by decide) (by decide) (by decide) _ 2 2 _ _ wx hO hm hL (fun k hk => by rcases hk with h1 | h1 | h1; exact hF' k h1; rw [h1]; exact hr.lt; rw [h1]; exact hs.lt) rfl (by omega) (by omega) (by simp; omega)
    rw [show [[k, f, t], bs].flatten = [k, f, t] ++ bs by simp] at this
    exact this
  have HG := Lib.hid hG
  have HM := Lib.hid hM
  have H256 := Lib.hid h256
  obtain ⟨T, hT⟩ : ∃ T, T = mintN M (msgS k f t bs) := ⟨_, rfl⟩
  obtain ⟨M', hM'⟩ : ∃ M', M' = mintL M (msgS k f t bs) := ⟨_, rfl⟩
  rw [← hT, ← hM'] at HMt ⊢
  have Hb := Lib.hid (show n ≤ 140737488355328 by omega)
  clear hT hM' hG hM hB hF hb hok hk hf ht hm h256 hbn
  go_enter Try.func25, Try.ntmps25
  go_upto_region 1 with (fail)
  obtain ⟨w1, hw1⟩ : ∃ w1, w1 = w.alloc (.cells #[.int .i64 0, .int .i64 0, .int .i64 0, .slice none 0 0, .int .i64 0] 59) := ⟨_, rfl⟩
  obtain ⟨rb, hrb⟩ : ∃ rb, rb = w.heap.size := ⟨_, rfl⟩
  have HR1 : Hid (Has w1 rb 59 #[.int .i64 0, .int .i64 0, .int .i64 0, .slice none 0 0, .int .i64 0]) := by rw [hw1, hrb]; exact Has.new _ _ _
  have HN1 : Hid (New w w1) := by rw [hw1]; exact (Chg.refl _ _).alloc _
  have Hrb : Hid (rb = w.heap.size) := hrb
  rw [← hw1, ← hrb]
  clear hw1 hrb
  have m1 : w1.cell? ⟨g, 1, none⟩ = some (.int .i64 (f : Int)) := ((HG.out.keep HN1.out).cell 1).trans rfl
  have hNa : New w1 (w1.alloc (.cells #[.int .i64 0, .int .i64 0, .int .i64 0, .slice none 0 0, .int .i64 0] 59)) := (Chg.refl _ _).alloc _
  have m1a : (w1.alloc (.cells #[.int .i64 0, .int .i64 0, .int .i64 0, .slice none 0 0, .int .i64 0] 59)).cell? ⟨g, 1, none⟩ = some (.int .i64 (f : Int)) := ((HG.out.keep (HN1.out.then_new hNa)).cell 1).trans rfl
  clear hNa
  go_cut [10] (fun s10 wx => ∃ A' c' q, s10 = .pointer (some ⟨q, 0, none⟩) ∧ Has wx q 59 #[.int .i64 (k : Int), .int .i64 (f : Int), .int .i64 (t : Int), (.slice A' n c'), .int .i64 0] ∧ wx.ownsRow w.heap.size 5 1 (.slice A' n c') n (bs.map bV) ∧ New w wx ∧ Has wx rb 59 #[.int .i64 0, .int .i64 0, .int .i64 0, .slice none 0 0, .int .i64 0] ∧ q ≠ rb ∧ (Value.slice A' n c').ownBlock ≠ some q ∧ w.heap.size ≤ q)
  case first =>
    go_region_law
      (go_simp; go_at_call 61;
       (with_reducible refine (HCl.out _ (HN1.out.then_new (by with_reducible repeat (first | exact Chg.refl _ _ | refine Chg.drew ?_ | refine Chg.drewN ?_ _ | refine Chg.alloc ?_ _)))).mono ?_)
       rintro e w3 ⟨A', c', rfl, hO3, hN3⟩
       have HN3 : Hid (New w1 w3) := Chg.new_then (by with_reducible repeat (first | exact Chg.refl _ _ | refine Chg.drew ?_ | refine Chg.drewN ?_ _ | refine Chg.alloc ?_ _)) hN3
       have HO3 := Lib.hid (own_base (base' := w.heap.size) hO3 (fun k hk => Nat.le_trans (HN1.out.then_new (by with_reducible repeat (first | exact Chg.refl _ _ | refine Chg.drew ?_ | refine Chg.drewN ?_ _ | refine Chg.alloc ?_ _))).size (hO3.lt k hk).1))
       have m3 : w3.cell? ⟨g, 1, none⟩ = some (.int .i64 (f : Int)) := ((HG.out.keep (HN1.out.then_new HN3.out)).cell 1).trans rfl
       have hNa : New w3 (w3.alloc (.cells #[.int .i64 0, .int .i64 0, .int .i64 0, .slice none 0 0, .int .i64 0] 59)) := (Chg.refl _ _).alloc _
       have m3a : (w3.alloc (.cells #[.int .i64 0, .int .i64 0, .int .i64 0, .slice none 0 0, .int .i64 0] 59)).cell? ⟨g, 1, none⟩ = some (.int .i64 (f : Int)) := ((HG.out.keep (HN1.out.then_new (HN3.out.then_new hNa))).cell 1).trans rfl
       clear hNa
       have HR3 := Lib.hid (HR1.out.keep HN3.out)
       have Hz3 : Hid (w.heap.size ≤ w3.heap.size) := (HN1.out.then_new HN3.out).size
       try
         have HX3 : Hid (Has w3 w1.heap.size 59 #[.int .i64 0, .int .i64 0, .int .i64 0, .slice none 0 0, .int .i64 0]) := Has.keep (by with_reducible first | exact Has.new _ _ _ | exact (Has.new _ _ _).drew | exact Has.drewN (Has.new _ _ _) _) hN3
         have x0 : w3.cell? ⟨w1.heap.size, 0, none⟩ = some (.int .i64 0) := (HX3.out.cell 0).trans rfl
         have x1 : w3.cell? ⟨w1.heap.size, 1, none⟩ = some (.int .i64 0) := (HX3.out.cell 1).trans rfl
         have x2 : w3.cell? ⟨w1.heap.size, 2, none⟩ = some (.int .i64 0) := (HX3.out.cell 2).trans rfl
         have x3 : w3.cell? ⟨w1.heap.size, 3, none⟩ = some (.slice none 0 0) := (HX3.out.cell 3).trans rfl
         have x4 : w3.cell? ⟨w1.heap.size, 4, none⟩ = some (.int .i64 0) := (HX3.out.cell 4).trans rfl
         have z0 := HX3.out.free 0
         have z1 := HX3.out.free 1
         have z2 := HX3.out.free 2
         have z3 := HX3.out.free 3
         have z4 := HX3.out.free 4
       clear hO3 hN3)
    all_goals
      go_wp2_with fail
      go_meet
      case rel =>
        first
        | (refine ⟨A', c', _, rfl, ?_, ?_⟩
           · with_reducible exact Has.new _ _ _
           exact ⟨own_new HO3.out ((Chg.refl _ _).alloc _), (HN1.out.then_new HN3.out).alloc _, HR3.out.alloc _, Nat.ne_of_gt HR3.out.lt, fun h => Nat.lt_irrefl _ (HO3.out.lt _ h).2, Hz3.out⟩)
        | (obtain ⟨hX, hGX⟩ := setS HX3.out (.int .i64 (k : Int)) (.int .i64 (f : Int)) (.int .i64 (t : Int)) ((.slice A' n c')) (.int .i64 0)
           have hne : w1.heap.size ≠ rb := Nat.ne_of_gt HR1.out.lt
           have hnw : w.heap.size ≤ w1.heap.size := HN1.out.size
           refine ⟨A', c', _, rfl, ?_, ?_⟩
           · with_reducible exact hX
           have hO := own_setg HO3.out hGX (own_apart HO3.out HX3.out (by decide))
           have hNN := (HN1.out.then_new HN3.out).trans hGX (fun i hi h => by rw [h] at hi; exact absurd hi (Nat.not_lt.2 hnw))
           have hRR := HR3.out.chg hGX hne.symm
           have hPP := own_apart HO3.out HX3.out (by decide)
           with_reducible exact ⟨hO, hNN, hRR, hne, hPP, hnw⟩)
  case rest =>
  obtain ⟨A', c', q, rfl, hqc, hoc, hnc, hrc, hqr, hqo, hqs⟩ := hcut
  obtain ⟨w4, hw4⟩ : ∃ w4, w4 = wc := ⟨_, rfl⟩
  rw [← hw4] at hqc hoc hnc hrc ⊢
  clear hw4
  have HQc := Lib.hid hqc
  have HOc := Lib.hid hoc
  have HNc := Lib.hid hnc
  have HRc := Lib.hid hrc
  have Hqr := Lib.hid hqr
  have Hqo := Lib.hid hqo
  have Hqs := Lib.hid hqs
  clear hqc hoc hnc hrc hqr hqo hqs HR1 HN1 HCl m1 m1a
  have d0 : w4.cell? ⟨q, 0, none⟩ = some (.int .i64 (k : Int)) := (HQc.out.cell 0).trans rfl
  have d1 : w4.cell? ⟨q, 1, none⟩ = some (.int .i64 (f : Int)) := (HQc.out.cell 1).trans rfl
  have d2 : w4.cell? ⟨q, 2, none⟩ = some (.int .i64 (t : Int)) := (HQc.out.cell 2).trans rfl
  have d3 : w4.cell? ⟨q, 3, none⟩ = some ((.slice A' n c')) := (HQc.out.cell 3).trans rfl
  have d4 : w4.cell? ⟨q, 4, none⟩ = some (.int .i64 0) := (HQc.out.cell 4).trans rfl
  go_wp2_with fail
  with_reducible refine (HRi.out _ _ _ _).mono ?_
  rintro e w5 ⟨rfl, hN5⟩
  have HR5 := Lib.hid (HRc.out.keep hN5)
  have HQ5 := Lib.hid (HQc.out.keep hN5)
  have HO5 := Lib.hid (own_new HOc.out hN5)
  have HN5 := Lib.hid (HNc.out.then_new hN5)
  have HBy5 := Lib.hid (Byts.own_any (own_new HOc.out hN5) (Chg.refl _ _) H256.out Hb.out)
  have m0 : w5.cell? ⟨g, 0, none⟩ = some (.pointer (some ⟨b, 0, none⟩)) := ((HG.out.keep HN5.out).cell 0).trans rfl
  clear hN5 HRc HQc HOc HNc HRi d0 d1 d2 d3 d4
  have d0 : w5.cell? ⟨q, 0, none⟩ = some (.int .i64 (k : Int)) := (HQ5.out.cell 0).trans rfl
  have d1 : w5.cell? ⟨q, 1, none⟩ = some (.int .i64 (f : Int)) := (HQ5.out.cell 1).trans rfl
  have d2 : w5.cell? ⟨q, 2, none⟩ = some (.int .i64 (t : Int)) := (HQ5.out.cell 2).trans rfl
  have d3 : w5.cell? ⟨q, 3, none⟩ = some ((.slice A' n c')) := (HQ5.out.cell 3).trans rfl
  have d4 : w5.cell? ⟨q, 4, none⟩ = some (.int .i64 0) := (HQ5.out.cell 4).trans rfl
  have HRr5 : Hid (MsgR q g #[.int .i64 (k : Int), .int .i64 (f : Int), .int .i64 (t : Int), (.slice A' n c'), .int .i64 0] (mdC b (f : Int) acc nn) w5) := ⟨HQ5.out, HG.out.keep HN5.out⟩
  go_upto_region 4 with (fail)
  go_cut [10] (fun s10 wx => s10 = .pointer (some ⟨q, 0, none⟩) ∧ Has wx q 59 #[.int .i64 (k : Int), .int .i64 (f : Int), .int .i64 (t : Int), .slice A' n c', .int .i64 (T : Int)] ∧ Has wx rb 59 #[.int .i64 0, .int .i64 0, .int .i64 0, .slice none 0 0, .int .i64 0] ∧ wx.ownsRow w.heap.size 5 1 (.slice A' n c') n (bs.map bV) ∧ Orc wx base b M' ∧ Chg (OS base w) w wx)
  case first =>
    refine wp_region_held_drew (S := fun wx => wx.cell? ⟨g, 0, none⟩ = some (.pointer (some ⟨b, 0, none⟩)) ∧ wx.cell? ⟨q, 3, none⟩ = some (.slice A' n c')) (by kernel_rfl) (MsgR.held2 HRr5.out.drew) (fun hHeld => ?_)
    refine takeH (i := 0) (d := 24) (v := .pointer (some ⟨g, 0, none⟩)) rfl rfl (by kernel_rfl) (by kernel_rfl) (by kernel_rfl) (fun _ _ _ h => h) (Or.inl ⟨by rfl, ?_⟩) (by assumption) ?_
    · (intro w hSw; (try dsimp only at hSw); go_simp; try with_reducible rfl)
    simp only [List.setIfInBounds_toArray, List.set_cons_zero, List.set_cons_succ]
    refine takeH (i := 1) (d := 25) (v := .pointer (some ⟨g, 0, none⟩)) rfl rfl (by kernel_rfl) (by kernel_rfl) (by kernel_rfl) (fun _ _ _ h => h) (Or.inl ⟨by rfl, ?_⟩) (by assumption) ?_
    · (intro w hSw; (try dsimp only at hSw); go_simp; try with_reducible rfl)
    simp only [List.setIfInBounds_toArray, List.set_cons_zero, List.set_cons_succ]
    refine takeH (i := 2) (d := 26) (v := .pointer (some ⟨g, 0, none⟩)) rfl rfl (by kernel_rfl) (by kernel_rfl) (by kernel_rfl) (fun _ _ _ h => h) (Or.inl ⟨by rfl, ?_⟩) (by assumption) ?_
    · (intro w hSw; (try dsimp only at hSw); go_simp; try with_reducible rfl)
    simp only [List.setIfInBounds_toArray, List.set_cons_zero, List.set_cons_succ]
    refine takeH (i := 3) (d := 27) (v := .pointer (some ⟨b, 0, none⟩)) rfl rfl (by kernel_rfl) (by kernel_rfl) (by kernel_rfl) (fun _ _ _ h => h) (Or.inl ⟨by rfl, ?_⟩) (by assumption) ?_
    · (intro w hSw; (try dsimp only at hSw); go_simp; try with_reducible rfl)
    simp only [List.setIfInBounds_toArray, List.set_cons_zero, List.set_cons_succ]
    refine takeH (i := 8) (d := 32) (v := .pointer (some ⟨q, 3, none⟩)) rfl rfl (by kernel_rfl) (by kernel_rfl) (by kernel_rfl) (fun _ _ _ h => h) (Or.inl ⟨by rfl, ?_⟩) (by assumption) ?_
    · (intro w hSw; (try dsimp only at hSw); go_simp; try with_reducible rfl)
    simp only [List.setIfInBounds_toArray, List.set_cons_zero, List.set_cons_succ]
    refine takeH (i := 9) (d := 33) (v := .slice A' n c') rfl rfl (by kernel_rfl) (by kernel_rfl) (by kernel_rfl) (fun _ _ _ h => h) (Or.inl ⟨by rfl, ?_⟩) (by assumption) ?_
    · (intro w hSw; (try dsimp only at hSw); go_simp; try with_reducible rfl)
    simp only [List.setIfInBounds_toArray, List.set_cons_zero, List.set_cons_succ]
    refine wpAnyH_ready (rs := [4, 6]) (by kernel_rfl) (by simp) ?_
    refine (AllReadyH.cons rfl (fun K hK => ?_) (AllReadyH.cons rfl (fun K hK => ?_) AllReadyH.nil))
    · go_simp
      refine hK.out _ _ ?_ (fun hHeld => ?_)
      · (exact MsgR.held2 (by with_reducible repeat (first | exact HRs.out | exact HRM.out | exact HRH.out | exact HRK.out | exact HRr5.out | refine MsgR.drew ?_ | refine MsgR.drewN ?_ _ | refine MsgR.alloc ?_ _)))
      clear hK K
      try simp only [Act.put, List.setIfInBounds_toArray, List.set_cons_zero, List.set_cons_succ]
      refine wpAnyH_ready (rs := [5, 6]) (by kernel_rfl) (by simp) ?_
      refine (AllReadyH.cons rfl (fun K hK => ?_) (AllReadyH.cons rfl (fun K hK => ?_) AllReadyH.nil))
      · go_simp
        go_at_call 63
        (with_reducible refine (HKe.out _ _ _ _).mono ?_)
        rintro e wK ⟨rfl, hNK⟩
        have HNK : Hid (New w5 wK) := Chg.new_then (by with_reducible repeat (first | exact Chg.refl _ _ | refine Chg.drew ?_ | refine Chg.drewN ?_ _ | refine Chg.alloc ?_ _)) hNK
        have HRK := Lib.hid (HRr5.out.new HNK.out)
        have HQK := Lib.hid (HQ5.out.keep HNK.out)
        have e0 : wK.cell? ⟨q, 0, none⟩ = some (.int .i64 (k : Int)) := (HQK.out.cell 0).trans rfl
        have e1 : wK.cell? ⟨q, 1, none⟩ = some (.int .i64 (f : Int)) := (HQK.out.cell 1).trans rfl
        have e2 : wK.cell? ⟨q, 2, none⟩ = some (.int .i64 (t : Int)) := (HQK.out.cell 2).trans rfl
        have e3 : wK.cell? ⟨q, 3, none⟩ = some ((.slice A' n c')) := (HQK.out.cell 3).trans rfl
        have e4 : wK.cell? ⟨q, 4, none⟩ = some (.int .i64 0) := (HQK.out.cell 4).trans rfl
        clear hNK
        refine hK.out _ _ ?_ (fun hHeld => ?_)
        · (exact MsgR.held2 (by with_reducible repeat (first | exact HRs.out | exact HRM.out | exact HRH.out | exact HRK.out | exact HRr5.out | refine MsgR.drew ?_ | refine MsgR.drewN ?_ _ | refine MsgR.alloc ?_ _)))
        clear hK K
        try simp only [Act.put, List.setIfInBounds_toArray, List.set_cons_zero, List.set_cons_succ]
        refine wpAnyH_ready (rs := [6]) (by kernel_rfl) (by simp) ?_
        refine (AllReadyH.cons rfl (fun K hK => ?_) AllReadyH.nil)
        go_simp
        refine hK.out _ _ ?_ (fun hHeld => ?_)
        · (exact MsgR.held2 (by with_reducible repeat (first | exact HRs.out | exact HRM.out | exact HRH.out | exact HRK.out | exact HRr5.out | refine MsgR.drew ?_ | refine MsgR.drewN ?_ _ | refine MsgR.alloc ?_ _)))
        clear hK K
        try simp only [Act.put, List.setIfInBounds_toArray, List.set_cons_zero, List.set_cons_succ]
        refine wpAnyH_ready (rs := [7]) (by kernel_rfl) (by simp) ?_
        refine (AllReadyH.cons rfl (fun K hK => ?_) AllReadyH.nil)
        go_simp
        go_at_call 64
        (with_reducible refine (HHe.out _ _ _ _).mono ?_)
        rintro e wH ⟨h, rfl, hh, hrH, hNH⟩
        have HNH : Hid (New w5 wH) := HNK.out.then_new (Chg.new_then (by with_reducible repeat (first | exact Chg.refl _ _ | refine Chg.drew ?_ | refine Chg.drewN ?_ _ | refine Chg.alloc ?_ _)) hNH)
        have HRH := Lib.hid (HRr5.out.new HNH.out)
        have HrH := Lib.hid hrH
        clear hNH hh hrH
        refine hK.out _ _ ?_ (fun hHeld => ?_)
        · (exact MsgR.held2 (by with_reducible repeat (first | exact HRs.out | exact HRM.out | exact HRH.out | exact HRK.out | exact HRr5.out | refine MsgR.drew ?_ | refine MsgR.drewN ?_ _ | refine MsgR.alloc ?_ _)))
        clear hK K
        try simp only [Act.put, List.setIfInBounds_toArray, List.set_cons_zero, List.set_cons_succ]
        refine wpAnyH_ready (rs := [10]) (by kernel_rfl) (by simp) ?_
        refine (AllReadyH.cons rfl (fun K hK => ?_) AllReadyH.nil)
        go_simp
        refine hK.out _ _ ?_ (fun hHeld => ?_)
        · (exact MsgR.held2 (by with_reducible repeat (first | exact HRs.out | exact HRM.out | exact HRH.out | exact HRK.out | exact HRr5.out | refine MsgR.drew ?_ | refine MsgR.drewN ?_ _ | refine MsgR.alloc ?_ _)))
        clear hK K
        try simp only [Act.put, List.setIfInBounds_toArray, List.set_cons_zero, List.set_cons_succ]
        refine wpAnyH_ready (rs := [11]) (by kernel_rfl) (by simp) ?_
        refine (AllReadyH.cons rfl (fun K hK => ?_) AllReadyH.nil)
        go_simp
        go_at_call 59
        (with_reducible refine (HMt.out _ _ _ _ _ _ _ (HM.out.new (HN5.out.then_new (HNH.out.then_new (by with_reducible repeat (first | exact Chg.refl _ _ | refine Chg.drew ?_ | refine Chg.drewN ?_ _ | refine Chg.alloc ?_ _))))) (HrH.out.new (by with_reducible repeat (first | exact Chg.refl _ _ | refine Chg.drew ?_ | refine Chg.drewN ?_ _ | refine Chg.alloc ?_ _))) (HBy5.out.new (HNH.out.then_new (by with_reducible repeat (first | exact Chg.refl _ _ | refine Chg.drew ?_ | refine Chg.drewN ?_ _ | refine Chg.alloc ?_ _))) (fun k hk => hk)) (fun k hk => Nat.lt_of_lt_of_le hk (Nat.le_trans HNH.out.size (Chg.size (S := fun _ => False) (by with_reducible repeat (first | exact Chg.refl _ _ | refine Chg.drew ?_ | refine Chg.drewN ?_ _ | refine Chg.alloc ?_ _))))) (by with_reducible first | exact Has.new _ _ _ | exact (Has.new _ _ _).drew | exact Has.drewN (Has.new _ _ _) _)).mono ?_)
        rintro e wM ⟨rfl, hOM, hCM⟩
        have HOM := Lib.hid hOM
        have HQM := Lib.hid ((HQ5.out.keep (HNH.out.then_new (by with_reducible repeat (first | exact Chg.refl _ _ | refine Chg.drew ?_ | refine Chg.drewN ?_ _ | refine Chg.alloc ?_ _)))).chg hCM (not_OS (HQ5.out.keep (HNH.out.then_new (by with_reducible repeat (first | exact Chg.refl _ _ | refine Chg.drew ?_ | refine Chg.drewN ?_ _ | refine Chg.alloc ?_ _)))) (by decide) (by decide)))
        have HGM := Lib.hid ((HRr5.out.2.keep (HNH.out.then_new (by with_reducible repeat (first | exact Chg.refl _ _ | refine Chg.drew ?_ | refine Chg.drewN ?_ _ | refine Chg.alloc ?_ _)))).chg hCM (not_OS (HRr5.out.2.keep (HNH.out.then_new (by with_reducible repeat (first | exact Chg.refl _ _ | refine Chg.drew ?_ | refine Chg.drewN ?_ _ | refine Chg.alloc ?_ _)))) (by decide) (by decide)))
        have HRM : Hid (MsgR q g _ _ wM) := ⟨HQM.out, HGM.out⟩
        have HRbM := Lib.hid ((HR5.out.keep (HNH.out.then_new (by with_reducible repeat (first | exact Chg.refl _ _ | refine Chg.drew ?_ | refine Chg.drewN ?_ _ | refine Chg.alloc ?_ _)))).chg hCM (not_OS (HR5.out.keep (HNH.out.then_new (by with_reducible repeat (first | exact Chg.refl _ _ | refine Chg.drew ?_ | refine Chg.drewN ?_ _ | refine Chg.alloc ?_ _)))) (by decide) (by decide)))
        have HPM := Lib.hid (own_OS5 (own_new HO5.out (HNH.out.then_new (by with_reducible repeat (first | exact Chg.refl _ _ | refine Chg.drew ?_ | refine Chg.drewN ?_ _ | refine Chg.alloc ?_ _)))) hCM)
        have HCM := Lib.hid (OS.of_new (HN5.out.then_new (HNH.out.then_new (by with_reducible repeat (first | exact Chg.refl _ _ | refine Chg.drew ?_ | refine Chg.drewN ?_ _ | refine Chg.alloc ?_ _)))) hCM)
        have zM := HQM.out.free 4
        have cM : wM.cell? ⟨q, 4, none⟩ = some (.int .i64 0) := (HQM.out.cell 4).trans rfl
        have hqs : Has (wM.setCell ⟨q, 4, none⟩ (.int .i64 (T : Int))) q 59 #[.int .i64 (k : Int), .int .i64 (f : Int), .int .i64 (t : Int), .slice A' n c', .int .i64 (T : Int)] := by have := HQM.out.set 4 (.int .i64 (T : Int)); simpa using this
        have hgs : Has (wM.setCell ⟨q, 4, none⟩ (.int .i64 (T : Int))) g 129 (mdC b (f : Int) acc nn) := HGM.out.far (fun e => (HQM.out.apart HGM.out (by decide)) e.symm) _
        have HRs : Hid (MsgR q g _ _ (wM.setCell ⟨q, 4, none⟩ (.int .i64 (T : Int)))) := ⟨hqs, hgs⟩
        clear hOM hCM hqs hgs
        refine hK.out _ _ ?_ (fun hHeld => ?_)
        · (exact MsgR.held2 (by with_reducible repeat (first | exact HRs.out | exact HRM.out | exact HRH.out | exact HRK.out | exact HRr5.out | refine MsgR.drew ?_ | refine MsgR.drewN ?_ _ | refine MsgR.alloc ?_ _)))
        clear hK K
        try simp only [Act.put, List.setIfInBounds_toArray, List.set_cons_zero, List.set_cons_succ]
        refine takeH (i := 12) (d := 36) (v := .pointer (some ⟨q, 4, none⟩)) rfl rfl (by kernel_rfl) (by kernel_rfl) (by kernel_rfl) (fun _ _ _ h => h) (Or.inl ⟨by rfl, ?_⟩) (by assumption) ?_
        · (intro w hSw; (try dsimp only at hSw); go_simp; try with_reducible rfl)
        simp only [List.setIfInBounds_toArray, List.set_cons_zero, List.set_cons_succ]
        refine wpAnyH_ready (rs := [13]) (by kernel_rfl) (by simp) ?_
        refine (AllReadyH.cons rfl (fun K hK => ?_) AllReadyH.nil)
        go_simp
        refine hK.out _ _ ?_ (fun hHeld => ?_)
        · (exact MsgR.held2 (by with_reducible repeat (first | exact HRs.out | exact HRM.out | exact HRH.out | exact HRK.out | exact HRr5.out | refine MsgR.drew ?_ | refine MsgR.drewN ?_ _ | refine MsgR.alloc ?_ _)))
        clear hK K
        try simp only [Act.put, List.setIfInBounds_toArray, List.set_cons_zero, List.set_cons_succ]
        refine wpAnyH_done (by kernel_rfl) ?_ _
        go_wp2_with fail
        go_meet
        case rel =>
          have hs : Chg (· = q) wM (wM.setCell ⟨q, 4, none⟩ (.int .i64 (T : Int))) := Chg.setCell (S := (· = q)) (Chg.refl _ _) (fun _ => rfl) _
          have hq : Has (wM.setCell ⟨q, 4, none⟩ (.int .i64 (T : Int))) q 59 #[.int .i64 (k : Int), .int .i64 (f : Int), .int .i64 (t : Int), .slice A' n c', .int .i64 (T : Int)] := by have := HQM.out.set 4 (.int .i64 (T : Int)); simpa using this
          exact ⟨rfl, hq, HRbM.out.chg hs Hqr.out.symm, own_setg HPM.out hs Hqo.out, HOM.out.setg HQM.out (by decide) (by decide) hs, HCM.out.trans hs (fun i hi e => by have := Hqs.out; omega)⟩
      · go_simp
        refine hK.out _ _ ?_ (fun hHeld => ?_)
        · (exact MsgR.held2 (by with_reducible repeat (first | exact HRs.out | exact HRM.out | exact HRH.out | exact HRK.out | exact HRr5.out | refine MsgR.drew ?_ | refine MsgR.drewN ?_ _ | refine MsgR.alloc ?_ _)))
        clear hK K
        try simp only [Act.put, List.setIfInBounds_toArray, List.set_cons_zero, List.set_cons_succ]
        refine wpAnyH_ready (rs := [5]) (by kernel_rfl) (by simp) ?_
        refine (AllReadyH.cons rfl (fun K hK => ?_) AllReadyH.nil)
        go_simp
        go_at_call 63
        (with_reducible refine (HKe.out _ _ _ _).mono ?_)
        rintro e wK ⟨rfl, hNK⟩
        have HNK : Hid (New w5 wK) := Chg.new_then (by with_reducible repeat (first | exact Chg.refl _ _ | refine Chg.drew ?_ | refine Chg.drewN ?_ _ | refine Chg.alloc ?_ _)) hNK
        have HRK := Lib.hid (HRr5.out.new HNK.out)
        have HQK := Lib.hid (HQ5.out.keep HNK.out)
        have e0 : wK.cell? ⟨q, 0, none⟩ = some (.int .i64 (k : Int)) := (HQK.out.cell 0).trans rfl
        have e1 : wK.cell? ⟨q, 1, none⟩ = some (.int .i64 (f : Int)) := (HQK.out.cell 1).trans rfl
        have e2 : wK.cell? ⟨q, 2, none⟩ = some (.int .i64 (t : Int)) := (HQK.out.cell 2).trans rfl
        have e3 : wK.cell? ⟨q, 3, none⟩ = some ((.slice A' n c')) := (HQK.out.cell 3).trans rfl
        have e4 : wK.cell? ⟨q, 4, none⟩ = some (.int .i64 0) := (HQK.out.cell 4).trans rfl
        clear hNK
        refine hK.out _ _ ?_ (fun hHeld => ?_)
        · (exact MsgR.held2 (by with_reducible repeat (first | exact HRs.out | exact HRM.out | exact HRH.out | exact HRK.out | exact HRr5.out | refine MsgR.drew ?_ | refine MsgR.drewN ?_ _ | refine MsgR.alloc ?_ _)))
        clear hK K
        try simp only [Act.put, List.setIfInBounds_toArray, List.set_cons_zero, List.set_cons_succ]
        refine wpAnyH_ready (rs := [7]) (by kernel_rfl) (by simp) ?_
        refine (AllReadyH.cons rfl (fun K hK => ?_) AllReadyH.nil)
        go_simp
        go_at_call 64
        (with_reducible refine (HHe.out _ _ _ _).mono ?_)
        rintro e wH ⟨h, rfl, hh, hrH, hNH⟩
        have HNH : Hid (New w5 wH) := HNK.out.then_new (Chg.new_then (by with_reducible repeat (first | exact Chg.refl _ _ | refine Chg.drew ?_ | refine Chg.drewN ?_ _ | refine Chg.alloc ?_ _)) hNH)
        have HRH := Lib.hid (HRr5.out.new HNH.out)
        have HrH := Lib.hid hrH
        clear hNH hh hrH
        refine hK.out _ _ ?_ (fun hHeld => ?_)
        · (exact MsgR.held2 (by with_reducible repeat (first | exact HRs.out | exact HRM.out | exact HRH.out | exact HRK.out | exact HRr5.out | refine MsgR.drew ?_ | refine MsgR.drewN ?_ _ | refine MsgR.alloc ?_ _)))
        clear hK K
        try simp only [Act.put, List.setIfInBounds_toArray, List.set_cons_zero, List.set_cons_succ]
        refine wpAnyH_ready (rs := [10]) (by kernel_rfl) (by simp) ?_
        refine (AllReadyH.cons rfl (fun K hK => ?_) AllReadyH.nil)
        go_simp
        refine hK.out _ _ ?_ (fun hHeld => ?_)
        · (exact MsgR.held2 (by with_reducible repeat (first | exact HRs.out | exact HRM.out | exact HRH.out | exact HRK.out | exact HRr5.out | refine MsgR.drew ?_ | refine MsgR.drewN ?_ _ | refine MsgR.alloc ?_ _)))
        clear hK K
        try simp only [Act.put, List.setIfInBounds_toArray, List.set_cons_zero, List.set_cons_succ]
        refine wpAnyH_ready (rs := [11]) (by kernel_rfl) (by simp) ?_
        refine (AllReadyH.cons rfl (fun K hK => ?_) AllReadyH.nil)
        go_simp
        go_at_call 59
        (with_reducible refine (HMt.out _ _ _ _ _ _ _ (HM.out.new (HN5.out.then_new (HNH.out.then_new (by with_reducible repeat (first | exact Chg.refl _ _ | refine Chg.drew ?_ | refine Chg.drewN ?_ _ | refine Chg.alloc ?_ _))))) (HrH.out.new (by with_reducible repeat (first | exact Chg.refl _ _ | refine Chg.drew ?_ | refine Chg.drewN ?_ _ | refine Chg.alloc ?_ _))) (HBy5.out.new (HNH.out.then_new (by with_reducible repeat (first | exact Chg.refl _ _ | refine Chg.drew ?_ | refine Chg.drewN ?_ _ | refine Chg.alloc ?_ _))) (fun k hk => hk)) (fun k hk => Nat.lt_of_lt_of_le hk (Nat.le_trans HNH.out.size (Chg.size (S := fun _ => False) (by with_reducible repeat (first | exact Chg.refl _ _ | refine Chg.drew ?_ | refine Chg.drewN ?_ _ | refine Chg.alloc ?_ _))))) (by with_reducible first | exact Has.new _ _ _ | exact (Has.new _ _ _).drew | exact Has.drewN (Has.new _ _ _) _)).mono ?_)
        rintro e wM ⟨rfl, hOM, hCM⟩
        have HOM := Lib.hid hOM
        have HQM := Lib.hid ((HQ5.out.keep (HNH.out.then_new (by with_reducible repeat (first | exact Chg.refl _ _ | refine Chg.drew ?_ | refine Chg.drewN ?_ _ | refine Chg.alloc ?_ _)))).chg hCM (not_OS (HQ5.out.keep (HNH.out.then_new (by with_reducible repeat (first | exact Chg.refl _ _ | refine Chg.drew ?_ | refine Chg.drewN ?_ _ | refine Chg.alloc ?_ _)))) (by decide) (by decide)))
        have HGM := Lib.hid ((HRr5.out.2.keep (HNH.out.then_new (by with_reducible repeat (first | exact Chg.refl _ _ | refine Chg.drew ?_ | refine Chg.drewN ?_ _ | refine Chg.alloc ?_ _)))).chg hCM (not_OS (HRr5.out.2.keep (HNH.out.then_new (by with_reducible repeat (first | exact Chg.refl _ _ | refine Chg.drew ?_ | refine Chg.drewN ?_ _ | refine Chg.alloc ?_ _)))) (by decide) (by decide)))
        have HRM : Hid (MsgR q g _ _ wM) := ⟨HQM.out, HGM.out⟩
        have HRbM := Lib.hid ((HR5.out.keep (HNH.out.then_new (by with_reducible repeat (first | exact Chg.refl _ _ | refine Chg.drew ?_ | refine Chg.drewN ?_ _ | refine Chg.alloc ?_ _)))).chg hCM (not_OS (HR5.out.keep (HNH.out.then_new (by with_reducible repeat (first | exact Chg.refl _ _ | refine Chg.drew ?_ | refine Chg.drewN ?_ _ | refine Chg.alloc ?_ _)))) (by decide) (by decide)))
        have HPM := Lib.hid (own_OS5 (own_new HO5.out (HNH.out.then_new (by with_reducible repeat (first | exact Chg.refl _ _ | refine Chg.drew ?_ | refine Chg.drewN ?_ _ | refine Chg.alloc ?_ _)))) hCM)
        have HCM := Lib.hid (OS.of_new (HN5.out.then_new (HNH.out.then_new (by with_reducible repeat (first | exact Chg.refl _ _ | refine Chg.drew ?_ | refine Chg.drewN ?_ _ | refine Chg.alloc ?_ _)))) hCM)
        have zM := HQM.out.free 4
        have cM : wM.cell? ⟨q, 4, none⟩ = some (.int .i64 0) := (HQM.out.cell 4).trans rfl
        have hqs : Has (wM.setCell ⟨q, 4, none⟩ (.int .i64 (T : Int))) q 59 #[.int .i64 (k : Int), .int .i64 (f : Int), .int .i64 (t : Int), .slice A' n c', .int .i64 (T : Int)] := by have := HQM.out.set 4 (.int .i64 (T : Int)); simpa using this
        have hgs : Has (wM.setCell ⟨q, 4, none⟩ (.int .i64 (T : Int))) g 129 (mdC b (f : Int) acc nn) := HGM.out.far (fun e => (HQM.out.apart HGM.out (by decide)) e.symm) _
        have HRs : Hid (MsgR q g _ _ (wM.setCell ⟨q, 4, none⟩ (.int .i64 (T : Int)))) := ⟨hqs, hgs⟩
        clear hOM hCM hqs hgs
        refine hK.out _ _ ?_ (fun hHeld => ?_)
        · (exact MsgR.held2 (by with_reducible repeat (first | exact HRs.out | exact HRM.out | exact HRH.out | exact HRK.out | exact HRr5.out | refine MsgR.drew ?_ | refine MsgR.drewN ?_ _ | refine MsgR.alloc ?_ _)))
        clear hK K
        try simp only [Act.put, List.setIfInBounds_toArray, List.set_cons_zero, List.set_cons_succ]
        refine takeH (i := 12) (d := 36) (v := .pointer (some ⟨q, 4, none⟩)) rfl rfl (by kernel_rfl) (by kernel_rfl) (by kernel_rfl) (fun _ _ _ h => h) (Or.inl ⟨by rfl, ?_⟩) (by assumption) ?_
        · (intro w hSw; (try dsimp only at hSw); go_simp; try with_reducible rfl)
        simp only [List.setIfInBounds_toArray, List.set_cons_zero, List.set_cons_succ]
        refine wpAnyH_ready (rs := [13]) (by kernel_rfl) (by simp) ?_
        refine (AllReadyH.cons rfl (fun K hK => ?_) AllReadyH.nil)
        go_simp
        refine hK.out _ _ ?_ (fun hHeld => ?_)
        · (exact MsgR.held2 (by with_reducible repeat (first | exact HRs.out | exact HRM.out | exact HRH.out | exact HRK.out | exact HRr5.out | refine MsgR.drew ?_ | refine MsgR.drewN ?_ _ | refine MsgR.alloc ?_ _)))
        clear hK K
        try simp only [Act.put, List.setIfInBounds_toArray, List.set_cons_zero, List.set_cons_succ]
        refine wpAnyH_done (by kernel_rfl) ?_ _
        go_wp2_with fail
        go_meet
        case rel =>
          have hs : Chg (· = q) wM (wM.setCell ⟨q, 4, none⟩ (.int .i64 (T : Int))) := Chg.setCell (S := (· = q)) (Chg.refl _ _) (fun _ => rfl) _
          have hq : Has (wM.setCell ⟨q, 4, none⟩ (.int .i64 (T : Int))) q 59 #[.int .i64 (k : Int), .int .i64 (f : Int), .int .i64 (t : Int), .slice A' n c', .int .i64 (T : Int)] := by have := HQM.out.set 4 (.int .i64 (T : Int)); simpa using this
          exact ⟨rfl, hq, HRbM.out.chg hs Hqr.out.symm, own_setg HPM.out hs Hqo.out, HOM.out.setg HQM.out (by decide) (by decide) hs, HCM.out.trans hs (fun i hi e => by have := Hqs.out; omega)⟩
    · go_simp
      refine hK.out _ _ ?_ (fun hHeld => ?_)
      · (exact MsgR.held2 (by with_reducible repeat (first | exact HRs.out | exact HRM.out | exact HRH.out | exact HRK.out | exact HRr5.out | refine MsgR.drew ?_ | refine MsgR.drewN ?_ _ | refine MsgR.alloc ?_ _)))
      clear hK K
      try simp only [Act.put, List.setIfInBounds_toArray, List.set_cons_zero, List.set_cons_succ]
      refine wpAnyH_ready (rs := [4]) (by kernel_rfl) (by simp) ?_
      refine (AllReadyH.cons rfl (fun K hK => ?_) AllReadyH.nil)
      go_simp
      refine hK.out _ _ ?_ (fun hHeld => ?_)
      · (exact MsgR.held2 (by with_reducible repeat (first | exact HRs.out | exact HRM.out | exact HRH.out | exact HRK.out | exact HRr5.out | refine MsgR.drew ?_ | refine MsgR.drewN ?_ _ | refine MsgR.alloc ?_ _)))
      clear hK K
      try simp only [Act.put, List.setIfInBounds_toArray, List.set_cons_zero, List.set_cons_succ]
      refine wpAnyH_ready (rs := [5]) (by kernel_rfl) (by simp) ?_
      refine (AllReadyH.cons rfl (fun K hK => ?_) AllReadyH.nil)
      go_simp
      go_at_call 63
      (with_reducible refine (HKe.out _ _ _ _).mono ?_)
      rintro e wK ⟨rfl, hNK⟩
      have HNK : Hid (New w5 wK) := Chg.new_then (by with_reducible repeat (first | exact Chg.refl _ _ | refine Chg.drew ?_ | refine Chg.drewN ?_ _ | refine Chg.alloc ?_ _)) hNK
      have HRK := Lib.hid (HRr5.out.new HNK.out)
      have HQK := Lib.hid (HQ5.out.keep HNK.out)
      have e0 : wK.cell? ⟨q, 0, none⟩ = some (.int .i64 (k : Int)) := (HQK.out.cell 0).trans rfl
      have e1 : wK.cell? ⟨q, 1, none⟩ = some (.int .i64 (f : Int)) := (HQK.out.cell 1).trans rfl
      have e2 : wK.cell? ⟨q, 2, none⟩ = some (.int .i64 (t : Int)) := (HQK.out.cell 2).trans rfl
      have e3 : wK.cell? ⟨q, 3, none⟩ = some ((.slice A' n c')) := (HQK.out.cell 3).trans rfl
      have e4 : wK.cell? ⟨q, 4, none⟩ = some (.int .i64 0) := (HQK.out.cell 4).trans rfl
      clear hNK
      refine hK.out _ _ ?_ (fun hHeld => ?_)
      · (exact MsgR.held2 (by with_reducible repeat (first | exact HRs.out | exact HRM.out | exact HRH.out | exact HRK.out | exact HRr5.out | refine MsgR.drew ?_ | refine MsgR.drewN ?_ _ | refine MsgR.alloc ?_ _)))
      clear hK K
      try simp only [Act.put, List.setIfInBounds_toArray, List.set_cons_zero, List.set_cons_succ]
      refine wpAnyH_ready (rs := [7]) (by kernel_rfl) (by simp) ?_
      refine (AllReadyH.cons rfl (fun K hK => ?_) AllReadyH.nil)
      go_simp
      go_at_call 64
      (with_reducible refine (HHe.out _ _ _ _).mono ?_)
      rintro e wH ⟨h, rfl, hh, hrH, hNH⟩
      have HNH : Hid (New w5 wH) := HNK.out.then_new (Chg.new_then (by with_reducible repeat (first | exact Chg.refl _ _ | refine Chg.drew ?_ | refine Chg.drewN ?_ _ | refine Chg.alloc ?_ _)) hNH)
      have HRH := Lib.hid (HRr5.out.new HNH.out)
      have HrH := Lib.hid hrH
      clear hNH hh hrH
      refine hK.out _ _ ?_ (fun hHeld => ?_)
      · (exact MsgR.held2 (by with_reducible repeat (first | exact HRs.out | exact HRM.out | exact HRH.out | exact HRK.out | exact HRr5.out | refine MsgR.drew ?_ | refine MsgR.drewN ?_ _ | refine MsgR.alloc ?_ _)))
      clear hK K
      try simp only [Act.put, List.setIfInBounds_toArray, List.set_cons_zero, List.set_cons_succ]
      refine wpAnyH_ready (rs := [10]) (by kernel_rfl) (by simp) ?_
      refine (AllReadyH.cons rfl (fun K hK => ?_) AllReadyH.nil)
      go_simp
      refine hK.out _ _ ?_ (fun hHeld => ?_)
      · (exact MsgR.held2 (by with_reducible repeat (first | exact HRs.out | exact HRM.out | exact HRH.out | exact HRK.out | exact HRr5.out | refine MsgR.drew ?_ | refine MsgR.drewN ?_ _ | refine MsgR.alloc ?_ _)))
      clear hK K
      try simp only [Act.put, List.setIfInBounds_toArray, List.set_cons_zero, List.set_cons_succ]
      refine wpAnyH_ready (rs := [11]) (by kernel_rfl) (by simp) ?_
      refine (AllReadyH.cons rfl (fun K hK => ?_) AllReadyH.nil)
      go_simp
      go_at_call 59
      (with_reducible refine (HMt.out _ _ _ _ _ _ _ (HM.out.new (HN5.out.then_new (HNH.out.then_new (by with_reducible repeat (first | exact Chg.refl _ _ | refine Chg.drew ?_ | refine Chg.drewN ?_ _ | refine Chg.alloc ?_ _))))) (HrH.out.new (by with_reducible repeat (first | exact Chg.refl _ _ | refine Chg.drew ?_ | refine Chg.drewN ?_ _ | refine Chg.alloc ?_ _))) (HBy5.out.new (HNH.out.then_new (by with_reducible repeat (first | exact Chg.refl _ _ | refine Chg.drew ?_ | refine Chg.drewN ?_ _ | refine Chg.alloc ?_ _))) (fun k hk => hk)) (fun k hk => Nat.lt_of_lt_of_le hk (Nat.le_trans HNH.out.size (Chg.size (S := fun _ => False) (by with_reducible repeat (first | exact Chg.refl _ _ | refine Chg.drew ?_ | refine Chg.drewN ?_ _ | refine Chg.alloc ?_ _))))) (by with_reducible first | exact Has.new _ _ _ | exact (Has.new _ _ _).drew | exact Has.drewN (Has.new _ _ _) _)).mono ?_)
      rintro e wM ⟨rfl, hOM, hCM⟩
      have HOM := Lib.hid hOM
      have HQM := Lib.hid ((HQ5.out.keep (HNH.out.then_new (by with_reducible repeat (first | exact Chg.refl _ _ | refine Chg.drew ?_ | refine Chg.drewN ?_ _ | refine Chg.alloc ?_ _)))).chg hCM (not_OS (HQ5.out.keep (HNH.out.then_new (by with_reducible repeat (first | exact Chg.refl _ _ | refine Chg.drew ?_ | refine Chg.drewN ?_ _ | refine Chg.alloc ?_ _)))) (by decide) (by decide)))
      have HGM := Lib.hid ((HRr5.out.2.keep (HNH.out.then_new (by with_reducible repeat (first | exact Chg.refl _ _ | refine Chg.drew ?_ | refine Chg.drewN ?_ _ | refine Chg.alloc ?_ _)))).chg hCM (not_OS (HRr5.out.2.keep (HNH.out.then_new (by with_reducible repeat (first | exact Chg.refl _ _ | refine Chg.drew ?_ | refine Chg.drewN ?_ _ | refine Chg.alloc ?_ _)))) (by decide) (by decide)))
      have HRM : Hid (MsgR q g _ _ wM) := ⟨HQM.out, HGM.out⟩
      have HRbM := Lib.hid ((HR5.out.keep (HNH.out.then_new (by with_reducible repeat (first | exact Chg.refl _ _ | refine Chg.drew ?_ | refine Chg.drewN ?_ _ | refine Chg.alloc ?_ _)))).chg hCM (not_OS (HR5.out.keep (HNH.out.then_new (by with_reducible repeat (first | exact Chg.refl _ _ | refine Chg.drew ?_ | refine Chg.drewN ?_ _ | refine Chg.alloc ?_ _)))) (by decide) (by decide)))
      have HPM := Lib.hid (own_OS5 (own_new HO5.out (HNH.out.then_new (by with_reducible repeat (first | exact Chg.refl _ _ | refine Chg.drew ?_ | refine Chg.drewN ?_ _ | refine Chg.alloc ?_ _)))) hCM)
      have HCM := Lib.hid (OS.of_new (HN5.out.then_new (HNH.out.then_new (by with_reducible repeat (first | exact Chg.refl _ _ | refine Chg.drew ?_ | refine Chg.drewN ?_ _ | refine Chg.alloc ?_ _)))) hCM)
      have zM := HQM.out.free 4
      have cM : wM.cell? ⟨q, 4, none⟩ = some (.int .i64 0) := (HQM.out.cell 4).trans rfl
      have hqs : Has (wM.setCell ⟨q, 4, none⟩ (.int .i64 (T : Int))) q 59 #[.int .i64 (k : Int), .int .i64 (f : Int), .int .i64 (t : Int), .slice A' n c', .int .i64 (T : Int)] := by have := HQM.out.set 4 (.int .i64 (T : Int)); simpa using this
      have hgs : Has (wM.setCell ⟨q, 4, none⟩ (.int .i64 (T : Int))) g 129 (mdC b (f : Int) acc nn) := HGM.out.far (fun e => (HQM.out.apart HGM.out (by decide)) e.symm) _
      have HRs : Hid (MsgR q g _ _ (wM.setCell ⟨q, 4, none⟩ (.int .i64 (T : Int)))) := ⟨hqs, hgs⟩
      clear hOM hCM hqs hgs
      refine hK.out _ _ ?_ (fun hHeld => ?_)
      · (exact MsgR.held2 (by with_reducible repeat (first | exact HRs.out | exact HRM.out | exact HRH.out | exact HRK.out | exact HRr5.out | refine MsgR.drew ?_ | refine MsgR.drewN ?_ _ | refine MsgR.alloc ?_ _)))
      clear hK K
      try simp only [Act.put, List.setIfInBounds_toArray, List.set_cons_zero, List.set_cons_succ]
      refine takeH (i := 12) (d := 36) (v := .pointer (some ⟨q, 4, none⟩)) rfl rfl (by kernel_rfl) (by kernel_rfl) (by kernel_rfl) (fun _ _ _ h => h) (Or.inl ⟨by rfl, ?_⟩) (by assumption) ?_
      · (intro w hSw; (try dsimp only at hSw); go_simp; try with_reducible rfl)
      simp only [List.setIfInBounds_toArray, List.set_cons_zero, List.set_cons_succ]
      refine wpAnyH_ready (rs := [13]) (by kernel_rfl) (by simp) ?_
      refine (AllReadyH.cons rfl (fun K hK => ?_) AllReadyH.nil)
      go_simp
      refine hK.out _ _ ?_ (fun hHeld => ?_)
      · (exact MsgR.held2 (by with_reducible repeat (first | exact HRs.out | exact HRM.out | exact HRH.out | exact HRK.out | exact HRr5.out | refine MsgR.drew ?_ | refine MsgR.drewN ?_ _ | refine MsgR.alloc ?_ _)))
      clear hK K
      try simp only [Act.put, List.setIfInBounds_toArray, List.set_cons_zero, List.set_cons_succ]
      refine wpAnyH_done (by kernel_rfl) ?_ _
      go_wp2_with fail
      go_meet
      case rel =>
        have hs : Chg (· = q) wM (wM.setCell ⟨q, 4, none⟩ (.int .i64 (T : Int))) := Chg.setCell (S := (· = q)) (Chg.refl _ _) (fun _ => rfl) _
        have hq : Has (wM.setCell ⟨q, 4, none⟩ (.int .i64 (T : Int))) q 59 #[.int .i64 (k : Int), .int .i64 (f : Int), .int .i64 (t : Int), .slice A' n c', .int .i64 (T : Int)] := by have := HQM.out.set 4 (.int .i64 (T : Int)); simpa using this
        exact ⟨rfl, hq, HRbM.out.chg hs Hqr.out.symm, own_setg HPM.out hs Hqo.out, HOM.out.setg HQM.out (by decide) (by decide) hs, HCM.out.trans hs (fun i hi e => by have := Hqs.out; omega)⟩
  case rest =>
  obtain ⟨rfl, hq6, hr6, ho6, hO6, hC6⟩ := hcut
  obtain ⟨w6, hw6⟩ : ∃ w6, w6 = wc := ⟨_, rfl⟩
  rw [← hw6] at hq6 hr6 ho6 hO6 hC6 ⊢
  clear hw6
  have HQ6 := Lib.hid hq6
  have HR6 := Lib.hid hr6
  have HP6 := Lib.hid ho6
  have HO6 := Lib.hid hO6
  have HC6 := Lib.hid hC6
  clear hq6 hr6 ho6 hO6 hC6 d0 d1 d2 d3 d4 m0 HKe HHe HMt
  have d0 : w6.cell? ⟨q, 0, none⟩ = some (.int .i64 (k : Int)) := (HQ6.out.cell 0).trans rfl
  have d1 : w6.cell? ⟨q, 1, none⟩ = some (.int .i64 (f : Int)) := (HQ6.out.cell 1).trans rfl
  have d2 : w6.cell? ⟨q, 2, none⟩ = some (.int .i64 (t : Int)) := (HQ6.out.cell 2).trans rfl
  have d3 : w6.cell? ⟨q, 3, none⟩ = some ((.slice A' n c')) := (HQ6.out.cell 3).trans rfl
  have d4 : w6.cell? ⟨q, 4, none⟩ = some (.int .i64 (T : Int)) := (HQ6.out.cell 4).trans rfl
  have r0 : w6.cell? ⟨rb, 0, none⟩ = some (.int .i64 0) := (HR6.out.cell 0).trans rfl
  have r1 : w6.cell? ⟨rb, 1, none⟩ = some (.int .i64 0) := (HR6.out.cell 1).trans rfl
  have r2 : w6.cell? ⟨rb, 2, none⟩ = some (.int .i64 0) := (HR6.out.cell 2).trans rfl
  have r3 : w6.cell? ⟨rb, 3, none⟩ = some (.slice none 0 0) := (HR6.out.cell 3).trans rfl
  have r4 : w6.cell? ⟨rb, 4, none⟩ = some (.int .i64 0) := (HR6.out.cell 4).trans rfl
  have z0 := HR6.out.free 0
  have z1 := HR6.out.free 1
  have z2 := HR6.out.free 2
  have z3 := HR6.out.free 3
  have z4 := HR6.out.free 4
  go_wp2_with fail
  obtain ⟨hX, hGX⟩ := setS HR6.out (.int .i64 (k : Int)) (.int .i64 (f : Int)) (.int .i64 (t : Int)) (.slice A' n c') (.int .i64 (T : Int))
  generalize (((((w6.setCell ⟨rb, 0, none⟩ (.int .i64 (k : Int))).setCell ⟨rb, 1, none⟩ (.int .i64 (f : Int))).setCell ⟨rb, 2, none⟩ (.int .i64 (t : Int))).setCell ⟨rb, 3, none⟩ (.slice A' n c')).setCell ⟨rb, 4, none⟩ (.int .i64 (T : Int))) = wX at hX hGX ⊢
  have g0 := (hX.cell 0).trans rfl
  have g1 := (hX.cell 1).trans rfl
  have g2 := (hX.cell 2).trans rfl
  have g3 := (hX.cell 3).trans rfl
  have g4 := (hX.cell 4).trans rfl
  refine bodyPost_ret (v := .tuple #[.agg #[.int .i64 (k : Int), .int .i64 (f : Int), .int .i64 (t : Int), .slice A' n c', .int .i64 (T : Int)], .int .i64 0]) (by simp [results, Try.results25, go_sem, g0, g1, g2, g3, g4]) rfl ?_
  exact ⟨A', c', rfl, own_setg HP6.out hGX (own_apart HP6.out HR6.out (by decide)), HO6.out.setg HR6.out (by decide) (by decide) hGX, HC6.out.trans hGX (fun i hi e => by have := Hrb.out; omega)⟩
end Go.Proofs.Ytkcokcanakljnaa
/-
  Package isam: Check.
-/
namespace Go.Proofs.Ytkcokcanakljnaa
open Go.ChangeShapes Go.WideShapes Go.ChangeAt Go.RowKit
set_option maxRecDepth 100000 in
theorem Check_no (k f t tk : Int) (A : Option Addr) (n c g : Nat) (w : World) (hok : msgB k f t = false) :
    Calls Try.prog 26 #[.pointer (some ⟨g, 0, none⟩), .agg #[.int .i64 k, .int .i64 f, .int .i64 t, .slice A n c, .int .i64 tk]] w fun e w' => e = .returned (.int .i64 2) ∧ New w w' := by
  have HRi : Hid (∀ (w : World), Calls Try.prog 62 #[.agg #[.int .i64 k, .int .i64 f, .int .i64 t, .slice A n c, .int .i64 tk]] w fun e w' => e = .returned (.bool false) ∧ New w w') := fun w => by rw [← hok]; exact mright_any k f t tk A n c w
  clear hok
  go_enter Try.func26, Try.ntmps26
  go_upto_region 1 with (fail)
  obtain ⟨w1, hw1⟩ : ∃ w1, w1 = w.alloc (.cells #[.int .i64 k, .int .i64 f, .int .i64 t, .slice A n c, .int .i64 tk] 59) := ⟨_, rfl⟩
  obtain ⟨q, hq⟩ : ∃ q, q = w.heap.size := ⟨_, rfl⟩
  have HQ1 : Hid (Has w1 q 59 #[.int .i64 k, .int .i64 f, .int .i64 t, .slice A n c, .int .i64 tk]) := by rw [hw1, hq]; exact Has.new _ _ _
  have HN1 : Hid (New w w1) := by rw [hw1]; exact (Chg.refl _ _).alloc _
  rw [← hw1, ← hq]
  clear hw1 hq
  have c0 : w1.cell? ⟨q, 0, none⟩ = some (.int .i64 k) := (HQ1.out.cell 0).trans rfl
  have c1 : w1.cell? ⟨q, 1, none⟩ = some (.int .i64 f) := (HQ1.out.cell 1).trans rfl
  have c2 : w1.cell? ⟨q, 2, none⟩ = some (.int .i64 t) := (HQ1.out.cell 2).trans rfl
  have c3 : w1.cell? ⟨q, 3, none⟩ = some ((.slice A n c)) := (HQ1.out.cell 3).trans rfl
  have c4 : w1.cell? ⟨q, 4, none⟩ = some (.int .i64 tk) := (HQ1.out.cell 4).trans rfl
  go_wp2_with fail
  with_reducible refine (HRi.out _).mono ?_
  rintro e w2 ⟨rfl, hN⟩
  have HN2 := Lib.hid (HN1.out.then_new hN)
  clear hN
  go_wp2_with fail
  go_ret
  exact ⟨rfl, HN2.out⟩
set_option maxRecDepth 100000 in
set_option maxHeartbeats 4000000 in
theorem Check_yes (k f t : Nat) (tk : Int) (A : Option Addr) (n c : Nat) (bs : List Nat) (F : Nat → Prop) (base b g : Nat) (o nn : Int) (acc : Nat → Bool) (M : List Sl) (w : World) (hG : Has w g 129 (mdC b o acc nn)) (hM : Orc w base b M) (hB : Byts w F (.slice A n c) bs) (hF : ∀ k, F k → k < w.heap.size) (hb : n ≤ 140737488351232) (hok : msgB k f t = true) :
    Calls Try.prog 26 #[.pointer (some ⟨g, 0, none⟩), .agg #[.int .i64 (k : Int), .int .i64 (f : Int), .int .i64 (t : Int), .slice A n c, .int .i64 tk]] w fun e w' => e = .returned (.int .i64 (if holdsB M (msgS k f t bs) tk = true then 0 else 23)) ∧ New w w' := by
  obtain ⟨hk, hf, ht⟩ := msgB_at hok
  have hbn := hB.len.1
  have HRi : Hid (∀ (w : World), Calls Try.prog 62 #[.agg #[.int .i64 (k : Int), .int .i64 (f : Int), .int .i64 (t : Int), .slice A n c, .int .i64 tk]] w fun e w' => e = .returned (.bool true) ∧ New w w') := fun w => by rw [← hok]; exact mright_any k f t tk A n c w
  have HKe : Hid (∀ (w : World), Calls Try.prog 63 #[.agg #[.int .i64 (k : Int), .int .i64 (f : Int), .int .i64 (t : Int), .slice A n c, .int .i64 tk]] w fun e w' => e = .returned (.agg #[.int .i64 (f : Int), .int .i64 0, .int .i64 0, .int .i64 1]) ∧ New w w') := fun w => messageKey_any k f t tk A n c w
  have HHe : Hid (∀ (w : World), Calls Try.prog 64 #[.agg #[.int .i64 (k : Int), .int .i64 (f : Int), .int .i64 (t : Int), .slice A n c, .int .i64 tk]] w fun e w' => ∃ h, e = .returned (.slice (some ⟨h, 0, none⟩) 3 3) ∧ w.heap.size ≤ h ∧ Row w' h [k, f, t] ∧ New w w') := fun w => messageHead_any k f t (by omega) (by omega) (by omega) tk A n c w
  have HHo : Hid (∀ (wx : World) (s h : Nat), New w wx → Row wx h [k, f, t] → Has wx s 27 #[.slice (some ⟨h, 0, none⟩) 3 3, .slice A n c] → Calls Try.prog 60 #[.pointer (some ⟨b, 0, none⟩), .int .i64 tk, .agg #[.int .i64 (f : Int), .int .i64 0, .int .i64 0, .int .i64 1], .slice (some ⟨s, 0, none⟩) 2 2] wx fun e w' => e = .returned (.bool (holdsB M (msgS k f t bs) tk)) ∧ New wx w') := fun wx s h hx hr hs => by
    have hL := lists_two (xs := [k, f, t]) rfl (by simp; omega) hr (hB.new hx hF) hs
    have := Holds_any base b M tk f 0 0 1 (wf_small (by omega) (by omega)) (by decide) (by decide) (by decide) _ 2 2 _ _ wx (hM.new hx) hL (fun k hk => by rcases hk with h1 | h1 | h1; exact Nat.lt_of_lt_of_le (hF k h1) hx.size; rw [h1]; exact hr.lt; rw [h1]; exact hs.lt) rfl (by omega) (by omega) (by simp; omega)
    rw [show [[k, f, t], bs].flatten = [k, f, t] ++ bs by simp] at this
    exact this
  have HG := Lib.hid hG
  obtain ⟨hh, hhh⟩ : ∃ hh, hh = holdsB M (msgS k f t bs) tk := ⟨_, rfl⟩
  rw [← hhh] at HHo ⊢
  clear hhh hG hM hB hF hb hok hk hf ht hbn
  go_enter Try.func26, Try.ntmps26
  go_upto_region 1 with (fail)
  obtain ⟨w1, hw1⟩ : ∃ w1, w1 = w.alloc (.cells #[.int .i64 (k : Int), .int .i64 (f : Int), .int .i64 (t : Int), .slice A n c, .int .i64 tk] 59) := ⟨_, rfl⟩
  obtain ⟨q, hq⟩ : ∃ q, q = w.heap.size := ⟨_, rfl⟩
  have HQ1 : Hid (Has w1 q 59 #[.int .i64 (k : Int), .int .i64 (f : Int), .int .i64 (t : Int), .slice A n c, .int .i64 tk]) := by rw [hw1, hq]; exact Has.new _ _ _
  have HN1 : Hid (New w w1) := by rw [hw1]; exact (Chg.refl _ _).alloc _
  rw [← hw1, ← hq]
  clear hw1 hq
  have c0 : w1.cell? ⟨q, 0, none⟩ = some (.int .i64 (k : Int)) := (HQ1.out.cell 0).trans rfl
  have c1 : w1.cell? ⟨q, 1, none⟩ = some (.int .i64 (f : Int)) := (HQ1.out.cell 1).trans rfl
  have c2 : w1.cell? ⟨q, 2, none⟩ = some (.int .i64 (t : Int)) := (HQ1.out.cell 2).trans rfl
  have c3 : w1.cell? ⟨q, 3, none⟩ = some ((.slice A n c)) := (HQ1.out.cell 3).trans rfl
  have c4 : w1.cell? ⟨q, 4, none⟩ = some (.int .i64 tk) := (HQ1.out.cell 4).trans rfl
  go_wp2_with fail
  with_reducible refine (HRi.out _).mono ?_
  rintro e w5 ⟨rfl, hN⟩
  have HQ5 := Lib.hid (HQ1.out.keep hN)
  have HN5 := Lib.hid (HN1.out.then_new hN)
  have HRr5 : Hid (MsgR q g #[.int .i64 (k : Int), .int .i64 (f : Int), .int .i64 (t : Int), .slice A n c, .int .i64 tk] (mdC b o acc nn) w5) := ⟨HQ5.out, HG.out.keep HN5.out⟩
  clear hN HN1 HQ1 HRi c0 c1 c2 c3 c4
  go_upto_region 3 with (fail)
  go_cut [22] (fun s22 wx => s22 = .bool (!hh) ∧ New w5 wx)
  case first =>
    go_region_held_law (fun wx => wx.cell? ⟨g, 0, none⟩ = some (.pointer (some ⟨b, 0, none⟩)) ∧ wx.cell? ⟨q, 0, none⟩ = some (.int .i64 (k : Int)) ∧ wx.cell? ⟨q, 1, none⟩ = some (.int .i64 (f : Int)) ∧ wx.cell? ⟨q, 2, none⟩ = some (.int .i64 (t : Int)) ∧ wx.cell? ⟨q, 3, none⟩ = some ((.slice A n c)) ∧ wx.cell? ⟨q, 4, none⟩ = some (.int .i64 tk))
      (first | exact MsgR.held HRr5.out.drew | exact MsgR.held (by with_reducible repeat (first | exact HRO.out | exact HRH.out | exact HRK.out | exact HRr5.out | refine MsgR.drew ?_ | refine MsgR.drewN ?_ _ | refine MsgR.alloc ?_ _)))
      (first
      | (go_at_call 63;
         (with_reducible refine (HKe.out _).mono ?_)
         rintro e wK ⟨rfl, hNK⟩
         have HNK : Hid (New w5 wK) := Chg.new_then (by with_reducible repeat (first | exact Chg.refl _ _ | refine Chg.drew ?_ | refine Chg.drewN ?_ _ | refine Chg.alloc ?_ _)) hNK
         have HRK := Lib.hid (HRr5.out.new HNK.out)
         clear hNK)
      | (go_at_call 64;
         (with_reducible refine (HHe.out _).mono ?_)
         rintro e wH ⟨h, rfl, hh', hrH, hNH⟩
         have HNH : Hid (New w5 wH) := HNK.out.then_new (Chg.new_then (by with_reducible repeat (first | exact Chg.refl _ _ | refine Chg.drew ?_ | refine Chg.drewN ?_ _ | refine Chg.alloc ?_ _)) hNH)
         have HRH := Lib.hid (HRr5.out.new HNH.out)
         have HrH := Lib.hid hrH
         clear hNH hh' hrH)
      | (go_at_call 60;
         (with_reducible refine (HHo.out _ _ _ (HN5.out.then_new (HNH.out.then_new (by with_reducible repeat (first | exact Chg.refl _ _ | refine Chg.drew ?_ | refine Chg.drewN ?_ _ | refine Chg.alloc ?_ _)))) (HrH.out.new (by with_reducible repeat (first | exact Chg.refl _ _ | refine Chg.drew ?_ | refine Chg.drewN ?_ _ | refine Chg.alloc ?_ _))) (by with_reducible first | exact Has.new _ _ _ | exact (Has.new _ _ _).drew | exact Has.drewN (Has.new _ _ _) _)).mono ?_)
         rintro e wO ⟨rfl, hNO⟩
         have HNO : Hid (New w5 wO) := HNH.out.then_new (Chg.new_then (by with_reducible repeat (first | exact Chg.refl _ _ | refine Chg.drew ?_ | refine Chg.drewN ?_ _ | refine Chg.alloc ?_ _)) hNO)
         have HRO := Lib.hid (HRr5.out.new HNO.out)
         clear hNO))
    all_goals
      go_wp2_with fail
      go_meet
      case rel => exact ⟨rfl, HNO.out⟩
  case rest =>
  obtain ⟨rfl, hN⟩ := hcut
  have HN6 := Lib.hid (HN5.out.then_new hN)
  clear hN
  cases hh with
  | false =>
    go_wp2_with fail
    go_ret
    exact ⟨rfl, HN6.out⟩
  | true =>
    go_wp2_with fail
    go_ret
    exact ⟨rfl, HN6.out⟩
end Go.Proofs.Ytkcokcanakljnaa
/-
  Package isam: Open.
-/
namespace Go.Proofs.Ytkcokcanakljnaa
open Go.ChangeShapes Go.WideShapes Go.ChangeAt Go.RowKit
theorem opn_zero {bs : List Nat} (h : opnE bs = 0) : ∃ m t, openN bs = .inr (m, t) := by
  cases ho : openN bs with
  | inr x => exact ⟨x.1, x.2, rfl⟩
  | inl z =>
    exfalso
    have hz := (opn_l ho).2.2
    rw [h] at hz
    have hz : z = 0 := by omega
    subst hz
    unfold openN at ho
    split at ho
    · simp at ho
    split at ho
    · simp at ho
    split at ho
    · simp at ho
    cases hp : parseN ((bs.drop 1).take (bs.getD 0 0)) with
    | inl z =>
      rw [hp] at ho
      have hz : z = 0 := by simpa using ho
      have h0 : parZ ((bs.drop 1).take (bs.getD 0 0)) = 0 := by unfold parZ; rw [hp]; simp [hz]
      obtain ⟨m, hm, _⟩ := parZ_r h0
      rw [hp] at hm
      cases hm
    | inr m =>
      rw [hp] at ho
      simp only at ho
      split at ho
      · simp at ho
      split at ho
      · simp at ho
      · cases ho
theorem opn_right {bs : List Nat} (hb : ∀ x ∈ bs, x < 256) (h : opnE bs = 0) : RightN (opnP bs).ns := by
  obtain ⟨m, t, ho⟩ := opn_zero h
  obtain ⟨h1, _⟩ := body_open hb ho
  rw [(opn_r ho).1, Pd.ns_of h1]
  exact h1
theorem opnT_wf {bs : List Nat} (hb : ∀ x ∈ bs, x < 256) : 0 ≤ opnT bs ∧ opnT bs ≤ 2147483647 := by
  cases ho : openN bs with
  | inl z => rw [(opn_l ho).2.1]; omega
  | inr x =>
    obtain ⟨m, t⟩ := x
    obtain ⟨_, h1, h2, _⟩ := body_open hb ho
    rw [(opn_r ho).2.1]; omega
/-- is it the product that is asked for? -/
def askB (p : Pd) (id k o i : Int) : Bool := decide (p.x3 = id ∧ p.x0 = k ∧ p.x1 = o ∧ p.x2 = i)
noncomputable def opnI (acc : Nat → Bool) (M : List Sl) (id k o i : Int) (bs : List Nat) : Pd × Int :=
  if opnE bs ≠ 0 then (pz, opnE bs) else if askB (opnP bs) id k o i = false then (pz, 12) else if accB acc (opnP bs).x1 = false then (pz, 24) else
  if holdsB M (prS (opnP bs)) (opnT bs) = false then (pz, 23) else (opnP bs, 0)
set_option maxRecDepth 100000 in
set_option maxHeartbeats 4000000 in
theorem Open_any (id k o i s : Int) (bs : List Nat) (n c : Nat) (A : Option Addr) (F : Nat → Prop) (base b g : Nat) (op nn : Int) (acc : Nat → Bool) (M : List Sl) (w : World) (hG : Has w g 129 (mdC b op acc nn)) (hM : Orc w base b M)
    (hB : Byts w F (.slice A n c) bs) (hnc : n ≤ c) (hcm : c ≤ maxLen) (hF : ∀ k, F k → k < w.heap.size) :
    Calls Try.prog 23 #[.pointer (some ⟨g, 0, none⟩), .int .i64 id, .agg #[.int .i64 k, .int .i64 o, .int .i64 i, .int .i64 s], .slice A n c] w fun e w' => e = .returned (.tuple #[(opnI acc M id k o i bs).1.V, .int .i64 (opnI acc M id k o i bs).2]) ∧ New w w' := by
  have h256 := hB.len.2.2
  have HOp : Hid (∀ wx, New w wx → Calls Try.prog 18 #[.slice A n c] wx fun e w' => e = .returned (.tuple #[(opnP bs).V, .int .i64 (opnT bs), .int .i64 (opnE bs)]) ∧ New wx w') := fun wx hx => iOpen_any bs n c A wx F (hB.new hx hF) hnc hcm (fun k hk => Nat.lt_of_lt_of_le (hF k hk) hx.size)
  have Hrt : Hid (opnE bs = 0 → RightN (opnP bs).ns) := opn_right h256
  have HAc := Lib.hid (fun x w hw => Accepts_any x g b op nn acc w hw)
  have HG := Lib.hid hG
  have HM := Lib.hid hM
  obtain ⟨R, hR⟩ : ∃ R, R = (opnI acc M id k o i bs).1 := ⟨_, rfl⟩
  obtain ⟨E, hE⟩ : ∃ E, E = (opnI acc M id k o i bs).2 := ⟨_, rfl⟩
  rw [← hR, ← hE]
  unfold opnI at hR hE
  have HT := Lib.hid (opnT_wf h256)
  clear hB hF h256 hnc hcm hG hM
  obtain ⟨P, hP⟩ : ∃ P, P = opnP bs := ⟨_, rfl⟩
  obtain ⟨Z, hZ⟩ : ∃ Z, Z = opnE bs := ⟨_, rfl⟩
  obtain ⟨K, hK⟩ : ∃ K, K = opnT bs := ⟨_, rfl⟩
  rw [← hP, ← hZ, ← hK] at HOp hR hE
  rw [← hP, ← hZ] at Hrt
  rw [← hK] at HT
  clear hP hZ hK
  have HPs := Lib.hid (fun hp w => productSeal_any P hp w)
  have Hf256 := Lib.hid (fun hp => form_small (m := P.ns) hp)
  have Hf53 := Lib.hid (fun hp => form_len (m := P.ns) hp)
  have HHo : Hid (∀ (hp : RightN P.ns) (wx : World) (s c : Nat) (A : Option Addr) (F : Nat → Prop), Orc wx base b M → Byts wx F (.slice A (formN P.ns).length c) (formN P.ns) → (∀ k, F k → k < wx.heap.size) → Has wx s 27 #[.slice A (formN P.ns).length c] → Calls Try.prog 60 #[.pointer (some ⟨b, 0, none⟩), .int .i64 K, .agg #[.int .i64 P.x1, .int .i64 P.x0, .int .i64 P.x3, .int .i64 P.x4], .slice (some ⟨s, 0, none⟩) 1 1] wx fun e w' => e = .returned (.bool (holdsB M (prS P) K)) ∧ New wx w') := fun hp wx s c A F hO hB hF hs => by
    obtain ⟨⟨a1, a2⟩, ⟨b1, b2⟩, _, ⟨d1, d2⟩, ⟨e1, e2⟩, _⟩ := (right_pd P).1 hp
    have hL : Lists wx (fun k => F k ∨ k = s) (some ⟨s, 0, none⟩) [formN P.ns] := ⟨fun _ => .slice A (formN P.ns).length c, fun i hi => by
      obtain rfl : i = 0 := by simpa using hi
      exact ⟨_, rfl, Or.inr rfl, (hs.cell 0).trans rfl⟩, fun i hi => by
      obtain rfl : i = 0 := by simpa using hi
      exact hB.mono fun k hk => Or.inl hk⟩
    have hl53 := form_len hp
    have := Holds_any base b M K P.x1 P.x0 P.x3 P.x4 (wf_small (by omega) (by omega)) (wf_small (by omega) (by omega)) (wf_small (by omega) (by omega)) (wf_small (by omega) (by omega)) _ 1 1 _ _ wx hO hL (fun k hk => by rcases hk with h | h; exact hF k h; rw [h]; exact hs.lt) rfl (by omega) (by omega) (by simp; omega)
    rw [show bstr [formN P.ns].flatten = bstr (formN P.ns) by simp] at this
    exact this
  have HQ0 : Hid (Z ≠ 0 → R = pz ∧ E = Z) := fun h => by rw [if_pos h] at hR hE; exact ⟨hR, hE⟩
  have HA1 : Hid (Z = 0 → askB P id k o i = false → R = pz ∧ E = 12) := fun h h1 => by rw [if_neg (by simp [h]), if_pos h1] at hR hE; exact ⟨hR, hE⟩
  have HA2 : Hid (Z = 0 → askB P id k o i = true → accB acc P.x1 = false → R = pz ∧ E = 24) := fun h h1 h2 => by rw [if_neg (by simp [h]), if_neg (by simp [h1]), if_pos h2] at hR hE; exact ⟨hR, hE⟩
  have HA3 : Hid (Z = 0 → askB P id k o i = true → accB acc P.x1 = true → holdsB M (prS P) K = false → R = pz ∧ E = 23) := fun h h1 h2 h3 => by rw [if_neg (by simp [h]), if_neg (by simp [h1]), if_neg (by simp [h2]), if_pos h3] at hR hE; exact ⟨hR, hE⟩
  have HA4 : Hid (Z = 0 → askB P id k o i = true → accB acc P.x1 = true → holdsB M (prS P) K = true → R = P ∧ E = 0) := fun h h1 h2 h3 => by rw [if_neg (by simp [h]), if_neg (by simp [h1]), if_neg (by simp [h2]), if_neg (by simp [h3])] at hR hE; exact ⟨hR, hE⟩
  clear hR hE
  obtain ⟨hh, hhh⟩ : ∃ hh, hh = holdsB M (prS P) K := ⟨_, rfl⟩
  rw [← hhh] at HHo HA3 HA4
  obtain ⟨f, hf⟩ : ∃ f, f = formN P.ns := ⟨_, rfl⟩
  obtain ⟨l, hl⟩ : ∃ l, l = f.length := ⟨_, rfl⟩
  rw [← hf] at HHo HPs Hf256 Hf53
  rw [← hl] at HHo HPs Hf53
  obtain ⟨ns, hns⟩ : ∃ ns, ns = P.ns := ⟨_, rfl⟩
  rw [← hns] at HHo HPs Hf256 Hf53 Hrt
  have Hl := Lib.hid hl
  clear hhh hf hl hns
  obtain ⟨bad, hbad⟩ : ∃ bad, bad = !askB P id k o i := ⟨_, rfl⟩
  have HQ1 : Hid (Z = 0 → bad = true → R = pz ∧ E = 12) := fun h h1 => HA1.out h (by rw [hbad] at h1; simpa using h1)
  have HQ2 : Hid (Z = 0 → bad = false → accB acc P.x1 = false → R = pz ∧ E = 24) := fun h h1 => HA2.out h (by rw [hbad] at h1; simpa using h1)
  have HQ3 : Hid (Z = 0 → bad = false → accB acc P.x1 = true → hh = false → R = pz ∧ E = 23) := fun h h1 => HA3.out h (by rw [hbad] at h1; simpa using h1)
  have HQ4 : Hid (Z = 0 → bad = false → accB acc P.x1 = true → hh = true → R = P ∧ E = 0) := fun h h1 => HA4.out h (by rw [hbad] at h1; simpa using h1)
  have Hbad : Hid (bad = !decide (P.x3 = id ∧ P.x0 = k ∧ P.x1 = o ∧ P.x2 = i)) := hbad
  clear hbad HA1 HA2 HA3 HA4
  obtain ⟨y0, y1, y2, y3, y4, y5, y6, y7, y8, y9, y10, y11, y12, y13⟩ := P
  have HOp : Hid (∀ wx, New w wx → Calls Try.prog 18 #[.slice A n c] wx fun e w' => e = .returned (.tuple #[.agg #[.int .i64 y0, .int .i64 y1, .int .i64 y2, .int .i64 y3, .int .i64 y4, .int .i64 y5, .int .i64 y6, .int .i64 y7, .bool y8, .int .i64 y9, .int .i64 y10, .int .i64 y11, .int .i64 y12, .bool y13], .int .i64 K, .int .i64 Z]) ∧ New wx w') := HOp.out
  have HPs : Hid (∀ (hp : RightN ns) (w : World), Calls Try.prog 57 #[.agg #[.int .i64 y0, .int .i64 y1, .int .i64 y2, .int .i64 y3, .int .i64 y4, .int .i64 y5, .int .i64 y6, .int .i64 y7, .bool y8, .int .i64 y9, .int .i64 y10, .int .i64 y11, .int .i64 y12, .bool y13]] w fun e w' => ∃ A c, e = .returned (.tuple #[.agg #[.int .i64 y1, .int .i64 y0, .int .i64 y3, .int .i64 y4], .slice A l c]) ∧ w'.ownsRow w.heap.size 5 1 (.slice A l c) l (f.map bV) ∧ New w w') := HPs.out
  have HHo : Hid (∀ (hp : RightN ns) (wx : World) (s c : Nat) (A : Option Addr) (F : Nat → Prop), Orc wx base b M → Byts wx F (.slice A l c) f → (∀ k, F k → k < wx.heap.size) → Has wx s 27 #[.slice A l c] → Calls Try.prog 60 #[.pointer (some ⟨b, 0, none⟩), .int .i64 K, .agg #[.int .i64 y1, .int .i64 y0, .int .i64 y3, .int .i64 y4], .slice (some ⟨s, 0, none⟩) 1 1] wx fun e w' => e = .returned (.bool hh) ∧ New wx w') := HHo.out
  have Hbad : Hid (bad = !decide (y3 = id ∧ y0 = k ∧ y1 = o ∧ y2 = i)) := Hbad.out
  have HQ2 : Hid (Z = 0 → bad = false → accB acc y1 = false → R = pz ∧ E = 24) := HQ2.out
  have HQ3 : Hid (Z = 0 → bad = false → accB acc y1 = true → hh = false → R = pz ∧ E = 23) := HQ3.out
  have HQ4 : Hid (Z = 0 → bad = false → accB acc y1 = true → hh = true → R = ⟨y0, y1, y2, y3, y4, y5, y6, y7, y8, y9, y10, y11, y12, y13⟩ ∧ E = 0) := HQ4.out
  have HAc := Lib.hid (HAc.out y1)
  obtain ⟨ac, hac⟩ : ∃ ac, ac = accB acc y1 := ⟨_, rfl⟩
  rw [← hac] at HAc HQ2 HQ3 HQ4
  clear hac
  go_enter Try.func23, Try.ntmps23
  go_upto_region 1 with (fail)
  obtain ⟨w0, hw0⟩ : ∃ w0, w0 = w.alloc (.cells #[.int .i64 k, .int .i64 o, .int .i64 i, .int .i64 s] 56) := ⟨_, rfl⟩
  obtain ⟨w1, hw1⟩ : ∃ w1, w1 = w0.alloc (.cells #[.int .i64 0, .int .i64 0, .int .i64 0, .int .i64 0, .int .i64 0, .int .i64 0, .int .i64 0, .int .i64 0, .bool false, .int .i64 0, .int .i64 0, .int .i64 0, .int .i64 0, .bool false] 24) := ⟨_, rfl⟩
  obtain ⟨eb, heb⟩ : ∃ eb, eb = w.heap.size := ⟨_, rfl⟩
  obtain ⟨rb, hrb⟩ : ∃ rb, rb = eb + 1 := ⟨_, rfl⟩
  have hs0 : w0.heap.size = eb + 1 := by rw [hw0, heb]; simp
  have HE : Hid (Has w1 eb 56 #[.int .i64 k, .int .i64 o, .int .i64 i, .int .i64 s]) := by rw [hw1, hw0, heb]; exact (Has.new _ _ _).alloc _
  have HB : Hid (Has w1 rb 24 #[.int .i64 0, .int .i64 0, .int .i64 0, .int .i64 0, .int .i64 0, .int .i64 0, .int .i64 0, .int .i64 0, .bool false, .int .i64 0, .int .i64 0, .int .i64 0, .int .i64 0, .bool false]) := by rw [hrb, ← hs0, hw1]; exact Has.new _ _ _
  have HN1 : Hid (New w w1) := by rw [hw1, hw0]; exact ((Chg.refl _ _).alloc _).alloc _
  have Hrb : Hid (rb = w.heap.size + 1) := by rw [Hid]; omega
  rw [← hw0, ← hw1, ← heb, ← hrb]
  clear hw0 hw1 heb hrb hs0
  go_wp2_with fail
  with_reducible refine (HOp.out _ HN1.out).mono ?_
  rintro e w2 ⟨rfl, hN⟩
  have HE2 := Lib.hid (HE.out.keep hN)
  have HB2 := Lib.hid (HB.out.keep hN)
  have HN2 := Lib.hid (HN1.out.then_new hN)
  clear hN HE HB HN1 HOp
  go_upto_region 2 with (fail)
  obtain ⟨w3, hw3⟩ : ∃ w3, w3 = w2.alloc (.cells #[.int .i64 y0, .int .i64 y1, .int .i64 y2, .int .i64 y3, .int .i64 y4, .int .i64 y5, .int .i64 y6, .int .i64 y7, .bool y8, .int .i64 y9, .int .i64 y10, .int .i64 y11, .int .i64 y12, .bool y13] 24) := ⟨_, rfl⟩
  obtain ⟨pb, hpb⟩ : ∃ pb, pb = w2.heap.size := ⟨_, rfl⟩
  have HE3 : Hid (Has w3 eb 56 #[.int .i64 k, .int .i64 o, .int .i64 i, .int .i64 s]) := by rw [hw3]; exact HE2.out.alloc _
  have HB3 : Hid (Has w3 rb 24 #[.int .i64 0, .int .i64 0, .int .i64 0, .int .i64 0, .int .i64 0, .int .i64 0, .int .i64 0, .int .i64 0, .bool false, .int .i64 0, .int .i64 0, .int .i64 0, .int .i64 0, .bool false]) := by rw [hw3]; exact HB2.out.alloc _
  have HP3 : Hid (Has w3 pb 24 #[.int .i64 y0, .int .i64 y1, .int .i64 y2, .int .i64 y3, .int .i64 y4, .int .i64 y5, .int .i64 y6, .int .i64 y7, .bool y8, .int .i64 y9, .int .i64 y10, .int .i64 y11, .int .i64 y12, .bool y13]) := by rw [hw3, hpb]; exact Has.new _ _ _
  have HN3 : Hid (New w w3) := by rw [hw3]; exact HN2.out.alloc _
  rw [← hw3, ← hpb]
  clear hw3 hpb HE2 HB2 HN2
  by_cases hz : Z = 0
  case neg =>
    have e1 : (Z == 0) = false := beq_eq_false_iff_ne.2 hz
    have e1' : (Z != 0) = true := bne_iff_ne.2 hz
    have HQ := Lib.hid (HQ0.out hz)
    clear hz HQ0 HQ1 HQ2 HQ3 HQ4 Hrt Hbad
    go_wp2_with (first
      | (refine wpList_store_pd rfl (.tmp 8) (.tmp 23) rfl rb pz _ rfl rfl HB3.out rfl ?_
         intro wX hX hCX
         have HX := Lib.hid hX
         have HNX := Lib.hid (HN3.out.trans hCX (fun i hi h => by rw [h, Hrb.out] at hi; omega))
         clear hX hCX)
      | fail)
    have g0 : wX.cell? ⟨rb, 0, none⟩ = some (.int .i64 pz.x0) := (HX.out.cell 0).trans rfl
    have g1 : wX.cell? ⟨rb, 1, none⟩ = some (.int .i64 pz.x1) := (HX.out.cell 1).trans rfl
    have g2 : wX.cell? ⟨rb, 2, none⟩ = some (.int .i64 pz.x2) := (HX.out.cell 2).trans rfl
    have g3 : wX.cell? ⟨rb, 3, none⟩ = some (.int .i64 pz.x3) := (HX.out.cell 3).trans rfl
    have g4 : wX.cell? ⟨rb, 4, none⟩ = some (.int .i64 pz.x4) := (HX.out.cell 4).trans rfl
    have g5 : wX.cell? ⟨rb, 5, none⟩ = some (.int .i64 pz.x5) := (HX.out.cell 5).trans rfl
    have g6 : wX.cell? ⟨rb, 6, none⟩ = some (.int .i64 pz.x6) := (HX.out.cell 6).trans rfl
    have g7 : wX.cell? ⟨rb, 7, none⟩ = some (.int .i64 pz.x7) := (HX.out.cell 7).trans rfl
    have g8 : wX.cell? ⟨rb, 8, none⟩ = some (.bool pz.x8) := (HX.out.cell 8).trans rfl
    have g9 : wX.cell? ⟨rb, 9, none⟩ = some (.int .i64 pz.x9) := (HX.out.cell 9).trans rfl
    have g10 : wX.cell? ⟨rb, 10, none⟩ = some (.int .i64 pz.x10) := (HX.out.cell 10).trans rfl
    have g11 : wX.cell? ⟨rb, 11, none⟩ = some (.int .i64 pz.x11) := (HX.out.cell 11).trans rfl
    have g12 : wX.cell? ⟨rb, 12, none⟩ = some (.int .i64 pz.x12) := (HX.out.cell 12).trans rfl
    have g13 : wX.cell? ⟨rb, 13, none⟩ = some (.bool pz.x13) := (HX.out.cell 13).trans rfl
    refine bodyPost_ret (v := .tuple #[.agg #[.int .i64 pz.x0, .int .i64 pz.x1, .int .i64 pz.x2, .int .i64 pz.x3, .int .i64 pz.x4, .int .i64 pz.x5, .int .i64 pz.x6, .int .i64 pz.x7, .bool pz.x8, .int .i64 pz.x9, .int .i64 pz.x10, .int .i64 pz.x11, .int .i64 pz.x12, .bool pz.x13], .int .i64 Z]) (by simp [results, Try.results23, go_sem, g0, g1, g2, g3, g4, g5, g6, g7, g8, g9, g10, g11, g12, g13]) rfl ?_
    exact ⟨by obtain ⟨h1, h2⟩ := HQ.out; subst h1; subst h2; rfl, HNX.out⟩
  have e1 : (Z == 0) = true := beq_iff_eq.2 hz
  have e1' : (Z != 0) = false := by rw [bne, e1]; rfl
  have HZ1 := Lib.hid (HQ1.out hz)
  have HZ2 := Lib.hid (HQ2.out hz)
  have HZ3 := Lib.hid (HQ3.out hz)
  have HZ4 := Lib.hid (HQ4.out hz)
  have hp : RightN ns := Hrt.out hz
  have HPs := Lib.hid (HPs.out hp)
  have HHo := Lib.hid (HHo.out hp)
  have Hf256 := Lib.hid (Hf256.out hp)
  have Hf53 := Lib.hid (Hf53.out hp)
  clear hp Hrt HQ0 HQ1 HQ2 HQ3 HQ4 hz
  go_upto_region 4 with (fail)
  have c0 : w3.cell? ⟨pb, 0, none⟩ = some (.int .i64 y0) := (HP3.out.cell 0).trans rfl
  have c1 : w3.cell? ⟨pb, 1, none⟩ = some (.int .i64 y1) := (HP3.out.cell 1).trans rfl
  have c2 : w3.cell? ⟨pb, 2, none⟩ = some (.int .i64 y2) := (HP3.out.cell 2).trans rfl
  have c3 : w3.cell? ⟨pb, 3, none⟩ = some (.int .i64 y3) := (HP3.out.cell 3).trans rfl
  have c4 : w3.cell? ⟨pb, 4, none⟩ = some (.int .i64 y4) := (HP3.out.cell 4).trans rfl
  have c5 : w3.cell? ⟨pb, 5, none⟩ = some (.int .i64 y5) := (HP3.out.cell 5).trans rfl
  have c6 : w3.cell? ⟨pb, 6, none⟩ = some (.int .i64 y6) := (HP3.out.cell 6).trans rfl
  have c7 : w3.cell? ⟨pb, 7, none⟩ = some (.int .i64 y7) := (HP3.out.cell 7).trans rfl
  have c8 : w3.cell? ⟨pb, 8, none⟩ = some (.bool y8) := (HP3.out.cell 8).trans rfl
  have c9 : w3.cell? ⟨pb, 9, none⟩ = some (.int .i64 y9) := (HP3.out.cell 9).trans rfl
  have c10 : w3.cell? ⟨pb, 10, none⟩ = some (.int .i64 y10) := (HP3.out.cell 10).trans rfl
  have c11 : w3.cell? ⟨pb, 11, none⟩ = some (.int .i64 y11) := (HP3.out.cell 11).trans rfl
  have c12 : w3.cell? ⟨pb, 12, none⟩ = some (.int .i64 y12) := (HP3.out.cell 12).trans rfl
  have c13 : w3.cell? ⟨pb, 13, none⟩ = some (.bool y13) := (HP3.out.cell 13).trans rfl
  have d0 : w3.cell? ⟨eb, 0, none⟩ = some (.int .i64 k) := (HE3.out.cell 0).trans rfl
  have d1 : w3.cell? ⟨eb, 1, none⟩ = some (.int .i64 o) := (HE3.out.cell 1).trans rfl
  have d2 : w3.cell? ⟨eb, 2, none⟩ = some (.int .i64 i) := (HE3.out.cell 2).trans rfl
  have d3 : w3.cell? ⟨eb, 3, none⟩ = some (.int .i64 s) := (HE3.out.cell 3).trans rfl
  go_cut [49] (fun s49 wx => s49 = .bool bad ∧ wx = w3)
  case first =>
    by_cases q1 : y3 = id
    case neg =>
      have t1 : (y3 != id) = true := bne_iff_ne.2 q1
      have hb : bad = true := by rw [Hbad.out, decide_eq_false (fun h => q1 h.1)]; rfl
      subst hb
      clear q1
      go_wp2_with fail
      go_meet
      case rel => exact ⟨rfl, rfl⟩
    have t1 : (y3 != id) = false := by rw [bne, beq_iff_eq.2 q1]; rfl
    by_cases q2 : y0 = k
    case neg =>
      have t2 : (y0 != k) = true := bne_iff_ne.2 q2
      have hb : bad = true := by rw [Hbad.out, decide_eq_false (fun h => q2 h.2.1)]; rfl
      subst hb
      clear q1 q2
      go_wp2_with fail
      go_meet
      case rel => exact ⟨rfl, rfl⟩
    have t2 : (y0 != k) = false := by rw [bne, beq_iff_eq.2 q2]; rfl
    by_cases q3 : y1 = o
    case neg =>
      have t3 : (y1 != o) = true := bne_iff_ne.2 q3
      have hb : bad = true := by rw [Hbad.out, decide_eq_false (fun h => q3 h.2.2.1)]; rfl
      subst hb
      clear q1 q2 q3
      go_wp2_with fail
      go_meet
      case rel => exact ⟨rfl, rfl⟩
    have t3 : (y1 != o) = false := by rw [bne, beq_iff_eq.2 q3]; rfl
    by_cases q4 : y2 = i
    case neg =>
      have t4 : (y2 != i) = true := bne_iff_ne.2 q4
      have hb : bad = true := by rw [Hbad.out, decide_eq_false (fun h => q4 h.2.2.2)]; rfl
      subst hb
      clear q1 q2 q3 q4
      go_wp2_with fail
      go_meet
      case rel => exact ⟨rfl, rfl⟩
    have t4 : (y2 != i) = false := by rw [bne, beq_iff_eq.2 q4]; rfl
    have hb : bad = false := by rw [Hbad.out, decide_eq_true ⟨q1, q2, q3, q4⟩]; rfl
    subst hb
    clear q1 q2 q3 q4
    go_wp2_with fail
    go_meet
    case rel => exact ⟨rfl, rfl⟩
  case rest =>
    obtain ⟨rfl, hwc⟩ := hcut
    rw [hwc]
    clear hwc Hbad d0 d1 d2 d3
    cases bad with
    | true =>
      have HQ := Lib.hid (HZ1.out (by trivial))
      clear HZ1 HZ2 HZ3 HZ4
      go_wp2_with (first
        | (refine wpList_store_pd rfl (.tmp 8) (.tmp 50) rfl rb pz _ rfl rfl HB3.out rfl ?_
           intro wX hX hCX
           have HX := Lib.hid hX
           have HNX := Lib.hid (HN3.out.trans hCX (fun i hi h => by rw [h, Hrb.out] at hi; omega))
           clear hX hCX)
        | fail)
      have g0 : wX.cell? ⟨rb, 0, none⟩ = some (.int .i64 pz.x0) := (HX.out.cell 0).trans rfl
      have g1 : wX.cell? ⟨rb, 1, none⟩ = some (.int .i64 pz.x1) := (HX.out.cell 1).trans rfl
      have g2 : wX.cell? ⟨rb, 2, none⟩ = some (.int .i64 pz.x2) := (HX.out.cell 2).trans rfl
      have g3 : wX.cell? ⟨rb, 3, none⟩ = some (.int .i64 pz.x3) := (HX.out.cell 3).trans rfl
      have g4 : wX.cell? ⟨rb, 4, none⟩ = some (.int .i64 pz.x4) := (HX.out.cell 4).trans rfl
      have g5 : wX.cell? ⟨rb, 5, none⟩ = some (.int .i64 pz.x5) := (HX.out.cell 5).trans rfl
      have g6 : wX.cell? ⟨rb, 6, none⟩ = some (.int .i64 pz.x6) := (HX.out.cell 6).trans rfl
      have g7 : wX.cell? ⟨rb, 7, none⟩ = some (.int .i64 pz.x7) := (HX.out.cell 7).trans rfl
      have g8 : wX.cell? ⟨rb, 8, none⟩ = some (.bool pz.x8) := (HX.out.cell 8).trans rfl
      have g9 : wX.cell? ⟨rb, 9, none⟩ = some (.int .i64 pz.x9) := (HX.out.cell 9).trans rfl
      have g10 : wX.cell? ⟨rb, 10, none⟩ = some (.int .i64 pz.x10) := (HX.out.cell 10).trans rfl
      have g11 : wX.cell? ⟨rb, 11, none⟩ = some (.int .i64 pz.x11) := (HX.out.cell 11).trans rfl
      have g12 : wX.cell? ⟨rb, 12, none⟩ = some (.int .i64 pz.x12) := (HX.out.cell 12).trans rfl
      have g13 : wX.cell? ⟨rb, 13, none⟩ = some (.bool pz.x13) := (HX.out.cell 13).trans rfl
      refine bodyPost_ret (v := .tuple #[.agg #[.int .i64 pz.x0, .int .i64 pz.x1, .int .i64 pz.x2, .int .i64 pz.x3, .int .i64 pz.x4, .int .i64 pz.x5, .int .i64 pz.x6, .int .i64 pz.x7, .bool pz.x8, .int .i64 pz.x9, .int .i64 pz.x10, .int .i64 pz.x11, .int .i64 pz.x12, .bool pz.x13], .int .i64 12]) (by simp [results, Try.results23, go_sem, g0, g1, g2, g3, g4, g5, g6, g7, g8, g9, g10, g11, g12, g13]) rfl ?_
      exact ⟨by obtain ⟨h1, h2⟩ := HQ.out; subst h1; subst h2; rfl, HNX.out⟩
    | false =>
      have HY2 := Lib.hid (HZ2.out (by trivial))
      have HY3 := Lib.hid (HZ3.out (by trivial))
      have HY4 := Lib.hid (HZ4.out (by trivial))
      clear HZ1 HZ2 HZ3 HZ4
      go_wp2_with fail
      with_reducible refine (HAc.out _ (HG.out.keep HN3.out)).mono ?_
      rintro e w4 ⟨rfl, hN⟩
      have HB4 := Lib.hid (HB3.out.keep hN)
      have HP4 := Lib.hid (HP3.out.keep hN)
      have HN4 := Lib.hid (HN3.out.then_new hN)
      clear hN HE3 HB3 HP3 HN3 HAc
      clear c0 c1 c2 c3 c4 c5 c6 c7 c8 c9 c10 c11 c12 c13
      cases ac with
      | false =>
        have HQ := Lib.hid (HY2.out (by trivial))
        clear HY2 HY3 HY4
        go_wp2_with (first
          | (refine wpList_store_pd rfl (.tmp 8) (.tmp 56) rfl rb pz _ rfl rfl HB4.out rfl ?_
             intro wX hX hCX
             have HX := Lib.hid hX
             have HNX := Lib.hid (HN4.out.trans hCX (fun i hi h => by rw [h, Hrb.out] at hi; omega))
             clear hX hCX)
          | fail)
        have g0 : wX.cell? ⟨rb, 0, none⟩ = some (.int .i64 pz.x0) := (HX.out.cell 0).trans rfl
        have g1 : wX.cell? ⟨rb, 1, none⟩ = some (.int .i64 pz.x1) := (HX.out.cell 1).trans rfl
        have g2 : wX.cell? ⟨rb, 2, none⟩ = some (.int .i64 pz.x2) := (HX.out.cell 2).trans rfl
        have g3 : wX.cell? ⟨rb, 3, none⟩ = some (.int .i64 pz.x3) := (HX.out.cell 3).trans rfl
        have g4 : wX.cell? ⟨rb, 4, none⟩ = some (.int .i64 pz.x4) := (HX.out.cell 4).trans rfl
        have g5 : wX.cell? ⟨rb, 5, none⟩ = some (.int .i64 pz.x5) := (HX.out.cell 5).trans rfl
        have g6 : wX.cell? ⟨rb, 6, none⟩ = some (.int .i64 pz.x6) := (HX.out.cell 6).trans rfl
        have g7 : wX.cell? ⟨rb, 7, none⟩ = some (.int .i64 pz.x7) := (HX.out.cell 7).trans rfl
        have g8 : wX.cell? ⟨rb, 8, none⟩ = some (.bool pz.x8) := (HX.out.cell 8).trans rfl
        have g9 : wX.cell? ⟨rb, 9, none⟩ = some (.int .i64 pz.x9) := (HX.out.cell 9).trans rfl
        have g10 : wX.cell? ⟨rb, 10, none⟩ = some (.int .i64 pz.x10) := (HX.out.cell 10).trans rfl
        have g11 : wX.cell? ⟨rb, 11, none⟩ = some (.int .i64 pz.x11) := (HX.out.cell 11).trans rfl
        have g12 : wX.cell? ⟨rb, 12, none⟩ = some (.int .i64 pz.x12) := (HX.out.cell 12).trans rfl
        have g13 : wX.cell? ⟨rb, 13, none⟩ = some (.bool pz.x13) := (HX.out.cell 13).trans rfl
        refine bodyPost_ret (v := .tuple #[.agg #[.int .i64 pz.x0, .int .i64 pz.x1, .int .i64 pz.x2, .int .i64 pz.x3, .int .i64 pz.x4, .int .i64 pz.x5, .int .i64 pz.x6, .int .i64 pz.x7, .bool pz.x8, .int .i64 pz.x9, .int .i64 pz.x10, .int .i64 pz.x11, .int .i64 pz.x12, .bool pz.x13], .int .i64 24]) (by simp [results, Try.results23, go_sem, g0, g1, g2, g3, g4, g5, g6, g7, g8, g9, g10, g11, g12, g13]) rfl ?_
        exact ⟨by obtain ⟨h1, h2⟩ := HQ.out; subst h1; subst h2; rfl, HNX.out⟩
      | true =>
        have HV3 := Lib.hid (HY3.out (by trivial))
        have HV4 := Lib.hid (HY4.out (by trivial))
        clear HY2 HY3 HY4
        have c0 : w4.cell? ⟨pb, 0, none⟩ = some (.int .i64 y0) := (HP4.out.cell 0).trans rfl
        have c1 : w4.cell? ⟨pb, 1, none⟩ = some (.int .i64 y1) := (HP4.out.cell 1).trans rfl
        have c2 : w4.cell? ⟨pb, 2, none⟩ = some (.int .i64 y2) := (HP4.out.cell 2).trans rfl
        have c3 : w4.cell? ⟨pb, 3, none⟩ = some (.int .i64 y3) := (HP4.out.cell 3).trans rfl
        have c4 : w4.cell? ⟨pb, 4, none⟩ = some (.int .i64 y4) := (HP4.out.cell 4).trans rfl
        have c5 : w4.cell? ⟨pb, 5, none⟩ = some (.int .i64 y5) := (HP4.out.cell 5).trans rfl
        have c6 : w4.cell? ⟨pb, 6, none⟩ = some (.int .i64 y6) := (HP4.out.cell 6).trans rfl
        have c7 : w4.cell? ⟨pb, 7, none⟩ = some (.int .i64 y7) := (HP4.out.cell 7).trans rfl
        have c8 : w4.cell? ⟨pb, 8, none⟩ = some (.bool y8) := (HP4.out.cell 8).trans rfl
        have c9 : w4.cell? ⟨pb, 9, none⟩ = some (.int .i64 y9) := (HP4.out.cell 9).trans rfl
        have c10 : w4.cell? ⟨pb, 10, none⟩ = some (.int .i64 y10) := (HP4.out.cell 10).trans rfl
        have c11 : w4.cell? ⟨pb, 11, none⟩ = some (.int .i64 y11) := (HP4.out.cell 11).trans rfl
        have c12 : w4.cell? ⟨pb, 12, none⟩ = some (.int .i64 y12) := (HP4.out.cell 12).trans rfl
        have c13 : w4.cell? ⟨pb, 13, none⟩ = some (.bool y13) := (HP4.out.cell 13).trans rfl
        go_wp2_with fail
        with_reducible refine (HPs.out _).mono ?_
        rintro e w5 ⟨A5, cc5, rfl, hO, hN⟩
        have HB5 := Lib.hid (HB4.out.keep hN)
        have HP5 := Lib.hid (HP4.out.keep hN)
        have HN5 := Lib.hid (HN4.out.then_new hN)
        have HBy5 := Lib.hid (Byts.own_any hO (Chg.refl _ _) Hf256.out (by have := Hf53.out; omega))
        clear hN hO HB4 HP4 HN4 HPs
        clear c0 c1 c2 c3 c4 c5 c6 c7 c8 c9 c10 c11 c12 c13
        go_upto_region 9 with (fail)
        obtain ⟨w6, hw6⟩ : ∃ w6, w6 = w5.alloc (.cells #[.int .i64 y1, .int .i64 y0, .int .i64 y3, .int .i64 y4] 123) := ⟨_, rfl⟩
        obtain ⟨kb, hkb⟩ : ∃ kb, kb = w5.heap.size := ⟨_, rfl⟩
        have HB6 : Hid (Has w6 rb 24 #[.int .i64 0, .int .i64 0, .int .i64 0, .int .i64 0, .int .i64 0, .int .i64 0, .int .i64 0, .int .i64 0, .bool false, .int .i64 0, .int .i64 0, .int .i64 0, .int .i64 0, .bool false]) := by rw [hw6]; exact HB5.out.alloc _
        have HP6 : Hid (Has w6 pb 24 #[.int .i64 y0, .int .i64 y1, .int .i64 y2, .int .i64 y3, .int .i64 y4, .int .i64 y5, .int .i64 y6, .int .i64 y7, .bool y8, .int .i64 y9, .int .i64 y10, .int .i64 y11, .int .i64 y12, .bool y13]) := by rw [hw6]; exact HP5.out.alloc _
        have HK6 : Hid (Has w6 kb 123 #[.int .i64 y1, .int .i64 y0, .int .i64 y3, .int .i64 y4]) := by rw [hw6, hkb]; exact Has.new _ _ _
        have HN6 : Hid (New w w6) := by rw [hw6]; exact HN5.out.alloc _
        have hM56 : New w5 w6 := by rw [hw6]; exact (Chg.refl _ _).alloc _
        have HBy6 := Lib.hid (HBy5.out.new hM56 (fun _ h => h))
        have HF6 : Hid (∀ k, k < w5.heap.size → k < w6.heap.size) := fun k hk => Nat.lt_of_lt_of_le hk hM56.size
        rw [← hw6, ← hkb]
        clear hw6 hkb hM56 HB5 HP5 HN5 HBy5
        have m0 : w6.cell? ⟨g, 0, none⟩ = some (.pointer (some ⟨b, 0, none⟩)) := ((HG.out.keep HN6.out).cell 0).trans rfl
        have k0 : w6.cell? ⟨kb, 0, none⟩ = some (.int .i64 y1) := (HK6.out.cell 0).trans rfl
        have k1 : w6.cell? ⟨kb, 1, none⟩ = some (.int .i64 y0) := (HK6.out.cell 1).trans rfl
        have k2 : w6.cell? ⟨kb, 2, none⟩ = some (.int .i64 y3) := (HK6.out.cell 2).trans rfl
        have k3 : w6.cell? ⟨kb, 3, none⟩ = some (.int .i64 y4) := (HK6.out.cell 3).trans rfl
        have hNa : New w6 (w6.alloc (.cells #[.slice A5 l cc5] 27)) := (Chg.refl _ _).alloc _
        have n0 : (w6.alloc (.cells #[.slice A5 l cc5] 27)).cell? ⟨g, 0, none⟩ = some (.pointer (some ⟨b, 0, none⟩)) := ((HG.out.keep (HN6.out.then_new hNa)).cell 0).trans rfl
        have HKa := Lib.hid (HK6.out.keep hNa)
        clear hNa
        have f0 : (w6.alloc (.cells #[.slice A5 l cc5] 27)).cell? ⟨kb, 0, none⟩ = some (.int .i64 y1) := (HKa.out.cell 0).trans rfl
        have f1 : (w6.alloc (.cells #[.slice A5 l cc5] 27)).cell? ⟨kb, 1, none⟩ = some (.int .i64 y0) := (HKa.out.cell 1).trans rfl
        have f2 : (w6.alloc (.cells #[.slice A5 l cc5] 27)).cell? ⟨kb, 2, none⟩ = some (.int .i64 y3) := (HKa.out.cell 2).trans rfl
        have f3 : (w6.alloc (.cells #[.slice A5 l cc5] 27)).cell? ⟨kb, 3, none⟩ = some (.int .i64 y4) := (HKa.out.cell 3).trans rfl
        go_cut [71] (fun s71 wx => s71 = .bool (!hh) ∧ New w6 wx)
        case first =>
          go_region_law
            (go_simp; go_at_call 60;
             (with_reducible refine (HHo.out _ _ _ _ _ (HM.out.new (HN6.out.then_new (by with_reducible repeat (first | exact Chg.refl _ _ | refine Chg.drew ?_ | refine Chg.drewN ?_ _ | refine Chg.alloc ?_ _)))) (HBy6.out.new (by with_reducible repeat (first | exact Chg.refl _ _ | refine Chg.drew ?_ | refine Chg.drewN ?_ _ | refine Chg.alloc ?_ _)) HF6.out) (fun k hk => Nat.lt_of_lt_of_le (HF6.out k hk) (Chg.size (S := fun _ => False) (by with_reducible repeat (first | exact Chg.refl _ _ | refine Chg.drew ?_ | refine Chg.drewN ?_ _ | refine Chg.alloc ?_ _)))) (by first | exact Has.new _ _ _ | exact (Has.new _ _ _).drew | exact Has.drewN (Has.new _ _ _) _)).mono ?_)
             rintro e w7 ⟨rfl, hN7⟩
             have HN7 : Hid (New w6 w7) := Chg.new_then (by with_reducible repeat (first | exact Chg.refl _ _ | refine Chg.drew ?_ | refine Chg.drewN ?_ _ | refine Chg.alloc ?_ _)) hN7
             clear hN7)
          all_goals
            go_wp2_with fail
            go_meet
            case rel => exact ⟨rfl, HN7.out⟩
        case rest =>
          obtain ⟨rfl, hN7⟩ := hcut
          obtain ⟨w8, hw8⟩ : ∃ w8, w8 = wc := ⟨_, rfl⟩
          rw [← hw8] at hN7 ⊢
          clear hw8
          have HB8 := Lib.hid (HB6.out.keep hN7)
          have HP8 := Lib.hid (HP6.out.keep hN7)
          have HN8 := Lib.hid (HN6.out.then_new hN7)
          clear hN7 HB6 HP6 HN6 HK6 k0 k1 k2 k3 m0 f0 f1 f2 f3 n0 HKa
          cases hh with
          | false =>
            have HQ := Lib.hid (HV3.out (by trivial))
            clear HV3 HV4
            go_wp2_with (first
              | (refine wpList_store_pd rfl (.tmp 8) (.tmp 72) rfl rb pz _ rfl rfl HB8.out rfl ?_
                 intro wX hX hCX
                 have HX := Lib.hid hX
                 have HNX := Lib.hid (HN8.out.trans hCX (fun i hi h => by rw [h, Hrb.out] at hi; omega))
                 clear hX hCX)
              | fail)
            have g0 : wX.cell? ⟨rb, 0, none⟩ = some (.int .i64 pz.x0) := (HX.out.cell 0).trans rfl
            have g1 : wX.cell? ⟨rb, 1, none⟩ = some (.int .i64 pz.x1) := (HX.out.cell 1).trans rfl
            have g2 : wX.cell? ⟨rb, 2, none⟩ = some (.int .i64 pz.x2) := (HX.out.cell 2).trans rfl
            have g3 : wX.cell? ⟨rb, 3, none⟩ = some (.int .i64 pz.x3) := (HX.out.cell 3).trans rfl
            have g4 : wX.cell? ⟨rb, 4, none⟩ = some (.int .i64 pz.x4) := (HX.out.cell 4).trans rfl
            have g5 : wX.cell? ⟨rb, 5, none⟩ = some (.int .i64 pz.x5) := (HX.out.cell 5).trans rfl
            have g6 : wX.cell? ⟨rb, 6, none⟩ = some (.int .i64 pz.x6) := (HX.out.cell 6).trans rfl
            have g7 : wX.cell? ⟨rb, 7, none⟩ = some (.int .i64 pz.x7) := (HX.out.cell 7).trans rfl
            have g8 : wX.cell? ⟨rb, 8, none⟩ = some (.bool pz.x8) := (HX.out.cell 8).trans rfl
            have g9 : wX.cell? ⟨rb, 9, none⟩ = some (.int .i64 pz.x9) := (HX.out.cell 9).trans rfl
            have g10 : wX.cell? ⟨rb, 10, none⟩ = some (.int .i64 pz.x10) := (HX.out.cell 10).trans rfl
            have g11 : wX.cell? ⟨rb, 11, none⟩ = some (.int .i64 pz.x11) := (HX.out.cell 11).trans rfl
            have g12 : wX.cell? ⟨rb, 12, none⟩ = some (.int .i64 pz.x12) := (HX.out.cell 12).trans rfl
            have g13 : wX.cell? ⟨rb, 13, none⟩ = some (.bool pz.x13) := (HX.out.cell 13).trans rfl
            refine bodyPost_ret (v := .tuple #[.agg #[.int .i64 pz.x0, .int .i64 pz.x1, .int .i64 pz.x2, .int .i64 pz.x3, .int .i64 pz.x4, .int .i64 pz.x5, .int .i64 pz.x6, .int .i64 pz.x7, .bool pz.x8, .int .i64 pz.x9, .int .i64 pz.x10, .int .i64 pz.x11, .int .i64 pz.x12, .bool pz.x13], .int .i64 23]) (by simp [results, Try.results23, go_sem, g0, g1, g2, g3, g4, g5, g6, g7, g8, g9, g10, g11, g12, g13]) rfl ?_
            exact ⟨by obtain ⟨h1, h2⟩ := HQ.out; subst h1; subst h2; rfl, HNX.out⟩
          | true =>
            have HQ := Lib.hid (HV4.out (by trivial))
            clear HV3 HV4
            have c0 : w8.cell? ⟨pb, 0, none⟩ = some (.int .i64 y0) := (HP8.out.cell 0).trans rfl
            have c1 : w8.cell? ⟨pb, 1, none⟩ = some (.int .i64 y1) := (HP8.out.cell 1).trans rfl
            have c2 : w8.cell? ⟨pb, 2, none⟩ = some (.int .i64 y2) := (HP8.out.cell 2).trans rfl
            have c3 : w8.cell? ⟨pb, 3, none⟩ = some (.int .i64 y3) := (HP8.out.cell 3).trans rfl
            have c4 : w8.cell? ⟨pb, 4, none⟩ = some (.int .i64 y4) := (HP8.out.cell 4).trans rfl
            have c5 : w8.cell? ⟨pb, 5, none⟩ = some (.int .i64 y5) := (HP8.out.cell 5).trans rfl
            have c6 : w8.cell? ⟨pb, 6, none⟩ = some (.int .i64 y6) := (HP8.out.cell 6).trans rfl
            have c7 : w8.cell? ⟨pb, 7, none⟩ = some (.int .i64 y7) := (HP8.out.cell 7).trans rfl
            have c8 : w8.cell? ⟨pb, 8, none⟩ = some (.bool y8) := (HP8.out.cell 8).trans rfl
            have c9 : w8.cell? ⟨pb, 9, none⟩ = some (.int .i64 y9) := (HP8.out.cell 9).trans rfl
            have c10 : w8.cell? ⟨pb, 10, none⟩ = some (.int .i64 y10) := (HP8.out.cell 10).trans rfl
            have c11 : w8.cell? ⟨pb, 11, none⟩ = some (.int .i64 y11) := (HP8.out.cell 11).trans rfl
            have c12 : w8.cell? ⟨pb, 12, none⟩ = some (.int .i64 y12) := (HP8.out.cell 12).trans rfl
            have c13 : w8.cell? ⟨pb, 13, none⟩ = some (.bool y13) := (HP8.out.cell 13).trans rfl
            go_wp2_with (first
              | (refine wpList_store_pd rfl (.tmp 8) (.tmp 73) rfl rb ⟨y0, y1, y2, y3, y4, y5, y6, y7, y8, y9, y10, y11, y12, y13⟩ _ rfl rfl HB8.out rfl ?_
                 intro wX hX hCX
                 have HX := Lib.hid hX
                 have HNX := Lib.hid (HN8.out.trans hCX (fun i hi h => by rw [h, Hrb.out] at hi; omega))
                 clear hX hCX)
              | fail)
            have g0 : wX.cell? ⟨rb, 0, none⟩ = some (.int .i64 (⟨y0, y1, y2, y3, y4, y5, y6, y7, y8, y9, y10, y11, y12, y13⟩ : Pd).x0) := (HX.out.cell 0).trans rfl
            have g1 : wX.cell? ⟨rb, 1, none⟩ = some (.int .i64 (⟨y0, y1, y2, y3, y4, y5, y6, y7, y8, y9, y10, y11, y12, y13⟩ : Pd).x1) := (HX.out.cell 1).trans rfl
            have g2 : wX.cell? ⟨rb, 2, none⟩ = some (.int .i64 (⟨y0, y1, y2, y3, y4, y5, y6, y7, y8, y9, y10, y11, y12, y13⟩ : Pd).x2) := (HX.out.cell 2).trans rfl
            have g3 : wX.cell? ⟨rb, 3, none⟩ = some (.int .i64 (⟨y0, y1, y2, y3, y4, y5, y6, y7, y8, y9, y10, y11, y12, y13⟩ : Pd).x3) := (HX.out.cell 3).trans rfl
            have g4 : wX.cell? ⟨rb, 4, none⟩ = some (.int .i64 (⟨y0, y1, y2, y3, y4, y5, y6, y7, y8, y9, y10, y11, y12, y13⟩ : Pd).x4) := (HX.out.cell 4).trans rfl
            have g5 : wX.cell? ⟨rb, 5, none⟩ = some (.int .i64 (⟨y0, y1, y2, y3, y4, y5, y6, y7, y8, y9, y10, y11, y12, y13⟩ : Pd).x5) := (HX.out.cell 5).trans rfl
            have g6 : wX.cell? ⟨rb, 6, none⟩ = some (.int .i64 (⟨y0, y1, y2, y3, y4, y5, y6, y7, y8, y9, y10, y11, y12, y13⟩ : Pd).x6) := (HX.out.cell 6).trans rfl
            have g7 : wX.cell? ⟨rb, 7, none⟩ = some (.int .i64 (⟨y0, y1, y2, y3, y4, y5, y6, y7, y8, y9, y10, y11, y12, y13⟩ : Pd).x7) := (HX.out.cell 7).trans rfl
            have g8 : wX.cell? ⟨rb, 8, none⟩ = some (.bool (⟨y0, y1, y2, y3, y4, y5, y6, y7, y8, y9, y10, y11, y12, y13⟩ : Pd).x8) := (HX.out.cell 8).trans rfl
            have g9 : wX.cell? ⟨rb, 9, none⟩ = some (.int .i64 (⟨y0, y1, y2, y3, y4, y5, y6, y7, y8, y9, y10, y11, y12, y13⟩ : Pd).x9) := (HX.out.cell 9).trans rfl
            have g10 : wX.cell? ⟨rb, 10, none⟩ = some (.int .i64 (⟨y0, y1, y2, y3, y4, y5, y6, y7, y8, y9, y10, y11, y12, y13⟩ : Pd).x10) := (HX.out.cell 10).trans rfl
            have g11 : wX.cell? ⟨rb, 11, none⟩ = some (.int .i64 (⟨y0, y1, y2, y3, y4, y5, y6, y7, y8, y9, y10, y11, y12, y13⟩ : Pd).x11) := (HX.out.cell 11).trans rfl
            have g12 : wX.cell? ⟨rb, 12, none⟩ = some (.int .i64 (⟨y0, y1, y2, y3, y4, y5, y6, y7, y8, y9, y10, y11, y12, y13⟩ : Pd).x12) := (HX.out.cell 12).trans rfl
            have g13 : wX.cell? ⟨rb, 13, none⟩ = some (.bool (⟨y0, y1, y2, y3, y4, y5, y6, y7, y8, y9, y10, y11, y12, y13⟩ : Pd).x13) := (HX.out.cell 13).trans rfl
            refine bodyPost_ret (v := .tuple #[.agg #[.int .i64 (⟨y0, y1, y2, y3, y4, y5, y6, y7, y8, y9, y10, y11, y12, y13⟩ : Pd).x0, .int .i64 (⟨y0, y1, y2, y3, y4, y5, y6, y7, y8, y9, y10, y11, y12, y13⟩ : Pd).x1, .int .i64 (⟨y0, y1, y2, y3, y4, y5, y6, y7, y8, y9, y10, y11, y12, y13⟩ : Pd).x2, .int .i64 (⟨y0, y1, y2, y3, y4, y5, y6, y7, y8, y9, y10, y11, y12, y13⟩ : Pd).x3, .int .i64 (⟨y0, y1, y2, y3, y4, y5, y6, y7, y8, y9, y10, y11, y12, y13⟩ : Pd).x4, .int .i64 (⟨y0, y1, y2, y3, y4, y5, y6, y7, y8, y9, y10, y11, y12, y13⟩ : Pd).x5, .int .i64 (⟨y0, y1, y2, y3, y4, y5, y6, y7, y8, y9, y10, y11, y12, y13⟩ : Pd).x6, .int .i64 (⟨y0, y1, y2, y3, y4, y5, y6, y7, y8, y9, y10, y11, y12, y13⟩ : Pd).x7, .bool (⟨y0, y1, y2, y3, y4, y5, y6, y7, y8, y9, y10, y11, y12, y13⟩ : Pd).x8, .int .i64 (⟨y0, y1, y2, y3, y4, y5, y6, y7, y8, y9, y10, y11, y12, y13⟩ : Pd).x9, .int .i64 (⟨y0, y1, y2, y3, y4, y5, y6, y7, y8, y9, y10, y11, y12, y13⟩ : Pd).x10, .int .i64 (⟨y0, y1, y2, y3, y4, y5, y6, y7, y8, y9, y10, y11, y12, y13⟩ : Pd).x11, .int .i64 (⟨y0, y1, y2, y3, y4, y5, y6, y7, y8, y9, y10, y11, y12, y13⟩ : Pd).x12, .bool (⟨y0, y1, y2, y3, y4, y5, y6, y7, y8, y9, y10, y11, y12, y13⟩ : Pd).x13], .int .i64 0]) (by simp [results, Try.results23, go_sem, g0, g1, g2, g3, g4, g5, g6, g7, g8, g9, g10, g11, g12, g13]) rfl ?_
            exact ⟨by obtain ⟨h1, h2⟩ := HQ.out; subst h1; subst h2; rfl, HNX.out⟩
end Go.Proofs.Ytkcokcanakljnaa
