/-
  Entries in memory; what the document's own At, Free and Same and the law's own image, loaded and entries come to.
-/
import Derived.Test.YtjkpijinpfimiaaRefSh
namespace Go.Proofs.Ytjkpijinpfimiaa
open Go.RowKit
/-- the j-th entry of a slice of entries at A -/
def EnAt (w : World) (F : Nat → Prop) (A : Option Addr) (j : Nat) (e : En) : Prop :=
  ∃ a, A = some a ∧ F a.block ∧ w.cell? (a.add (j * 4)) = some (.int .i64 e.k) ∧ w.cell? ⟨(a.add (j * 4)).block, (a.add (j * 4)).off + 1, none⟩ = some (.int .i64 e.o) ∧ w.cell? ⟨(a.add (j * 4)).block, (a.add (j * 4)).off + 2, none⟩ = some (.int .i64 e.i) ∧ w.cell? ⟨(a.add (j * 4)).block, (a.add (j * 4)).off + 3, none⟩ = some (.int .i64 e.s)
/-- a slice of entries -/
def Ents (w : World) (F : Nat → Prop) (A : Option Addr) (l : List En) : Prop := ∀ j e, l[j]? = some e → EnAt w F A j e
theorem EnAt.chg {w w' : World} {F S : Nat → Prop} {A : Option Addr} {j : Nat} {e : En} (h : EnAt w F A j e) (c : Chg S w w') (hF : ∀ k, F k → k < w.heap.size ∧ ¬ S k) : EnAt w' F A j e := by
  obtain ⟨a, rfl, hb, h0, h1, h2, h3⟩ := h
  have hb1 : (a.add (j * 4)).block < w.heap.size := by rw [add_block]; exact (hF _ hb).1
  have hb2 : ¬ S (a.add (j * 4)).block := by rw [add_block]; exact (hF _ hb).2
  exact ⟨a, rfl, hb, (c.cell hb1 hb2).trans h0, (c.cell (p := ⟨(a.add (j * 4)).block, _, none⟩) hb1 hb2).trans h1, (c.cell (p := ⟨(a.add (j * 4)).block, _, none⟩) hb1 hb2).trans h2, (c.cell (p := ⟨(a.add (j * 4)).block, _, none⟩) hb1 hb2).trans h3⟩
theorem Ents.chg {w w' : World} {F S : Nat → Prop} {A : Option Addr} {l : List En} (h : Ents w F A l) (c : Chg S w w') (hF : ∀ k, F k → k < w.heap.size ∧ ¬ S k) : Ents w' F A l := fun j e he => (h j e he).chg c hF
theorem Ents.new {w w' : World} {F : Nat → Prop} {A : Option Addr} {l : List En} (h : Ents w F A l) (c : New w w') (hF : ∀ k, F k → k < w.heap.size) : Ents w' F A l := h.chg c fun k hk => ⟨hF k hk, fun f => f⟩
/-- an entry's cells; a row's -/
def enCells (e : En) : List Value := [.int .i64 e.k, .int .i64 e.o, .int .i64 e.i, .int .i64 e.s]
def enRow (l : List En) : List Value := l.flatMap enCells
theorem enRow_len (l : List En) : (enRow l).length = l.length * 4 := by
  induction l with
  | nil => rfl
  | cons e l ih => rw [enRow, List.flatMap_cons, List.length_append]; rw [enRow] at ih; rw [ih, List.length_cons]; simp [enCells]; omega
theorem enRow_get (l : List En) (j t : Nat) (e : En) (hj : l[j]? = some e) (ht : t < 4) : (enRow l)[j * 4 + t]? = (enCells e)[t]? := by
  induction l generalizing j with
  | nil => simp at hj
  | cons f l ih =>
    rw [enRow, List.flatMap_cons]
    have h4 : (enCells f).length = 4 := rfl
    cases j with
    | zero =>
      simp only [List.getElem?_cons_zero, Option.some.injEq] at hj
      subst hj
      rw [List.getElem?_append_left (by omega)]
      congr 1
      omega
    | succ j =>
      simp only [List.getElem?_cons_succ] at hj
      rw [List.getElem?_append_right (by omega), h4, ← ih j hj, enRow]
      congr 1
      omega
theorem Ents.of_own {w : World} {base n c : Nat} {A : Option Addr} {l : List En} (h : w.ownsRow base 60 4 (.slice A n c) n (enRow l)) : Ents w (fun k => Value.ownBlock (.slice A n c) = some k) A l := by
  intro j e he
  have hlt : j < l.length := (List.getElem?_eq_some_iff.1 he).1
  have hl := h.1
  rw [enRow_len] at hl
  rcases h.2 with ⟨hv, hn⟩ | ⟨g, cap, cur, hv, _⟩
  · omega
  · simp only [Value.slice.injEq] at hv
    obtain ⟨rfl, _, rfl⟩ := hv
    have hadd : (⟨g, 0, none⟩ : Addr).add (j * 4) = ⟨g, j * 4, none⟩ := by unfold Addr.add; split <;> simp_all
    have hc := fun t (ht : t < 4) => (h.cellAt (j * 4 + t) (by omega)).trans (enRow_get l j t e he ht)
    refine ⟨_, rfl, rfl, ?_, ?_, ?_, ?_⟩ <;> rw [hadd]
    · exact hc 0 (by omega)
    · exact hc 1 (by omega)
    · exact hc 2 (by omega)
    · exact hc 3 (by omega)
set_option maxRecDepth 100000 in
set_option maxHeartbeats 2000000 in
theorem rAt_any (c u q p o i : Int) (A : Option Addr) (n cc : Nat) (F : Nat → Prop) (l : List En) (w : World) (hE : Ents w F A l) (hF : ∀ k, F k → k < w.heap.size) (hl : l.length = n) (hn : n ≤ 1000) :
    Calls Try.prog 17 #[.agg #[.int .i64 c, .int .i64 u, .int .i64 q, .int .i64 p, .slice A n cc], .int .i64 o, .int .i64 i] w fun e w' => e = .returned (.int .i64 (atI o i l)) ∧ New w w' := by
  have HE := Lib.hid hE; clear hE
  have Hl := Lib.hid hl; clear hl
  have HF := Lib.hid hF; clear hF
  go_enter Try.func17, Try.ntmps17
  go_wp2_with fail
  obtain ⟨b, hb⟩ : ∃ b, b = w.heap.size := ⟨_, rfl⟩
  obtain ⟨w1, hw1⟩ : ∃ w1, w1 = w.alloc (.cells #[.int .i64 c, .int .i64 u, .int .i64 q, .int .i64 p, .slice A n cc] 34) := ⟨_, rfl⟩
  have hq : w1.cell? ⟨b, 4, none⟩ = some (.slice A n cc) := by rw [hw1, hb]; exact ((Has.new w 34 _).cell 4).trans rfl
  have HN : Hid (New w w1) := by rw [hw1]; exact (Chg.refl _ _).alloc _
  rw [← hw1, ← hb]
  clear hw1 hb
  go_loopg [7] n (fun gk x wr => ∃ k : Nat, k ≤ n ∧ gk = n - k ∧ x = .int .i64 k ∧ (∀ t f, t < k → l[t]? = some f → ¬ (f.o = o ∧ f.i = i)) ∧ w1 = wr)
  case atStart => exact ⟨0, by omega, by omega, rfl, fun t f ht => by omega, rfl⟩
  case round =>
    obtain ⟨k, hk, rfl, rfl, hno, rfl⟩ := hrel
    have Hno := Lib.hid hno; clear hno
    by_cases hlt : k < n
    · obtain ⟨e, he⟩ : ∃ e, l[k]? = some e := ⟨_, List.getElem?_eq_getElem (by rw [Hl.out]; exact hlt)⟩
      obtain ⟨a, rfl, hab, h0, h1, h2, h3⟩ := (HE.out.new HN.out HF.out) k e he
      have He := Lib.hid he; clear he
      by_cases ho : e.o = o
      · have t0 : (e.o == o) = true := by simpa using ho
        by_cases hi : e.i = i
        · have t1 : (e.i == i) = true := by simpa using hi
          have Ha := Lib.hid (atI_some He.out ⟨ho, hi⟩ Hno.out)
          clear ho hi
          go_wp2_with fail
          go_ret
          rw [Ha.out]
          exact ⟨rfl, HN.out⟩
        · have t1 : (e.i == i) = false := by simpa using hi
          go_wp2_with fail
          go_roundg (n - (k + 1))
          case measure => omega
          case rel =>
            refine ⟨k + 1, by omega, rfl, by go_num, fun t f ht hf => ?_, rfl⟩
            rcases Nat.lt_or_ge t k with h | h
            · exact Hno.out t f h hf
            · obtain rfl : t = k := by omega
              rw [He.out] at hf
              cases hf
              exact fun h => hi h.2
      · have t0 : (e.o == o) = false := by simpa using ho
        go_wp2_with fail
        go_roundg (n - (k + 1))
        case measure => omega
        case rel =>
          refine ⟨k + 1, by omega, rfl, by go_num, fun t f ht hf => ?_, rfl⟩
          rcases Nat.lt_or_ge t k with h | h
          · exact Hno.out t f h hf
          · obtain rfl : t = k := by omega
            rw [He.out] at hf
            cases hf
            exact fun h => ho h.1
    · obtain rfl : k = n := by omega
      have Ha : Hid (atI o i l = -1) := atI_none (fun e he => by
        obtain ⟨t, ht⟩ := List.mem_iff_getElem?.1 he
        exact Hno.out t e (by have := (List.getElem?_eq_some_iff.1 ht).1; rw [Hl.out] at this; exact this) ht)
      go_wp2_with fail
      go_ret
      rw [Ha.out]
      exact ⟨rfl, HN.out⟩
theorem free_step (l : List En) (s k : Nat) : (l.take (k + 1)).all (fun e => decide (e.s ≠ (s : Int))) = ((l.take k).all (fun e => decide (e.s ≠ (s : Int))) && (match l[k]? with | some e => decide (e.s ≠ (s : Int)) | none => true)) := by
  rw [List.take_add_one, List.all_append]
  cases l[k]? <;> simp
set_option maxRecDepth 100000 in
set_option maxHeartbeats 2000000 in
theorem rFree_any (c u q p : Int) (A : Option Addr) (n cc : Nat) (F : Nat → Prop) (l : List En) (w : World) (hE : Ents w F A l) (hF : ∀ k, F k → k < w.heap.size) (hl : l.length = n) (hn : n ≤ 1000) :
    Calls Try.prog 19 #[.agg #[.int .i64 c, .int .i64 u, .int .i64 q, .int .i64 p, .slice A n cc]] w fun e w' => e = .returned (.int .i64 (freeI l)) ∧ New w w' := by
  have HE := Lib.hid hE; clear hE
  have Hl := Lib.hid hl; clear hl
  have HF := Lib.hid hF; clear hF
  go_enter Try.func19, Try.ntmps19
  go_wp2_with fail
  obtain ⟨b, hb⟩ : ∃ b, b = w.heap.size := ⟨_, rfl⟩
  obtain ⟨w1, hw1⟩ : ∃ w1, w1 = w.alloc (.cells #[.int .i64 c, .int .i64 u, .int .i64 q, .int .i64 p, .slice A n cc] 34) := ⟨_, rfl⟩
  have hq : w1.cell? ⟨b, 4, none⟩ = some (.slice A n cc) := by rw [hw1, hb]; exact ((Has.new w 34 _).cell 4).trans rfl
  have HN : Hid (New w w1) := by rw [hw1]; exact (Chg.refl _ _).alloc _
  rw [← hw1, ← hb]
  clear hw1 hb
  go_loopg [3] 6 (fun gk x wr => ∃ s : Nat, s ≤ 6 ∧ gk = 6 - s ∧ x = .int .i64 s ∧ freeI l = freeFrom l s (6 - s) ∧ w1 = wr)
  case atStart => exact ⟨0, by omega, by omega, rfl, rfl, rfl⟩
  case round =>
    obtain ⟨s, hs, rfl, rfl, hfr, rfl⟩ := hrel
    have Hfr := Lib.hid hfr; clear hfr
    by_cases hlt : s < 6
    · have ts : decide ((s : Int) < 6) = true := by simp only [decide_eq_true_eq]; omega
      go_wp2_with fail
      go_loopg [4, 5] n (fun gk y x wy => ∃ k : Nat, k ≤ n ∧ gk = n - k ∧ y = .bool ((l.take k).all (fun e => decide (e.s ≠ (s : Int)))) ∧ x = .int .i64 k ∧ w1 = wy)
      case atStart => exact ⟨0, by omega, by omega, by simp, rfl, rfl⟩
      case round =>
        obtain ⟨k, hk, rfl, rfl, rfl, rfl⟩ := hrel
        have HT := Lib.hid (free_step l s k)
        obtain ⟨x, hx⟩ : ∃ x, x = (l.take k).all (fun e => decide (e.s ≠ (s : Int))) := ⟨_, rfl⟩
        rw [← hx] at HT ⊢
        have Hx := Lib.hid hx; clear hx
        by_cases hkn : k < n
        · obtain ⟨e, he⟩ : ∃ e, l[k]? = some e := ⟨_, List.getElem?_eq_getElem (by rw [Hl.out]; exact hkn)⟩
          obtain ⟨a, rfl, hab, h0, h1, h2, h3⟩ := (HE.out.new HN.out HF.out) k e he
          rw [he] at HT
          clear he
          cases x with
          | true =>
            by_cases hes : e.s = (s : Int)
            · have t : (e.s == (s : Int)) = true := by simpa using hes
              have t' : (e.s != (s : Int)) = false := by simpa using hes
              go_wp2_with fail
              go_roundg (n - (k + 1))
              case measure => omega
              case rel => exact ⟨k + 1, by omega, rfl, by rw [HT.out]; simp [hes], by go_num, rfl⟩
            · have t : (e.s == (s : Int)) = false := by simpa using hes
              have t' : (e.s != (s : Int)) = true := by simpa using hes
              go_wp2_with fail
              go_roundg (n - (k + 1))
              case measure => omega
              case rel => exact ⟨k + 1, by omega, rfl, by rw [HT.out]; simp [hes], by go_num, rfl⟩
          | false =>
            go_wp2_with fail
            go_roundg (n - (k + 1))
            case measure => omega
            case rel => exact ⟨k + 1, by omega, rfl, by rw [HT.out]; simp, by go_num, rfl⟩
        · obtain rfl : k = n := by omega
          have HB : Hid (freeB l s = x) := by
            show _ = _
            rw [Hx.out, List.take_of_length_le (by rw [Hl.out]; omega)]; rfl
          have HS : Hid (freeFrom l s (6 - s) = if freeB l s then (s : Int) else freeFrom l (s + 1) (6 - (s + 1))) := by
            show _ = _
            rw [show 6 - s = 6 - (s + 1) + 1 by omega]
            rfl
          clear HT Hx
          cases x with
          | true =>
            go_wp2_with fail
            go_ret
            rw [Hfr.out, HS.out, HB.out]
            exact ⟨rfl, HN.out⟩
          | false =>
            go_wp2_with fail
            go_roundg (6 - (s + 1))
            case measure => omega
            case rel => exact ⟨s + 1, by omega, rfl, by go_num, by rw [Hfr.out, HS.out, HB.out]; rfl, rfl⟩
    · obtain rfl : s = 6 := by omega
      go_wp2_with fail
      go_ret
      rw [Hfr.out]
      exact ⟨rfl, HN.out⟩
set_option maxRecDepth 100000 in
set_option maxHeartbeats 2000000 in
/-- Same, of two views that say the same -/
theorem rSame_yes (v : Vw) (A B : Option Addr) (n ca cb : Nat) (F : Nat → Prop) (w : World) (hE : Ents w F A v.es) (hD : Ents w F B v.es) (hF : ∀ k, F k → k < w.heap.size) (hl : v.es.length = n) (hn : n ≤ 1000) :
    Calls Try.prog 14 #[.agg #[.int .i64 v.c, .int .i64 v.u, .int .i64 v.q, .int .i64 v.p, .slice A n ca], .agg #[.int .i64 v.c, .int .i64 v.u, .int .i64 v.q, .int .i64 v.p, .slice B n cb]] w fun e w' => e = .returned (.bool true) ∧ New w w' := by
  have HE := Lib.hid hE; clear hE
  have HD := Lib.hid hD; clear hD
  have Hl := Lib.hid hl; clear hl
  have HF := Lib.hid hF; clear hF
  obtain ⟨c, hc⟩ : ∃ c, c = v.c := ⟨_, rfl⟩
  obtain ⟨u, hu⟩ : ∃ u, u = v.u := ⟨_, rfl⟩
  obtain ⟨q, hq⟩ : ∃ q, q = v.q := ⟨_, rfl⟩
  obtain ⟨p, hp⟩ : ∃ p, p = v.p := ⟨_, rfl⟩
  rw [← hc, ← hu, ← hq, ← hp]
  clear hc hu hq hp
  go_enter Try.func14, Try.ntmps14
  go_wp2_with fail
  obtain ⟨b, hb⟩ : ∃ b, b = w.heap.size := ⟨_, rfl⟩
  obtain ⟨d, hd⟩ : ∃ d, d = w.heap.size + 1 := ⟨_, rfl⟩
  obtain ⟨w1, hw1⟩ : ∃ w1, w1 = (w.alloc (.cells #[.int .i64 c, .int .i64 u, .int .i64 q, .int .i64 p, .slice A n ca] 34)).alloc (.cells #[.int .i64 c, .int .i64 u, .int .i64 q, .int .i64 p, .slice B n cb] 34) := ⟨_, rfl⟩
  have HH1 : Hid (Has w1 b 34 #[.int .i64 c, .int .i64 u, .int .i64 q, .int .i64 p, .slice A n ca]) := by rw [hw1, hb]; exact (Has.new w 34 _).alloc _
  have HH2 : Hid (Has w1 d 34 #[.int .i64 c, .int .i64 u, .int .i64 q, .int .i64 p, .slice B n cb]) := by rw [hw1, hd]; exact Has.new_at _ 34 _ _ (by simp)
  have HN : Hid (New w w1) := by rw [hw1]; exact ((Chg.refl _ _).alloc _).alloc _
  rw [← hw1, ← hd, ← hb]
  clear hw1 hb hd
  go_loopg [5] n (fun gk x wr => ∃ k : Nat, k ≤ n ∧ gk = n - k ∧ x = .int .i64 k ∧ New w1 wr)
  case atStart => exact ⟨0, by omega, by omega, rfl, Chg.refl _ _⟩
  case round =>
    obtain ⟨k, hk, rfl, rfl, hN⟩ := hrel
    have hH1 := HH1.out.keep hN
    have hH2 := HH2.out.keep hN
    have hq1 : wr.cell? ⟨b, 4, none⟩ = some (.slice A n ca) := (hH1.cell 4).trans rfl
    have hq2 : wr.cell? ⟨d, 4, none⟩ = some (.slice B n cb) := (hH2.cell 4).trans rfl
    have HNr := Lib.hid (HN.out.then_new hN)
    have HNw := Lib.hid hN
    clear hH1 hH2 hN
    by_cases hlt : k < n
    · obtain ⟨e, he⟩ : ∃ e, v.es[k]? = some e := ⟨_, List.getElem?_eq_getElem (by rw [Hl.out]; exact hlt)⟩
      obtain ⟨a, rfl, hab, h0, h1, h2, h3⟩ := (HE.out.new HNr.out HF.out) k e he
      obtain ⟨a', rfl, hab', k0, k1, k2, k3⟩ := (HD.out.new HNr.out HF.out) k e he
      clear he
      obtain ⟨ek, hek⟩ : ∃ x, x = e.k := ⟨_, rfl⟩
      obtain ⟨eo, heo⟩ : ∃ x, x = e.o := ⟨_, rfl⟩
      obtain ⟨ei, hei⟩ : ∃ x, x = e.i := ⟨_, rfl⟩
      obtain ⟨es, hes⟩ : ∃ x, x = e.s := ⟨_, rfl⟩
      rw [← hek] at h0 k0
      rw [← heo] at h1 k1
      rw [← hei] at h2 k2
      rw [← hes] at h3 k3
      clear hek heo hei hes
      go_upto_region 6 with (fail)
      go_quiet (fail)
      go_wp2_with fail
      go_roundg (n - (k + 1))
      case measure => omega
      case rel => exact ⟨k + 1, by omega, rfl, by go_num, HNw.out.drewN _⟩
    · obtain rfl : k = n := by omega
      go_wp2_with fail
      go_ret
      exact ⟨rfl, HNr.out⟩
end Go.Proofs.Ytjkpijinpfimiaa
