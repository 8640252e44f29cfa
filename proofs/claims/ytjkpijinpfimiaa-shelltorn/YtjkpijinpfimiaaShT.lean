/-
  Store and Drop on a card whose view was read: what the card says behind them, wherever power fails.
-/
import Derived.Test.YtjkpijinpfimiaaTold
namespace Go.Proofs.Ytjkpijinpfimiaa
open Go.RowKit
theorem turn_big (i n : Int) (hn : 0 < n) (hb : n ≤ 1000000) : (∃ j : Nat, Int.tmod (Int.tmod i n + n) n = (j : Int) ∧ (j : Int) < n) ∧ wrap64 (Int.tmod i n + n) = Int.tmod i n + n := by
  have h1 : Int.tmod i n < n := Int.tmod_lt_of_pos i hn
  have h2 : -n < Int.tmod i n := Int.lt_tmod_of_pos i hn
  have h3 := Int.emod_nonneg (Int.tmod i n + n) (show n ≠ 0 by omega)
  have h4 := Int.emod_lt_of_pos (Int.tmod i n + n) hn
  refine ⟨⟨((Int.tmod i n + n) % n).toNat, ?_, by omega⟩, w64 _ (by omega) (by omega)⟩
  rw [Int.tmod_eq_emod_of_nonneg (by omega)]
  omega
/-- a card's bytes behind a Store, a Drop, that power lets end -/
def stB (B : List Nat) (e : En) (body : List Nat) : List Nat := if stE (rdV B) e body.length = 0 then doneI B (stR (rdV B) e body) 3 else B
def drB (B : List Nat) (o i : Int) : List Nat := if drE (rdV B) o i = 0 then doneI B (drR (rdV B) o i) 1 else B
theorem stB_rd {B : List Nat} (hl : B.length = 512) (hs : ∀ x ∈ B, x < 256) (hr : rdE B = 0) (e : En) (body : List Nat) : rdE (stB B e body) = 0 := by
  unfold stB
  split
  · rename_i h; exact (st_done hl hs hr h).1
  · exact hr
theorem drB_rd {B : List Nat} (hl : B.length = 512) (hs : ∀ x ∈ B, x < 256) (hr : rdE B = 0) (o i : Int) : rdE (drB B o i) = 0 := by
  unfold drB
  split
  · rename_i h; exact (dr_done hl hs hr h).1
  · exact hr
/-- what a card says is what it said, or what it was to say -/
def TornTo (B Bd : List Nat) (pw : Int) (Bc : List Nat) (pw' : Int) : Prop :=
  (pw = -1 → Bc = Bd ∧ pw' = -1) ∧ rdE Bc = 0 ∧ (Bc = Bd ∨ (rdV Bc = rdV B ∧ bodsI Bc (rdV B).es = bodsI B (rdV B).es))
theorem bods_same {B C : List Nat} : ∀ {l : List En}, (∀ f ∈ l, bodyI C f.s.toNat = bodyI B f.s.toNat) → bodsI C l = bodsI B l := by
  intro l
  induction l with
  | nil => intro _; rfl
  | cons e l ih =>
    intro h
    unfold bodsI at ih ⊢
    rw [List.flatMap_cons, List.flatMap_cons, h e (by simp), ih (fun f hf => h f (by simp [hf]))]
theorem wrN_lt {pw : Int} {n : Nat} : wrN pw n = n ∨ wrN pw n < n := by
  unfold wrN
  split
  · right; omega
  · left; rfl
theorem stR_len (v : Vw) (e : En) (body : List Nat) : (stR v e body).length = 3 := rfl
theorem drR_len (v : Vw) (o i : Int) : (drR v o i).length = 1 := rfl
theorem ChR_st {g : Nat} {B : List Nat} {pw : Int} {e : En} {body : List Nat} {V : Vw} {w w' : World} {x : Ending} (hl : B.length = 512) (hs : ∀ x ∈ B, x < 256) (hr : rdE B = 0) (h : ChR g B pw (stE (rdV B) e body.length) (stR (rdV B) e body) V w x w') :
    (∃ r, x = .returned r) ∧ ∃ Bc pw', Cd w' g Bc pw' ∧ TornTo B (stB B e body) pw Bc pw' := by
  rw [ChR, stR_len] at h
  rcases h with ⟨h0, rfl, hC⟩ | ⟨h0, h1, rfl, hC⟩ | ⟨h0, h1, ⟨A, c, rfl, _⟩, hC⟩
  · have hb : stB B e body = B := by unfold stB; rw [if_neg h0]
    exact ⟨⟨_, rfl⟩, B, pw, hC, fun h => ⟨hb.symm, h⟩, hr, Or.inl hb.symm⟩
  all_goals
    have hb : stB B e body = doneI B (stR (rdV B) e body) 3 := by unfold stB; rw [if_pos h0]
    refine ⟨⟨_, rfl⟩, _, _, hC, ?_, ?_, ?_⟩
    · rintro rfl
      obtain ⟨f1, f2, f3⟩ := wr_free 3
      rw [f2, f3, hb]
      exact ⟨rfl, rfl⟩
    · rcases wrN_lt (pw := pw) (n := 3) with hn | hn
      · rw [hn]; exact (st_done hl hs hr h0).1
      · exact (st_torn hl hr h0 hn).1
    · rcases wrN_lt (pw := pw) (n := 3) with hn | hn
      · rw [hn, hb]; exact Or.inl rfl
      · exact Or.inr ⟨(st_torn hl hr h0 hn).2.1, bods_same (st_torn hl hr h0 hn).2.2⟩
theorem ChR_dr {g : Nat} {B : List Nat} {pw : Int} {o i : Int} {V : Vw} {w w' : World} {x : Ending} (hl : B.length = 512) (hs : ∀ x ∈ B, x < 256) (hr : rdE B = 0) (h : ChR g B pw (drE (rdV B) o i) (drR (rdV B) o i) V w x w') :
    (∃ r, x = .returned r) ∧ ∃ Bc pw', Cd w' g Bc pw' ∧ TornTo B (drB B o i) pw Bc pw' := by
  rw [ChR, drR_len] at h
  rcases h with ⟨h0, rfl, hC⟩ | ⟨h0, h1, rfl, hC⟩ | ⟨h0, h1, ⟨A, c, rfl, _⟩, hC⟩
  · have hb : drB B o i = B := by unfold drB; rw [if_neg h0]
    exact ⟨⟨_, rfl⟩, B, pw, hC, fun h => ⟨hb.symm, h⟩, hr, Or.inl hb.symm⟩
  all_goals
    have hb : drB B o i = doneI B (drR (rdV B) o i) 1 := by unfold drB; rw [if_pos h0]
    refine ⟨⟨_, rfl⟩, _, _, hC, ?_, ?_, ?_⟩
    · rintro rfl
      obtain ⟨f1, f2, f3⟩ := wr_free 1
      rw [f2, f3, hb]
      exact ⟨rfl, rfl⟩
    · rcases wrN_lt (pw := pw) (n := 1) with hn | hn
      · rw [hn]; exact (dr_done hl hs hr h0).1
      · rw [show wrN pw 1 = 0 by omega, doneI_zero]; exact hr
    · rcases wrN_lt (pw := pw) (n := 1) with hn | hn
      · rw [hn, hb]; exact Or.inl rfl
      · rw [show wrN pw 1 = 0 by omega, doneI_zero]; exact Or.inr ⟨rfl, rfl⟩
/-- a Store with the view that was read -/
theorem Store_torn (g : Nat) (B : List Nat) (pw : Int) (c u K O I S : Int) (q p : Nat) (A : Option Addr) (n cc : Nat) (F : Nat → Prop) (l : List En) (D : Option Addr) (m dc : Nat) (body : List Nat) (w : World) (B0 : List Nat) (hC : Cd w g B pw) (hB0 : B0 = B) (hr : rdE B0 = 0) (hV : rdV B0 = ⟨c, u, (q : Int), (p : Int), l⟩) (hE : Ents w F A l) (hF : ∀ k, F k → k < w.heap.size) (hl : l.length = n) (hnil : A = none → n = 0 ∧ cc = 0) (hD : Arr w F D m (fun i => bV (body.getD i 0))) (hm : body.length = m) (hb : ∀ x ∈ body, x < 256) :
    Calls Try.prog 30 #[.pointer (some ⟨g, 0, none⟩), .agg #[.int .i64 c, .int .i64 u, .int .i64 (q : Int), .int .i64 (p : Int), .slice A n cc], .agg #[.int .i64 K, .int .i64 O, .int .i64 I, .int .i64 S], .slice D m dc] w fun e w' => ∃ r Bc pw', e = .returned r ∧ Cd w' g Bc pw' ∧ TornTo B (stB B ⟨K, O, I, S⟩ body) pw Bc pw' ∧ Chg (· = g) w w' := by
  subst hB0
  have hf := rd_fine hC.small hr
  rw [hV] at hf
  refine (Store_any g B0 pw c u K O I S q p A n cc F l D m dc body w hC hE hF hl hnil hf hD hm hb).mono ?_
  rintro e w' ⟨hR, hG⟩
  rw [← hV] at hR
  obtain ⟨⟨r, hre⟩, Bc, pw', h1, h2⟩ := ChR_st hC.len hC.small hr hR
  exact ⟨r, Bc, pw', hre, h1, h2, hG⟩
theorem Drop_torn (g : Nat) (B : List Nat) (pw : Int) (c u o i : Int) (q p : Nat) (A : Option Addr) (n cc : Nat) (F : Nat → Prop) (l : List En) (w : World) (B0 : List Nat) (hC : Cd w g B pw) (hB0 : B0 = B) (hr : rdE B0 = 0) (hV : rdV B0 = ⟨c, u, (q : Int), (p : Int), l⟩) (hE : Ents w F A l) (hF : ∀ k, F k → k < w.heap.size) (hl : l.length = n) (hnil : A = none → n = 0 ∧ cc = 0) (hcap : n ≤ cc) :
    Calls Try.prog 29 #[.pointer (some ⟨g, 0, none⟩), .agg #[.int .i64 c, .int .i64 u, .int .i64 (q : Int), .int .i64 (p : Int), .slice A n cc], .int .i64 o, .int .i64 i] w fun e w' => ∃ r Bc pw', e = .returned r ∧ Cd w' g Bc pw' ∧ TornTo B (drB B o i) pw Bc pw' ∧ Chg (· = g) w w' := by
  subst hB0
  have hf := rd_fine hC.small hr
  rw [hV] at hf
  refine (Drop_any g B0 pw c u o i q p A n cc F l w hC hE hF hl hnil hcap hf).mono ?_
  rintro e w' ⟨hR, hG⟩
  rw [← hV] at hR
  obtain ⟨⟨r, hre⟩, Bc, pw', h1, h2⟩ := ChR_dr hC.len hC.small hr hR
  exact ⟨r, Bc, pw', hre, h1, h2, hG⟩
theorem bstr_inj {a b : List Nat} (ha : ∀ x ∈ a, x < 256) (hb : ∀ x ∈ b, x < 256) (h : a.map UInt8.ofNat = b.map UInt8.ofNat) : a = b := by
  induction a generalizing b with
  | nil => cases b with
    | nil => rfl
    | cons y b => simp at h
  | cons x a ih => cases b with
    | nil => simp at h
    | cons y b =>
      simp only [List.map_cons, List.cons.injEq] at h
      have hx := ha x (by simp)
      have hy := hb y (by simp)
      have hxy : x = y := by
        have := congrArg UInt8.toNat h.1
        simp [UInt8.toNat_ofNat'] at this
        omega
      rw [hxy, ih (fun z hz => ha z (by simp [hz])) (fun z hz => hb z (by simp [hz])) h.2]
theorem bstr_ne {a b : List Nat} (ha : ∀ x ∈ a, x < 256) (hb : ∀ x ∈ b, x < 256) (h : a ≠ b) : ((bstr a).toList == (bstr b).toList) = false := by
  rw [beq_eq_false_iff_ne]
  intro he
  rw [bstr_list, bstr_list] at he
  exact h (bstr_inj ha hb he)
theorem bods_small {B : List Nat} (hB : ∀ x ∈ B, x < 256) (l : List En) : ∀ x ∈ bodsI B l, x < 256 := by
  intro x hx
  unfold bodsI at hx
  rw [List.mem_flatMap] at hx
  obtain ⟨e, _, hx⟩ := hx
  unfold bodyI at hx
  rcases List.mem_append.1 hx with hx | hx
  · exact sec_small hB x hx
  · exact sec_small hB x hx
end Go.Proofs.Ytjkpijinpfimiaa
