/-
  Package lists: a list in memory, apply, Version, Items, Has.
-/
import Derived.Test.YtficopkjpdfilaaLiE
namespace Go.Proofs.Ytficopkjpdfilaa
open Go.RowKit
/-- a list: block g of type t holds version and items, the items are a row of the call's own -/
structure Lst (w : World) (base g : Nat) (t : TypeId) (ver : Int) (L : List It) : Prop where
  ex : ∃ v, Has w g t #[.int .i64 ver, v] ∧ w.ownsRow base 44 5 v L.length (ics L)
/-- what a call to it may turn: the list's block alone -/
theorem Lst.chg {w w' : World} {S : Nat → Prop} {base g : Nat} {t : TypeId} {ver : Int} {L : List It} (h : Lst w base g t ver L) (c : Chg S w w') (hg : ¬ S g) (ht : ∀ k cs, Has w k 44 cs → ¬ S k) : Lst w' base g t ver L := by
  obtain ⟨v, h1, h2⟩ := h.ex
  refine ⟨v, h1.chg c hg, own_chg h2 c fun k hk => ?_⟩
  rcases h2.2 with ⟨rfl, _⟩ | ⟨g', cap, cur, rfl, _, hh, _⟩
  · simp [Value.ownBlock] at hk
  · simp only [Value.ownBlock, Option.some.injEq] at hk
    subst hk
    exact ht _ _ hh
theorem Lst.new {w w' : World} {base g : Nat} {t : TypeId} {ver : Int} {L : List It} (h : Lst w base g t ver L) (c : New w w') : Lst w' base g t ver L := h.chg c (fun f => f) fun _ _ _ f => f
theorem Lst.lt {w : World} {base g : Nat} {t : TypeId} {ver : Int} {L : List It} (h : Lst w base g t ver L) : g < w.heap.size := by
  obtain ⟨v, h1, _⟩ := h.ex
  exact h1.lt
set_option maxRecDepth 100000 in
set_option maxHeartbeats 4000000 in
theorem Version_any (g : Nat) (t : TypeId) (ver : Int) (L : List It) (base : Nat) (w : World) (h : Lst w base g t ver L) :
    Calls Try.prog 15 #[.pointer (some ⟨g, 0, none⟩)] w fun e w' => e = .returned (.int .i64 ver) ∧ New w w' := by
  obtain ⟨v, h1, _⟩ := h.ex
  have c0 := (h1.cell 0).trans rfl
  simp only [List.getElem?_toArray, List.getElem?_cons_zero] at c0
  clear h1
  go_enter Try.func15, Try.ntmps15
  go_wp2_with fail
  go_ret
  exact ⟨rfl, Chg.refl _ _⟩
set_option maxRecDepth 100000 in
set_option maxHeartbeats 4000000 in
theorem Items_any (g : Nat) (t : TypeId) (ver : Int) (L : List It) (base : Nat) (w : World) (h : Lst w base g t ver L) (hb : L.length ≤ 64) :
    Calls Try.prog 14 #[.pointer (some ⟨g, 0, none⟩)] w fun e w' => ∃ v, e = .returned v ∧ w'.ownsRow w.heap.size 44 5 v L.length (ics L) ∧ New w w' := by
  obtain ⟨v, h1, h2⟩ := h.ex
  have c1 := (h1.cell 1).trans rfl
  simp only [List.getElem?_toArray, List.getElem?_cons_zero, List.getElem?_cons_succ] at c1
  obtain ⟨A, c, rfl, hn⟩ := own_form h2
  have HC := Lib.hid (cloneI_any A L.length c _ L w (Its.of_own h2) (own_lt h2) rfl hn (by omega))
  clear h1 h2 h hn
  go_enter Try.func14, Try.ntmps14
  go_wp2_with fail
  with_reducible refine HC.out.mono ?_
  rintro e w' ⟨v, rfl, hO, hN⟩
  have HO := Lib.hid hO; clear hO
  have HN := Lib.hid hN; clear hN
  go_wp2_with fail
  go_ret
  exact ⟨v, rfl, HO.out, HN.out⟩
set_option maxRecDepth 100000 in
set_option maxHeartbeats 4000000 in
theorem Has_any (g : Nat) (t : TypeId) (ver : Int) (L : List It) (base : Nat) (card owner id : Int) (w : World) (h : Lst w base g t ver L) (hb : L.length ≤ 64) :
    Calls Try.prog 16 #[.pointer (some ⟨g, 0, none⟩), .int .i64 card, .int .i64 owner, .int .i64 id] w fun e w' => e = .returned (.bool (L.any fun x => hasB x card owner id)) ∧ New w w' := by
  obtain ⟨v, h1, h2⟩ := h.ex
  have c1 := (h1.cell 1).trans rfl
  simp only [List.getElem?_toArray, List.getElem?_cons_zero, List.getElem?_cons_succ] at c1
  have hlg := h1.lt
  obtain ⟨A, c, rfl, hn⟩ := own_form h2
  have hN : New w (((w.alloc (.cells #[.int .i64 card] 3)).alloc (.cells #[.int .i64 owner] 3)).alloc (.cells #[.int .i64 id] 3)) := (((Chg.refl _ _).alloc _).alloc _).alloc _
  have b1 := ((Has.new w 3 #[.int .i64 card]).alloc (.cells #[.int .i64 owner] 3)).alloc (.cells #[.int .i64 id] 3)
  have b2 := (Has.new_at (w.alloc (.cells #[.int .i64 card] 3)) 3 #[.int .i64 owner] (w.heap.size + 1) (by simp)).alloc (.cells #[.int .i64 id] 3)
  have b3 := Has.new_at ((w.alloc (.cells #[.int .i64 card] 3)).alloc (.cells #[.int .i64 owner] 3)) 3 #[.int .i64 id] (w.heap.size + 2) (by simp)
  have HC := Lib.hid (contains_has (fun x => hasB x card owner id) L A L.length c (.pointer (some ⟨w.heap.size, 0, none⟩)) (.pointer (some ⟨w.heap.size + 1, 0, none⟩)) (.pointer (some ⟨w.heap.size + 2, 0, none⟩)) _ _ rfl (by omega) ((Its.of_own h2).new hN (own_lt h2)) (fun k hk => Nat.lt_of_lt_of_le (own_lt h2 k hk) hN.size)
    (fun x w1 hN1 => has1_any x card owner id w.heap.size (w.heap.size + 1) (w.heap.size + 2) w1 (b1.keep hN1) (b2.keep hN1) (b3.keep hN1)))
  obtain ⟨R, hR⟩ : ∃ R, R = L.any fun x => hasB x card owner id := ⟨_, rfl⟩
  rw [← hR] at HC ⊢
  clear hR h1 h2 h hn b1 b2 b3
  have HN := Lib.hid hN; clear hN
  have hlg1 : g < w.heap.size + 1 := by omega
  have hlg2 : g < w.heap.size + 1 + 1 := by omega
  go_enter Try.func16, Try.ntmps16
  go_wp2_with fail
  with_reducible refine HC.out.mono ?_
  rintro e w' ⟨rfl, hN2⟩
  have HN2 := Lib.hid hN2; clear hN2
  go_wp2_with fail
  go_ret
  exact ⟨rfl, HN.out.then_new HN2.out⟩
end Go.Proofs.Ytficopkjpdfilaa
