/-
  What is derived, as plain mathematics; 'copy' into a block of numbers that is known whole.
-/
import Derived.Test.YtkegafkmcdkphaaKyD
import Derived.Laws.CopyOwn
namespace Go.Proofs.Ytkegafkmcdkphaa
open Go.RowKit
theorem zeroB_no {n : Nat} {p : Nat → Int} (h : zeroB n p = false) : ∀ i, i < n → p i ≠ 0 := by
  intro i hi hp
  exact of_decide_eq_false h ⟨i, hi, hp⟩
theorem zeroB_yes {n : Nat} {p : Nat → Int} (h : zeroB n p = true) : ∃ i, i < n ∧ p i = 0 := of_decide_eq_true h
/-- the places of what is derived -/
theorem der_places (k : Ky) (n : Nat) (p : Nat → Int) : derR k n p = ⟨if lev k ≤ 0 ∧ 0 < lev k + n then p (0 - lev k) else k.o, if lev k ≤ 1 ∧ 1 < lev k + n then p (1 - lev k) else k.t, if lev k ≤ 2 ∧ 2 < lev k + n then p (2 - lev k) else k.c, k.v⟩ := rfl
theorem der_fine {k : Ky} {n : Nat} {p : Nat → Int} (hk : KRight k) (hn : lev k + n ≤ 3) (hz : ∀ i, i < n → p i ≠ 0) (hd : KRight (derR k n p)) : lev (derR k n p) = lev k + n := by
  have e := der_places k n p
  generalize derR k n p = d at e hd ⊢
  have h0 := hz 0
  have h1 := hz 1
  have h2 := hz 2
  have eo : d.o = _ := congrArg Ky.o e
  have et : d.t = _ := congrArg Ky.t e
  have ec : d.c = _ := congrArg Ky.c e
  rcases lev_ways hk with ⟨l, a, b, c⟩ | ⟨l, a, b, c⟩ | ⟨l, a, b, c⟩ | ⟨l, a, b, c⟩ <;> rw [l] at eo et ec hn ⊢ <;>
    (rcases (show n = 0 ∨ n = 1 ∨ n = 2 ∨ n = 3 by omega) with rfl | rfl | rfl | rfl) <;> simp at eo et ec <;>
    rcases lev_ways hd with ⟨l', a', b', c'⟩ | ⟨l', a', b', c'⟩ | ⟨l', a', b', c'⟩ | ⟨l', a', b', c'⟩ <;> omega
theorem der_zero {k : Ky} {n : Nat} {p : Nat → Int} (hk : KRight k) (hn : lev k + n ≤ 3) (hz : ∃ i, i < n ∧ p i = 0) (hd : KRight (derR k n p)) : lev (derR k n p) ≠ lev k + n := by
  have e := der_places k n p
  generalize derR k n p = d at e hd ⊢
  obtain ⟨i, hi, hp⟩ := hz
  have eo : d.o = _ := congrArg Ky.o e
  have et : d.t = _ := congrArg Ky.t e
  have ec : d.c = _ := congrArg Ky.c e
  rcases lev_ways hk with ⟨l, a, b, c⟩ | ⟨l, a, b, c⟩ | ⟨l, a, b, c⟩ | ⟨l, a, b, c⟩ <;> rw [l] at eo et ec hn ⊢ <;>
    (rcases (show n = 0 ∨ n = 1 ∨ n = 2 ∨ n = 3 by omega) with rfl | rfl | rfl | rfl) <;> simp at eo et ec <;>
    (rcases (show i = 0 ∨ i = 1 ∨ i = 2 by omega) with rfl | rfl | rfl) <;>
    rcases lev_ways hd with ⟨l', a', b', c'⟩ | ⟨l', a', b', c'⟩ | ⟨l', a', b', c'⟩ | ⟨l', a', b', c'⟩ <;> omega
theorem derE_no {k : Ky} (n : Nat) (p : Nat → Int) (h : rightB k = false) : derE k n p = 2 := by unfold derE; rw [h]; rfl
theorem derE_nest {k : Ky} {n : Nat} (p : Nat → Int) (h : rightB k = true) (hn : 3 < lev k + n) : derE k n p = 15 := by unfold derE; rw [if_pos h, if_pos hn]
theorem derE_zero {k : Ky} {n : Nat} {p : Nat → Int} (h : rightB k = true) (hn : lev k + n ≤ 3) (hz : ∃ i, i < n ∧ p i = 0) : derE k n p = 2 := by
  unfold derE
  rw [if_pos h, if_neg (by omega), if_neg]
  rintro ⟨h1, h2⟩
  exact der_zero (rightB_yes h) hn hz (rightB_yes h1) h2
theorem derE_fine {k : Ky} {n : Nat} {p : Nat → Int} (h : rightB k = true) (hn : lev k + n ≤ 3) (hz : ∀ i, i < n → p i ≠ 0) : derE k n p = if rightB (derR k n p) = true then 0 else 2 := by
  unfold derE
  rw [if_pos h, if_neg (by omega)]
  by_cases h1 : rightB (derR k n p) = true
  · rw [if_pos ⟨h1, der_fine (rightB_yes h) hn hz (rightB_yes h1)⟩, if_pos h1]
  · rw [if_neg (fun h => h1 h.1), if_neg h1]
theorem derK_fine {k : Ky} {n : Nat} {p : Nat → Int} (h : rightB k = true) (hn : lev k + n ≤ 3) (hz : ∀ i, i < n → p i ≠ 0) : derK k n p = if rightB (derR k n p) = true then derR k n p else kz := by
  unfold derK
  rw [derE_fine h hn hz]
  by_cases h1 : rightB (derR k n p) = true
  · rw [if_pos h1, if_pos h1, if_pos rfl]
  · rw [if_neg h1, if_neg h1, if_neg (by decide)]
theorem derK_bad {k : Ky} {n : Nat} {p : Nat → Int} {e : Int} (h : derE k n p = e) (he : e ≠ 0) : derK k n p = kz := by unfold derK; rw [h, if_neg he]
def splice3 (cur : List Value) (off : Nat) (xs : List Value) : List Value := cur.take off ++ xs ++ cur.drop (off + xs.length)
theorem Try.sizes3 : (Try.prog.info? 3).map (·.size) = some 1 := by kernel_rfl
/-- copy into a block that is known whole -/
theorem wpList_copy_has {w : World} {ops : Array Oper} {rest : List Oper} {o : Oper} {a : Act} {Q : Exit → Act → World → Prop} (hgd : o.guard = none) (d s : Operand)
    (ho : o.op = .call { callee := .builtin .copy, args := #[d, s], argTypes := #[24, 24] }) (g off m c : Nat) (hd : a.eval d = .slice (some ⟨g, off, none⟩) m c)
    (A : Option Addr) (n cs : Nat) (hs : a.eval s = .slice A n cs) (t : TypeId) (cur : List Value) (hg : Has w g t cur.toArray)
    (F : Nat → Prop) (f : Nat → Value) (hA : Arr w F A n f) (h1 : ∀ i, i < n → (f i).oneCell' = true) (hfit : off + m ≤ cur.length)
    (h : ∀ w', Has w' g t (splice3 cur off ((List.range (Nat.min n m)).map f)).toArray → Chg (· = g) w w' → wpList Try.prog ops Q rest (a.put o.dst (goInt (Nat.min n m))) w') :
    wpList Try.prog ops Q (o :: rest) a w := by
  have hle : Nat.min n m ≤ n := Nat.min_le_left n m
  have hle2 : Nat.min n m ≤ m := Nat.min_le_right n m
  by_cases h0 : Nat.min n m = 0
  · refine wpList_copy_nothing hgd d s 24 24 ho 3 Try.underlying24 Try.sizes3 _ _ _ _ _ _ hd hs h0 ?_
    rw [h0] at h
    exact h w (by simpa [splice3] using hg) (Chg.refl _ _)
  · obtain ⟨ad, rfl, _, _⟩ := hA 0 (by omega)
    have hl : ((List.range (Nat.min n m)).map f).length = Nat.min n m := by simp
    refine wpList_copy_own hgd d s 24 24 ho 3 Try.underlying24 Try.sizes3 g off m c ad n cs hd hs cur.toArray t hg ((List.range (Nat.min n m)).map f) hl ?_ (by rw [hl, List.size_toArray]; omega) ?_ ?_
    · intro j v hv
      obtain ⟨hj, rfl⟩ := map_range_get hv
      obtain ⟨ad', ha, _, hc⟩ := hA j (by omega)
      cases ha
      exact hc
    · intro v hv
      simp only [List.mem_map, List.mem_range] at hv
      obtain ⟨j, hj, rfl⟩ := hv
      exact h1 j (by omega)
    · rw [hl]
      refine h _ (by have := setRow_heap w g cur.toArray (splice3 cur off ((List.range (Nat.min n m)).map f)).toArray t (0, 0) hg; simpa [Has, splice3] using this) ⟨rfl, rfl, rfl, by simp [World.setRow], fun k _ hk => setRow_other w g k _ hk⟩
end Go.Proofs.Ytkegafkmcdkphaa
