import Derived.Test.YtkhlalcghdfamaaTreeMem
namespace Go.Proofs.Ytkhlalcghdfamaa
open Go.RowKit
def Rel41 (cs cs' : Array Value) : Prop := ∀ i, (cs'[i * 3 + 1]? = cs[i * 3 + 1]? ∧ cs'[i * 3 + 2]? = cs[i * 3 + 2]?) ∧ ∀ u, cs[i * 3]? = some (.int .i64 u) → ∃ u', cs'[i * 3]? = some (.int .i64 u')
def Rel5 (cs cs' : Array Value) : Prop := ∀ (j x : Nat), cs[j]? = some (bV x) → x < 256 → ∃ x' : Nat, x' < 256 ∧ cs'[j]? = some (bV x')
/-- tags and bytes in blocks of F may have turned; nothing else -/
structure Spo (F : Nat → Prop) (w w' : World) : Prop where
  chg : Chg F w w'
  e41 : ∀ g cs, Has w g 41 cs → ∃ cs', Has w' g 41 cs' ∧ Rel41 cs cs'
  e5 : ∀ g cs, Has w g 5 cs → ∃ cs', Has w' g 5 cs' ∧ Rel5 cs cs'
theorem Rel41.refl (cs : Array Value) : Rel41 cs cs := fun _ => ⟨⟨rfl, rfl⟩, fun u h => ⟨u, h⟩⟩
theorem Rel5.refl (cs : Array Value) : Rel5 cs cs := fun _ x h hx => ⟨x, hx, h⟩
theorem Spo.refl (F : Nat → Prop) (w : World) : Spo F w w := ⟨Chg.refl _ _, fun _ cs h => ⟨cs, h, Rel41.refl cs⟩, fun _ cs h => ⟨cs, h, Rel5.refl cs⟩⟩
theorem Spo.trans {F : Nat → Prop} {w w1 w2 : World} (h : Spo F w w1) (k : Spo F w1 w2) : Spo F w w2 := by
  refine ⟨h.chg.trans k.chg (fun _ _ h => h), fun g cs hg => ?_, fun g cs hg => ?_⟩
  · obtain ⟨cs1, h1, r1⟩ := h.e41 g cs hg
    obtain ⟨cs2, h2, r2⟩ := k.e41 g cs1 h1
    refine ⟨cs2, h2, fun i => ⟨⟨(r2 i).1.1.trans (r1 i).1.1, (r2 i).1.2.trans (r1 i).1.2⟩, fun u hu => ?_⟩⟩
    obtain ⟨u1, hu1⟩ := (r1 i).2 u hu
    exact (r2 i).2 u1 hu1
  · obtain ⟨cs1, h1, r1⟩ := h.e5 g cs hg
    obtain ⟨cs2, h2, r2⟩ := k.e5 g cs1 h1
    refine ⟨cs2, h2, fun j x hx hx2 => ?_⟩
    obtain ⟨x1, hl1, hx1⟩ := r1 j x hx hx2
    exact r2 j x1 hx1 hl1
theorem Spo.drew {F : Nat → Prop} {w w' : World} (h : Spo F w w') : Spo F w w'.drew := ⟨h.chg.drew, fun g cs hg => h.e41 g cs hg, fun g cs hg => h.e5 g cs hg⟩
theorem Spo.drewN {F : Nat → Prop} {w w' : World} (h : Spo F w w') (n : Nat) : Spo F w (w'.drewN n) := ⟨h.chg.drewN n, fun g cs hg => h.e41 g cs hg, fun g cs hg => h.e5 g cs hg⟩
theorem has_same {w : World} {g : Nat} {t : TypeId} {cs cs' : Array Value} (h : Has w g t cs) (h' : Has w g t cs') : cs = cs' := by
  unfold Has at h h'
  rw [h] at h'
  simp only [Option.some.injEq, Obj.cells.injEq] at h'
  exact h'.1
theorem Spo.byte {F : Nat → Prop} {w : World} {g j x : Nat} {cs : Array Value} (hg : Has w g 5 cs) (hF : F g) (hx : x < 256) : Spo F w (w.setCell ⟨g, j, none⟩ (bV x)) := by
  refine ⟨(Chg.refl _ _).setCell (fun _ => hF) _, fun g' cs' h' => ?_, fun g' cs' h' => ?_⟩
  · refine ⟨cs', h'.far ?_ _, Rel41.refl _⟩
    exact Has.apart h' hg (by decide)
  · by_cases he : g' = g
    · subst he
      obtain rfl := has_same hg h'
      refine ⟨_, hg.set j (bV x), fun i y hy hy2 => ?_⟩
      by_cases hij : i = j
      · subst hij
        have hlt : i < cs.size := by
          rcases Nat.lt_or_ge i cs.size with h | h
          · exact h
          · rw [Array.getElem?_eq_none h] at hy; cases hy
        exact ⟨x, hx, by simp [hlt]⟩
      · exact ⟨y, hy2, by rw [Array.getElem?_setIfInBounds_ne (Ne.symm hij)]; exact hy⟩
    · exact ⟨cs', h'.far he _, Rel5.refl _⟩
theorem Spo.tag {F : Nat → Prop} {w : World} {g k : Nat} {u : Int} {cs : Array Value} (hg : Has w g 41 cs) (hF : F g) : Spo F w (w.setCell ⟨g, k * 3, none⟩ (.int .i64 u)) := by
  refine ⟨(Chg.refl _ _).setCell (fun _ => hF) _, fun g' cs' h' => ?_, fun g' cs' h' => ?_⟩
  · by_cases he : g' = g
    · subst he
      obtain rfl := has_same hg h'
      refine ⟨_, hg.set (k * 3) (.int .i64 u), fun i => ⟨⟨Array.getElem?_setIfInBounds_ne (by omega), Array.getElem?_setIfInBounds_ne (by omega)⟩, fun v hv => ?_⟩⟩
      by_cases hik : i = k
      · subst hik
        have hlt : i * 3 < cs.size := by
          rcases Nat.lt_or_ge (i * 3) cs.size with h | h
          · exact h
          · rw [Array.getElem?_eq_none h] at hv; cases hv
        exact ⟨u, by simp [hlt]⟩
      · exact ⟨v, by rw [Array.getElem?_setIfInBounds_ne (by omega)]; exact hv⟩
    · exact ⟨cs', h'.far he _, Rel41.refl _⟩
  · refine ⟨cs', h'.far ?_ _, Rel5.refl _⟩
    exact Has.apart h' hg (by decide)
/-- bytes that may be written over -/
def ShB (w : World) (F : Nat → Prop) (v : Value) (n : Nat) : Prop := ∃ A c, v = .slice A n c ∧ (0 < n → ∃ g cs, A = some ⟨g, 0, none⟩ ∧ F g ∧ Has w g 5 cs ∧ ∀ j, j < n → ∃ x : Nat, x < 256 ∧ cs[j]? = some (bV x))
/-- elements that may be written over -/
def ShL (w : World) (F : Nat → Prop) : Array Value → Nat → Tr → Prop
  | _, _, .nil => True
  | cs, i, .cons _ bs sub rest => (∃ u vb B c, cs[i * 3]? = some (.int .i64 u) ∧ cs[i * 3 + 1]? = some vb ∧ cs[i * 3 + 2]? = some (.slice B sub.len c) ∧ ShB w F vb bs.length ∧ bs.length ≤ 140737488355328 ∧ sub.len * 56 ≤ 140737488351232 ∧
      (0 < sub.len → ∃ g cs', B = some ⟨g, 0, none⟩ ∧ F g ∧ Has w g 41 cs' ∧ ShL w F cs' 0 sub)) ∧ ShL w F cs (i + 1) rest
theorem ShB.spo {w w' : World} {F : Nat → Prop} {v : Value} {n : Nat} (h : ShB w F v n) (s : Spo F w w') : ShB w' F v n := by
  obtain ⟨A, c, he, hh⟩ := h
  refine ⟨A, c, he, fun hn => ?_⟩
  obtain ⟨g, cs, hA, hF, hg, hj⟩ := hh hn
  obtain ⟨cs', hg', hr⟩ := s.e5 g cs hg
  refine ⟨g, cs', hA, hF, hg', fun j hj' => ?_⟩
  obtain ⟨x, hx, hc⟩ := hj j hj'
  exact hr j x hc hx
theorem ShL.spo {w w' : World} {F : Nat → Prop} (s : Spo F w w') {T : Tr} : ∀ {cs cs' : Array Value} {i : Nat}, Rel41 cs cs' → ShL w F cs i T → ShL w' F cs' i T := by
  induction T with
  | nil => intros; trivial
  | cons t bs sub rest ih1 ih2 =>
    rintro cs cs' i hr ⟨⟨u, vb, B, c, h0, h1, h2, hb, hbl, hsl, hs⟩, h⟩
    obtain ⟨u', hu'⟩ := (hr i).2 u h0
    refine ⟨⟨u', vb, B, c, hu', (hr i).1.1.trans h1, (hr i).1.2.trans h2, hb.spo s, hbl, hsl, fun hn => ?_⟩, ih2 hr h⟩
    obtain ⟨g, cs1, hB, hF, hg, hL⟩ := hs hn
    obtain ⟨cs2, hg2, hr2⟩ := s.e41 g cs1 hg
    exact ⟨g, cs2, hB, hF, hg2, ih1 hr2 hL⟩
theorem row_cells {w : World} {base e size n c : Nat} {A : Option Addr} {xs : List Value} (h : w.ownsRow base e size (.slice A n c) n xs) (hn : 0 < n) : ∃ (g : Nat) (cs : Array Value), A = some ⟨g, 0, none⟩ ∧ Has w g e cs ∧ ∀ (i : Nat) (u : Value), xs[i]? = some u → cs[i]? = some u := by
  rcases h.2 with ⟨hv, h0⟩ | ⟨g, cap, cur, hv, _, hg, _, _, _, ht⟩
  · omega
  · simp only [Value.slice.injEq] at hv
    obtain ⟨rfl, _, rfl⟩ := hv
    refine ⟨g, cur, rfl, hg, fun i u hu => ?_⟩
    rw [← ht, List.getElem?_take] at hu
    split at hu
    · rw [← Array.getElem?_toList]; exact hu
    · cases hu
theorem OwnT.shape {w : World} {F : Nat → Prop} {T : Tr} : ∀ {xs pre : List Value} {cs : Array Value} {i : Nat}, OwnT w F xs T → pre.length = i * 3 → (∀ (j : Nat) (u : Value), (pre ++ xs)[j]? = some u → cs[j]? = some u) → ShL w F cs i T := by
  induction T with
  | nil => intros; trivial
  | cons t bs sub rest ih1 ih2 =>
    rintro xs pre cs i ⟨vb, vs, ys, rfl, hb, h256, hbl, hl, hr, ⟨zs, hz, ht⟩, h⟩ hp hcs
    obtain ⟨B, cb, rfl, _⟩ := own_form hz.1
    obtain ⟨Ab, cc, rfl, _⟩ := own_form hb.1
    refine ⟨⟨t, _, B, cb, hcs _ _ ?_, hcs _ _ ?_, hcs _ _ ?_, ⟨Ab, cc, rfl, fun hn => ?_⟩, hbl, hl, fun hn => ?_⟩, ?_⟩
    · rw [List.getElem?_append_right (by omega), hp]; simp
    · rw [List.getElem?_append_right (by omega), hp]; simp
    · rw [List.getElem?_append_right (by omega), hp]; simp
    · obtain ⟨g, cs1, rfl, hg, hc1⟩ := row_cells hb.1 hn
      refine ⟨g, cs1, rfl, hb.2 g rfl, hg, fun j hj => ?_⟩
      refine ⟨bs[j], h256 _ (List.getElem_mem hj), hc1 j _ ?_⟩
      rw [List.getElem?_map, List.getElem?_eq_getElem hj]; rfl
    · obtain ⟨g, cs1, rfl, hg, hc1⟩ := row_cells hz.1 hn
      exact ⟨g, cs1, rfl, hz.2 g rfl, hg, ih1 (pre := []) ht rfl (by simpa using hc1)⟩
    · exact ih2 (pre := pre ++ [.int .i64 t, .slice Ab bs.length cc, .slice B sub.len cb]) h (by simp [hp]; omega) (by simpa using hcs)
/-- a slice of elements that may be written over -/
def ShV (w : World) (F : Nat → Prop) (B : Option Addr) (T : Tr) : Prop := 0 < T.len → ∃ g cs, B = some ⟨g, 0, none⟩ ∧ F g ∧ Has w g 41 cs ∧ ShL w F cs 0 T
theorem OwnE.shape {w : World} {F : Nat → Prop} {A : Option Addr} {n c : Nat} {T : Tr} (h : OwnE w F (.slice A n c) T) (hn : T.len = n) : ShV w F A T := by
  subst hn
  obtain ⟨xs, h1, h2⟩ := h
  intro hn
  obtain ⟨g, cs, rfl, hg, hc⟩ := row_cells h1.1 hn
  exact ⟨g, cs, rfl, h1.2 g rfl, hg, OwnT.shape (pre := []) h2 rfl (by simpa using hc)⟩
theorem xor_byte (x : Nat) : ∃ x' : Nat, x' < 256 ∧ bits .xor .u8 (x : Int) (255 : Int) = (x' : Int) := by
  refine ⟨(bits .xor .u8 (x : Int) (255 : Int)).toNat, ?_, ?_⟩ <;>
  · have h : bits .xor .u8 (x : Int) (255 : Int) = IntKind.u8.wrap ((BitVec.ofInt 8 (x : Int) ^^^ BitVec.ofInt 8 (255 : Int)).toNat : Int) := rfl
    rw [IntKind.wrap_u8] at h
    omega
end Go.Proofs.Ytkhlalcghdfamaa
