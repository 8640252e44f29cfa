/-
  What an oracle keeps: keys and bytes, numbered in the order of their coming, in a map and in a row.
-/
import Derived.Test.YtoifcaogcphfhaaOpenB
import Derived.Test.YtoifcaogcphfhaaRowW
import Derived.Maps.Own
namespace Go.Proofs.Ytoifcaogcphfhaa
open Go.ChangeShapes Go.WideShapes Go.ChangeAt Go.RowKit Go.Maps
/-- a key and bytes -/
structure Sl where
  o : Int
  t : Int
  c : Int
  v : Int
  s : ByteArray
deriving DecidableEq
def slC (x : Sl) : List Value := [.int .i64 x.o, .int .i64 x.t, .int .i64 x.c, .int .i64 x.v, .string x.s]
def slV (x : Sl) : Value := .agg #[.int .i64 x.o, .int .i64 x.t, .int .i64 x.c, .int .i64 x.v, .string x.s]
theorem slV_inj {x y : Sl} (h : slV x = slV y) : x = y := by
  cases x; cases y
  simp [slV] at h
  simp [h]
/-- its numbers are numbers of the machine -/
structure SlOk (x : Sl) : Prop where
  o : (Lit.int .i64 x.o).wf = true
  t : (Lit.int .i64 x.t).wf = true
  c : (Lit.int .i64 x.c).wf = true
  v : (Lit.int .i64 x.v).wf = true
  s : x.s.size ≤ maxLen
theorem law53 : Keyed Try.prog 53 := Keyed.of_law (deep_law_laid Try.laidOut (m := 5) (by decide) (of_decide_eq_true (by kernel_rfl)) (by kernel_rfl) (by kernel_rfl))
theorem kt53 : Try.prog.keyType 53 = true := by kernel_rfl
theorem Try.cells53 : Try.prog.cellsOf 53 = 5 := by kernel_rfl
theorem Try.cells32 : Try.prog.cellsOf 32 = 4 := by kernel_rfl
theorem Try.cells9 : Try.prog.cellsOf 9 = 1 := by kernel_rfl
theorem keyLits3 (d : Nat) (a : Int) (h : (Lit.int .i64 a).wf = true) : Try.prog.keyLits (d + 1) 3 [.int .i64 a] = some [.int .i64 a] := by
  simp only [Program.keyLits, Try.underlying3, h, and_self, if_true]
theorem keyLits9 (d : Nat) (s : ByteArray) (h : s.size ≤ maxLen) : Try.prog.keyLits (d + 1) 9 [.string s] = some [.string s.data.toList] := by
  simp only [Program.keyLits, Try.underlying9, if_pos h]
theorem keyLits32 (d : Nat) (a b c e : Int) (ha : (Lit.int .i64 a).wf = true) (hb : (Lit.int .i64 b).wf = true) (hc : (Lit.int .i64 c).wf = true) (he : (Lit.int .i64 e).wf = true) : Try.prog.keyLits (d + 2) 32 [.int .i64 a, .int .i64 b, .int .i64 c, .int .i64 e] = some [.int .i64 a, .int .i64 b, .int .i64 c, .int .i64 e] := by
  unfold Program.keyLits
  rw [Try.underlying32]
  simp [Try.cells32, Try.cells3, keyLits3 d _ ha, keyLits3 d _ hb, keyLits3 d _ hc, keyLits3 d _ he]
theorem slKey (x : Sl) (h : SlOk x) : ∃ l, keyOf Try.prog 53 (slV x) = some l := by
  have h1 : ∀ d, Try.prog.keyLits (d + 3) 53 (slC x) = some [.int .i64 x.o, .int .i64 x.t, .int .i64 x.c, .int .i64 x.v, .string x.s.data.toList] := by
    intro d
    unfold Program.keyLits
    rw [Try.underlying53]
    simp [Try.cells53, Try.cells32, Try.cells9, slC, keyLits32 d _ _ _ _ h.o h.t h.c h.v, keyLits9 _ _ h.s]
  have h2 : (slV x).formed Try.prog 53 = true := by simp [slV, Value.formed, Try.underlying53, Try.cells53]
  have h3 : (slV x).cells.toList = slC x := rfl
  obtain ⟨d, hd⟩ : ∃ d, Try.prog.types.size + 1 = d + 3 := ⟨74, by kernel_rfl⟩
  unfold keyOf
  rw [Try.underlying53]
  simp only [kt53, h2, Bool.and_self, if_true, h3, hd, h1 d, Option.map_some]
  exact ⟨_, rfl⟩
/-- the number (from 1) of what was first given out so; 0: none -/
def atN (L : List Sl) (x : Sl) : Nat := if x ∈ L then L.idxOf x + 1 else 0
/-- block b is a map from what is listed to its number -/
def Mp (w : World) (b : Nat) (L : List Sl) : Prop := ∃ (es : Array MapEntry) (clock : Nat), w.heap[b]? = some (.map es clock) ∧ es.toList.map (·.key) = L.map slV ∧ ∀ (j : Nat) (e : MapEntry), es.toList[j]? = some e → e.val = .int .i64 ((j + 1 : Nat) : Int)
theorem Mp.lt {w : World} {b : Nat} {L : List Sl} (h : Mp w b L) : b < w.heap.size := by
  obtain ⟨es, clock, hb, _⟩ := h
  exact (Array.getElem?_eq_some_iff.1 hb).1
theorem Mp.chg {w w' : World} {S : Nat → Prop} {b : Nat} {L : List Sl} (h : Mp w b L) (c : Chg S w w') (hS : ¬ S b) : Mp w' b L := by
  have hl := h.lt
  obtain ⟨es, clock, hb, h1, h2⟩ := h
  exact ⟨es, clock, (c.block b hl hS).trans hb, h1, h2⟩
theorem Try.zero30 (w : World) : (zeroValue 30).run Try.prog w = .ok (.int .i64 0) w := by kernel_rfl
/-- 't, ok := m[x]' -/
theorem Mp.look {w : World} {b : Nat} {L : List Sl} (h : Mp w b L) (hL : ∀ y ∈ L, SlOk y) (hd : L.Nodup) (x : Sl) (hx : SlOk x) :
    (Instr.lookup 25 (.map (some b)) (slV x) true).run Try.prog w = .ok (.tuple #[.int .i64 (atN L x : Nat), .bool (decide (x ∈ L))]) w := by
  obtain ⟨es, clock, hb, h1, h2⟩ := h
  obtain ⟨l, hl⟩ := slKey x hx
  have hk : ∀ e ∈ es.toList, ∃ l, keyOf Try.prog 53 e.key = some l := by
    intro e he
    have : e.key ∈ es.toList.map (·.key) := List.mem_map.2 ⟨e, he, rfl⟩
    rw [h1] at this
    obtain ⟨y, hy, e1⟩ := List.mem_map.1 this
    rw [← e1]
    exact slKey y (hL y hy)
  have hget : ∀ (j : Nat) (e : MapEntry), es.toList[j]? = some e → ∃ y, L[j]? = some y ∧ e.key = slV y := by
    intro j e he
    have e1 : (es.toList.map (·.key))[j]? = some e.key := by rw [List.getElem?_map, he]; rfl
    rw [h1, List.getElem?_map] at e1
    obtain ⟨y, hy, e2⟩ := Option.map_eq_some_iff.1 e1
    exact ⟨y, hy, e2.symm⟩
  rcases law53.find w hl es.toList hk with ⟨f1, f2⟩ | ⟨j, e0, f1, f2, f3⟩
  · have hn : x ∉ L := by
      intro hm
      have : slV x ∈ es.toList.map (·.key) := by rw [h1]; exact List.mem_map.2 ⟨x, hm, rfl⟩
      obtain ⟨e, he, e1⟩ := List.mem_map.1 this
      exact f2 e he e1
    have ha : atN L x = 0 := by rw [atN, if_neg hn]
    rw [ha]
    simp [Instr.lookup, run_underlying Try.underlying25, MapKept.run_getObj_map hb, law53.check w _ hl, f1, Try.zero30 w, Result.andThen, hn]
  · obtain ⟨y, hy, e2⟩ := hget j e0 f2
    obtain rfl : y = x := slV_inj (e2.symm.trans f3)
    have hm : y ∈ L := List.mem_of_getElem? hy
    obtain ⟨hjl, hy2⟩ := List.getElem?_eq_some_iff.1 hy
    have ha : atN L y = j + 1 := by
      rw [atN, if_pos hm, ← hy2, hd.idxOf_getElem j hjl]
    rw [ha]
    simp [Instr.lookup, run_underlying Try.underlying25, MapKept.run_getObj_map hb, law53.check w _ hl, f1, Result.andThen, hm, h2 j e0 f2]
/-- 'm[x] = n' of one that is not there -/
theorem Mp.store {w : World} {b : Nat} {L : List Sl} (h : Mp w b L) (hL : ∀ y ∈ L, SlOk y) (x : Sl) (hx : SlOk x) (hn : x ∉ L) :
    ∃ w', (Instr.mapUpdate 25 (.map (some b)) (slV x) (.int .i64 ((L.length + 1 : Nat) : Int))).run Try.prog w = .ok () w' ∧ Mp w' b (L ++ [x]) ∧ Chg (· = b) w w' := by
  obtain ⟨es, clock, hb, h1, h2⟩ := h
  obtain ⟨l, hl⟩ := slKey x hx
  have hlen : es.toList.length = L.length := by have := congrArg List.length h1; simpa using this
  have hk : ∀ e ∈ es.toList, ∃ l, keyOf Try.prog 53 e.key = some l := by
    intro e he
    have : e.key ∈ es.toList.map (·.key) := List.mem_map.2 ⟨e, he, rfl⟩
    rw [h1] at this
    obtain ⟨y, hy, e1⟩ := List.mem_map.1 this
    rw [← e1]
    exact slKey y (hL y hy)
  rcases law53.find w hl es.toList hk with ⟨f1, f2⟩ | ⟨j, e0, f1, f2, f3⟩
  · refine ⟨ChangeMaps.setBlock w b (.map (es.push ⟨slV x, .int .i64 ((L.length + 1 : Nat) : Int), clock⟩) (clock + 1)), ?_, ⟨_, _, ChangeMaps.heap_setBlock_same hb _, ?_, ?_⟩, ?_⟩
    · simp [Instr.mapUpdate, run_underlying Try.underlying25, MapKept.run_getObj_map hb, law53.check w false hl, f1, MapKept.run_setObj_map _ hb, Result.andThen, ChangeMaps.setBlock]
    · simp [h1]
    · intro j e he
      rw [Array.toList_push] at he
      rcases Nat.lt_trichotomy j es.toList.length with hj | hj | hj
      · rw [List.getElem?_append_left hj] at he
        exact h2 j e he
      · subst hj
        rw [List.getElem?_append_right (Nat.le_refl _), Nat.sub_self] at he
        simp only [List.getElem?_cons_zero, Option.some.injEq] at he
        rw [← he, hlen]
      · rw [List.getElem?_eq_none (by simp at hj ⊢; omega)] at he
        cases he
    · exact ⟨rfl, rfl, rfl, by simp [ChangeMaps.setBlock], fun i _ hi => ChangeMaps.heap_setBlock_other hb _ hi⟩
  · exact absurd (List.mem_map.2 ⟨e0, List.mem_of_getElem? f2, f3⟩ : slV x ∈ es.toList.map (·.key)) (by
      rw [h1]
      intro hm
      obtain ⟨y, hy, e1⟩ := List.mem_map.1 hm
      exact hn (slV_inj e1 ▸ hy))
end Go.Proofs.Ytoifcaogcphfhaa
