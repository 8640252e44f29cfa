/-
  What an oracle keeps: keys and bytes, numbered in the order of their coming, in a map and in a row.
-/
import Derived.Test.YtkcokcanakljnaaTreeMem
import Derived.Test.YtkcokcanakljnaaRowW
import Derived.Maps.Own
import Derived.Lib.MakeNoZero
import Derived.Laws.Externs
namespace Go.Proofs.Ytkcokcanakljnaa
open Go.ChangeShapes Go.WideShapes Go.ChangeAt Go.RowKit Go.Maps
/-- a key and bytes -/
structure Sl where
  o : Int
  t : Int
  c : Int
  v : Int
  s : ByteArray
deriving DecidableEq
def slC (x : Sl) : List Value := [.int .i64 x.o, .int .i64 x.t, .int .i64 x.c, .int .i64 x.v, .string x.s]
def slV (x : Sl) : Value := .agg #[.int .i64 x.o, .int .i64 x.t, .int .i64 x.c, .int .i64 x.v, .string x.s]
theorem slV_inj {x y : Sl} (h : slV x = slV y) : x = y := by
  cases x; cases y
  simp [slV] at h
  simp [h]
/-- its numbers are numbers of the machine -/
structure SlOk (x : Sl) : Prop where
  o : (Lit.int .i64 x.o).wf = true
  t : (Lit.int .i64 x.t).wf = true
  c : (Lit.int .i64 x.c).wf = true
  v : (Lit.int .i64 x.v).wf = true
  s : x.s.size ≤ maxLen
theorem law158 : Keyed Try.prog 158 := Keyed.of_law (deep_law_laid Try.laidOut (m := 5) (by decide) (of_decide_eq_true (by kernel_rfl)) (by kernel_rfl) (by kernel_rfl))
theorem kt158 : Try.prog.keyType 158 = true := by kernel_rfl
theorem Try.cells158 : Try.prog.cellsOf 158 = 5 := by kernel_rfl
theorem Try.cells123 : Try.prog.cellsOf 123 = 4 := by kernel_rfl
theorem Try.cells9 : Try.prog.cellsOf 9 = 1 := by kernel_rfl
theorem keyLits3 (d : Nat) (a : Int) (h : (Lit.int .i64 a).wf = true) : Try.prog.keyLits (d + 1) 3 [.int .i64 a] = some [.int .i64 a] := by
  simp only [Program.keyLits, Try.underlying3, h, and_self, if_true]
theorem keyLits9 (d : Nat) (s : ByteArray) (h : s.size ≤ maxLen) : Try.prog.keyLits (d + 1) 9 [.string s] = some [.string s.data.toList] := by
  simp only [Program.keyLits, Try.underlying9, if_pos h]
theorem keyLits123 (d : Nat) (a b c e : Int) (ha : (Lit.int .i64 a).wf = true) (hb : (Lit.int .i64 b).wf = true) (hc : (Lit.int .i64 c).wf = true) (he : (Lit.int .i64 e).wf = true) : Try.prog.keyLits (d + 2) 123 [.int .i64 a, .int .i64 b, .int .i64 c, .int .i64 e] = some [.int .i64 a, .int .i64 b, .int .i64 c, .int .i64 e] := by
  unfold Program.keyLits
  rw [Try.underlying123]
  simp [Try.cells123, Try.cells3, keyLits3 d _ ha, keyLits3 d _ hb, keyLits3 d _ hc, keyLits3 d _ he]
theorem slKey (x : Sl) (h : SlOk x) : ∃ l, keyOf Try.prog 158 (slV x) = some l := by
  have h1 : ∀ d, Try.prog.keyLits (d + 3) 158 (slC x) = some [.int .i64 x.o, .int .i64 x.t, .int .i64 x.c, .int .i64 x.v, .string x.s.data.toList] := by
    intro d
    unfold Program.keyLits
    rw [Try.underlying158]
    simp [Try.cells158, Try.cells123, Try.cells9, slC, keyLits123 d _ _ _ _ h.o h.t h.c h.v, keyLits9 _ _ h.s]
  have h2 : (slV x).formed Try.prog 158 = true := by simp [slV, Value.formed, Try.underlying158, Try.cells158]
  have h3 : (slV x).cells.toList = slC x := rfl
  obtain ⟨d, hd⟩ : ∃ d, Try.prog.types.size + 1 = d + 3 := ⟨195, by kernel_rfl⟩
  unfold keyOf
  rw [Try.underlying158]
  simp only [kt158, h2, Bool.and_self, if_true, h3, hd, h1 d, Option.map_some]
  exact ⟨_, rfl⟩
/-- the number (from 1) of what was first given out so; 0: none -/
def atN (L : List Sl) (x : Sl) : Nat := if x ∈ L then L.idxOf x + 1 else 0
/-- block b is a map from what is listed to its number -/
def Mp (w : World) (b : Nat) (L : List Sl) : Prop := ∃ (es : Array MapEntry) (clock : Nat), w.heap[b]? = some (.map es clock) ∧ es.toList.map (·.key) = L.map slV ∧ ∀ (j : Nat) (e : MapEntry), es.toList[j]? = some e → e.val = .int .i64 ((j + 1 : Nat) : Int)
theorem Mp.lt {w : World} {b : Nat} {L : List Sl} (h : Mp w b L) : b < w.heap.size := by
  obtain ⟨es, clock, hb, _⟩ := h
  exact (Array.getElem?_eq_some_iff.1 hb).1
theorem Mp.chg {w w' : World} {S : Nat → Prop} {b : Nat} {L : List Sl} (h : Mp w b L) (c : Chg S w w') (hS : ¬ S b) : Mp w' b L := by
  have hl := h.lt
  obtain ⟨es, clock, hb, h1, h2⟩ := h
  exact ⟨es, clock, (c.block b hl hS).trans hb, h1, h2⟩
theorem Try.zero25 (w : World) : (zeroValue 25).run Try.prog w = .ok (.int .i64 0) w := by kernel_rfl
/-- 't, ok := m[x]' -/
theorem Mp.look {w : World} {b : Nat} {L : List Sl} (h : Mp w b L) (hL : ∀ y ∈ L, SlOk y) (hd : L.Nodup) (x : Sl) (hx : SlOk x) :
    (Instr.lookup 74 (.map (some b)) (slV x) true).run Try.prog w = .ok (.tuple #[.int .i64 (atN L x : Nat), .bool (decide (x ∈ L))]) w := by
  obtain ⟨es, clock, hb, h1, h2⟩ := h
  obtain ⟨l, hl⟩ := slKey x hx
  have hk : ∀ e ∈ es.toList, ∃ l, keyOf Try.prog 158 e.key = some l := by
    intro e he
    have : e.key ∈ es.toList.map (·.key) := List.mem_map.2 ⟨e, he, rfl⟩
    rw [h1] at this
    obtain ⟨y, hy, e1⟩ := List.mem_map.1 this
    rw [← e1]
    exact slKey y (hL y hy)
  have hget : ∀ (j : Nat) (e : MapEntry), es.toList[j]? = some e → ∃ y, L[j]? = some y ∧ e.key = slV y := by
    intro j e he
    have e1 : (es.toList.map (·.key))[j]? = some e.key := by rw [List.getElem?_map, he]; rfl
    rw [h1, List.getElem?_map] at e1
    obtain ⟨y, hy, e2⟩ := Option.map_eq_some_iff.1 e1
    exact ⟨y, hy, e2.symm⟩
  rcases law158.find w hl es.toList hk with ⟨f1, f2⟩ | ⟨j, e0, f1, f2, f3⟩
  · have hn : x ∉ L := by
      intro hm
      have : slV x ∈ es.toList.map (·.key) := by rw [h1]; exact List.mem_map.2 ⟨x, hm, rfl⟩
      obtain ⟨e, he, e1⟩ := List.mem_map.1 this
      exact f2 e he e1
    have ha : atN L x = 0 := by rw [atN, if_neg hn]
    rw [ha]
    simp [Instr.lookup, run_underlying Try.underlying74, MapKept.run_getObj_map hb, law158.check w _ hl, f1, Try.zero25 w, Result.andThen, hn]
  · obtain ⟨y, hy, e2⟩ := hget j e0 f2
    obtain rfl : y = x := slV_inj (e2.symm.trans f3)
    have hm : y ∈ L := List.mem_of_getElem? hy
    obtain ⟨hjl, hy2⟩ := List.getElem?_eq_some_iff.1 hy
    have ha : atN L y = j + 1 := by
      rw [atN, if_pos hm, ← hy2, hd.idxOf_getElem j hjl]
    rw [ha]
    simp [Instr.lookup, run_underlying Try.underlying74, MapKept.run_getObj_map hb, law158.check w _ hl, f1, Result.andThen, hm, h2 j e0 f2]
/-- 'm[x] = n' of one that is not there -/
theorem Mp.store {w : World} {b : Nat} {L : List Sl} (h : Mp w b L) (hL : ∀ y ∈ L, SlOk y) (x : Sl) (hx : SlOk x) (hn : x ∉ L) :
    ∃ w', (Instr.mapUpdate 74 (.map (some b)) (slV x) (.int .i64 ((L.length + 1 : Nat) : Int))).run Try.prog w = .ok () w' ∧ Mp w' b (L ++ [x]) ∧ Chg (· = b) w w' := by
  obtain ⟨es, clock, hb, h1, h2⟩ := h
  obtain ⟨l, hl⟩ := slKey x hx
  have hlen : es.toList.length = L.length := by have := congrArg List.length h1; simpa using this
  have hk : ∀ e ∈ es.toList, ∃ l, keyOf Try.prog 158 e.key = some l := by
    intro e he
    have : e.key ∈ es.toList.map (·.key) := List.mem_map.2 ⟨e, he, rfl⟩
    rw [h1] at this
    obtain ⟨y, hy, e1⟩ := List.mem_map.1 this
    rw [← e1]
    exact slKey y (hL y hy)
  rcases law158.find w hl es.toList hk with ⟨f1, f2⟩ | ⟨j, e0, f1, f2, f3⟩
  · refine ⟨ChangeMaps.setBlock w b (.map (es.push ⟨slV x, .int .i64 ((L.length + 1 : Nat) : Int), clock⟩) (clock + 1)), ?_, ⟨_, _, ChangeMaps.heap_setBlock_same hb _, ?_, ?_⟩, ?_⟩
    · simp [Instr.mapUpdate, run_underlying Try.underlying74, MapKept.run_getObj_map hb, law158.check w false hl, f1, MapKept.run_setObj_map _ hb, Result.andThen, ChangeMaps.setBlock]
    · simp [h1]
    · intro j e he
      rw [Array.toList_push] at he
      rcases Nat.lt_trichotomy j es.toList.length with hj | hj | hj
      · rw [List.getElem?_append_left hj] at he
        exact h2 j e he
      · subst hj
        rw [List.getElem?_append_right (Nat.le_refl _), Nat.sub_self] at he
        simp only [List.getElem?_cons_zero, Option.some.injEq] at he
        rw [← he, hlen]
      · rw [List.getElem?_eq_none (by simp at hj ⊢; omega)] at he
        cases he
    · exact ⟨rfl, rfl, rfl, by simp [ChangeMaps.setBlock], fun i _ hi => ChangeMaps.heap_setBlock_other hb _ hi⟩
  · exact absurd (List.mem_map.2 ⟨e0, List.mem_of_getElem? f2, f3⟩ : slV x ∈ es.toList.map (·.key)) (by
      rw [h1]
      intro hm
      obtain ⟨y, hy, e1⟩ := List.mem_map.1 hm
      exact hn (slV_inj e1 ▸ hy))
end Go.Proofs.Ytkcokcanakljnaa
/-
  bytes.Join with nothing between: all pieces, one behind the other, in new memory.
-/
namespace Go.Proofs.Ytkcokcanakljnaa
open Go.ChangeShapes Go.WideShapes Go.ChangeAt Go.RowKit Go.Maps
theorem Try.elems27 : Try.prog.elem 27 = 5 := by kernel_rfl
theorem Try.elems53 : Try.prog.elem 53 = 27 := by kernel_rfl
theorem Try.info27 : (Try.prog.info? 27).map (fun i => (i.zero, i.size, i.bytes)) = some (some (.slice none 0 0), 1, 24) := by kernel_rfl
theorem Try.size27 (w : World) : (sizeOf 27).run Try.prog w = .ok 1 w := by
  obtain ⟨i0, hi, hz0, hz1, hz2⟩ := info_parts Try.info27
  simp [sizeOf, typeInfo, hi, hz1]
theorem add_zero_at (a : Addr) : a.add 0 = a := by unfold Addr.add; simp
/-- 'b[:t:t]' -/
theorem slice_full (a : Addr) (n c t : Nat) (h2 : t ≤ c) (w : World) : (Instr.slice 27 (.slice (some a) n c) none (some (.int .i64 (t : Int))) (some (.int .i64 (t : Int)))).run Try.prog w = .ok (.slice (some a) t t) w := by
  rw [run_slice_hm w 27 (some a) n c (by rw [Try.elems27]; exact Try.underlying27) .i64 .i64 _ _ (by omega) (by omega) (by omega), Try.elems27, Try.size5, Result.andThen_ok]
  unfold sliced
  rw [Int.toNat_natCast, Option.map_some, Nat.zero_mul, add_zero_at, Nat.sub_zero]
  split <;> rfl
/-- 'b[q:]' -/
theorem slice_rest (g t q : Nat) (h : q ≤ t) : ∃ off, off ≤ q ∧ (t - q = 0 ∨ off = q) ∧ ∀ w : World, (Instr.slice 27 (.slice (some ⟨g, 0, none⟩) t t) (some (.int .i64 (q : Int))) none none).run Try.prog w = .ok (.slice (some ⟨g, off, none⟩) (t - q) (t - q)) w := by
  by_cases h0 : t - q = 0
  · refine ⟨0, by omega, Or.inl h0, fun w => ?_⟩
    rw [run_slice_l w 27 (some ⟨g, 0, none⟩) t t (by rw [Try.elems27]; exact Try.underlying27) .i64 _ (by omega) (by omega), Try.elems27, Try.size5, Result.andThen_ok]
    unfold sliced
    rw [Int.toNat_natCast, if_pos (by omega)]
  · refine ⟨q, by omega, Or.inr rfl, fun w => ?_⟩
    rw [run_slice_l w 27 (some ⟨g, 0, none⟩) t t (by rw [Try.elems27]; exact Try.underlying27) .i64 _ (by omega) (by omega), Try.elems27, Try.size5, Result.andThen_ok]
    unfold sliced
    rw [Int.toNat_natCast, if_neg (by omega), Option.map_some, Nat.mul_one]
    have : (⟨g, 0, none⟩ : Addr).add q = ⟨g, q, none⟩ := by unfold Addr.add; split <;> simp_all
    rw [this]
/-- 's[1:]' -/
theorem slice_one (a : Addr) (n c : Nat) (h1 : 2 ≤ n) (h3 : n ≤ c) (w : World) : (Instr.slice 53 (.slice (some a) n c) (some (.int .i64 1)) none none).run Try.prog w = .ok (.slice (some (a.add 1)) (n - 1) (c - 1)) w := by
  rw [run_slice_l w 53 (some a) n c (by rw [Try.elems53]; exact Try.underlying53) .i64 _ (by omega) (by omega), Try.elems53, Try.size27, Result.andThen_ok]
  unfold sliced
  rw [show ((1 : Int).toNat) = 1 from rfl, if_neg (by omega), Option.map_some, Nat.mul_one]
theorem add_one_at (a : Addr) (i : Nat) : a.add (i + 1) = ⟨a.block, a.off + 1 + i, none⟩ := by
  unfold Addr.add
  rw [if_neg (by omega), Nat.add_comm i 1, Nat.add_assoc]
/-- internal/bytealg.MakeNoZero -/
theorem makeNoZero_any (n : Nat) (hn : n ≤ 281474976710656) (w : World) : ∃ cs : Array Value, (callFunc 106 #[.int .i64 (n : Int)]).run Try.prog w = .ok (.value (.slice (some ⟨w.heap.size, 0, none⟩) n cs.size)) (w.drew.drew.alloc (.cells cs 5)) ∧ n ≤ cs.size := by
  obtain ⟨cs, hrun, hle, _⟩ := Lib.run_makeNoZero (P := Try.prog) w #[3] 27 5 Try.underlying27 n hn
  refine ⟨cs, ?_, hle⟩
  rw [run_callFunc_extern Try.func106 (by kernel_rfl) (by kernel_rfl) (by kernel_rfl) (e := Extern.BytealgMakeNoZero.makeNoZero #[3] #[27]) (by kernel_rfl), hrun]
  rfl
/-- what is laid so far -/
def jRow (xs : List Nat) (cs : List Value) : List Value := xs.map bV ++ cs.drop xs.length
theorem jRow_len (xs : List Nat) (cs : List Value) (h : xs.length ≤ cs.length) : (jRow xs cs).length = cs.length := by
  simp [jRow]; omega
theorem jRow_more (xs ys : List Nat) (cs : List Value) (off : Nat) (ho : ys = [] ∨ off = xs.length) : splice (jRow xs cs) off (ys.map bV) = jRow (xs ++ ys) cs := by
  rcases ho with rfl | rfl
  · simp [splice]
  · unfold splice jRow
    rw [List.take_append_of_le_length (by simp), List.take_of_length_le (by simp), List.map_append, List.drop_append, List.length_map, List.length_map, List.drop_of_length_le (by simp), List.nil_append, List.drop_drop, List.length_append, List.append_assoc]
    congr 3
    omega
theorem Byts.of_row {w : World} {g t : Nat} {bs : List Nat} {cs : List Value} (h : Has w g 5 (jRow bs cs).toArray) (ht : bs.length = t) (h256 : ∀ x ∈ bs, x < 256) (hb : t ≤ 140737488355328) : Byts w (· = g) (.slice (some ⟨g, 0, none⟩) t t) bs := by
  subst ht
  refine ⟨_, _, rfl, ?_, (fun h => by cases h), h256, hb⟩
  intro i hi
  refine ⟨_, rfl, rfl, ?_⟩
  have hadd : (⟨g, 0, none⟩ : Addr).add i = ⟨g, i, none⟩ := by unfold Addr.add; split <;> simp_all
  rw [hadd, Has.cell h i]
  simp only [jRow, List.getElem?_toArray]
  rw [List.getElem?_append_left (by simpa using hi), List.getElem?_map, List.getElem?_eq_getElem hi]
  simp [List.getD_eq_getElem?_getD, List.getElem?_eq_getElem hi]
theorem flat_small {L : List (List Nat)} (h : ∀ i, i < L.length → ∀ x ∈ L.getD i [], x < 256) : ∀ x ∈ L.flatten, x < 256 := by
  intro x hx
  obtain ⟨l, hl, hxl⟩ := List.mem_flatten.1 hx
  obtain ⟨i, hi, rfl⟩ := List.getElem_of_mem hl
  exact h i hi x (by simpa [List.getD_eq_getElem?_getD, List.getElem?_eq_getElem hi] using hxl)
set_option maxRecDepth 100000 in
set_option maxHeartbeats 2000000 in
theorem Join_any (A : Option Addr) (n c : Nat) (F : Nat → Prop) (L : List (List Nat)) (w : World) (hA : Lists w F A L) (hF : ∀ k, F k → k < w.heap.size) (hn : L.length = n) (hnc : n ≤ c) (hb : n ≤ 2000000) (hT : L.flatten.length ≤ 140737488355328) :
    Calls Try.prog 100 #[.slice A n c, .slice none 0 0] w fun e w' => ∃ v, e = .returned v ∧ Byts w' (· < w'.heap.size) v L.flatten ∧ New w w' := by
  obtain ⟨i0, hi, hz0, hz1, hz2⟩ := info_parts Try.info5
  obtain ⟨vs, hV, hB⟩ := hA
  have HS : Hid (∀ x ∈ L.flatten, x < 256) := flat_small fun i hi => by
    obtain ⟨_, _, _, _, _, h, _⟩ := hB i hi
    exact h
  rw [hn] at hV hB
  have HV := Lib.hid hV; clear hV
  have HB := Lib.hid hB; clear hB
  have Hn := Lib.hid hn; clear hn
  have HF := Lib.hid hF; clear hF
  have HT := Lib.hid hT; clear hT
  go_enter Try.func100, Try.ntmps100
  by_cases h0 : n = 0
  · subst h0
    go_wp2_with fail
    go_ret
    obtain rfl : L = [] := List.length_eq_zero_iff.1 Hn.out
    refine ⟨_, rfl, ?_, (Chg.refl _ _).alloc _⟩
    exact ⟨_, _, rfl, fun i hi => by simp at hi, (fun h => by cases h), (fun x hx => by simp at hx), by simp⟩
  · by_cases h1 : n = 1
    · subst h1
      obtain ⟨a, rfl, hab, hc⟩ := HV.out 0 (by omega)
      obtain ⟨B, cb, hve, hBA, hnil, h256, hbb⟩ := HB.out 0 (by omega)
      rw [hve, add_zero_at] at hc
      obtain ⟨bs, hbs⟩ : ∃ bs, bs = L.getD 0 [] := ⟨_, rfl⟩
      rw [← hbs] at hc hBA h256 hbb hnil
      have HL : Hid (L.flatten = bs) := by
        obtain ⟨x, rfl⟩ : ∃ x, L = [x] := List.length_eq_one_iff.1 Hn.out
        rw [hbs]; simp [Hid]
      clear hbs hve
      obtain ⟨p, hp⟩ : ∃ p, p = bs.length := ⟨_, rfl⟩
      rw [← hp] at hc hBA hbb hnil
      have Hp := Lib.hid hp; clear hp
      have HNil := Lib.hid hnil; clear hnil
      have HBA := Lib.hid hBA; clear hBA
      have H256 := Lib.hid h256; clear h256
      go_wp2_with (first | (at_builtin; refine wpList_append_src rfl _ _ 27 rfl w.heap.size 5 i0 (.int .u8 0) 1 1 Try.underlying27 hi hz0 hz1 hz2 rfl (by decide) (.slice none 0 0) 0 [] rfl (World.ownsRow_nil _ _ _ _) B p cb (bs.map bV) rfl HNil.out (by rw [List.length_map, Nat.mul_one, Hp.out]) (map_news HBA.out Hp.out.symm) (bV_one bs) (by simp only [maxLen]; omega) (by omega) (Nat.le_refl _) ?_; intro A3 c3 w3 hO3 hC3 hf3; have HO3 := Lib.hid hO3; have HC3 := Lib.hid hC3; clear hO3 hC3 hf3) | go_in)
      go_ret
      refine ⟨_, rfl, ?_, HC3.out.mono (fun i _ h => by cases h)⟩
      have hO := HO3.out
      simp only [List.nil_append, Nat.zero_add] at hO
      rw [HL.out]
      exact Byts.own_any hO (Chg.refl _ _) H256.out (by omega)
    · have hge : 2 ≤ n := by omega
      have t0 : ((n : Int) == 0) = false := by simp; omega
      have t1 : ((n : Int) == 1) = false := by simp; omega
      go_wp2_with fail
      go_loopg [5, 44] n (fun gk a i wr => ∃ k : Nat, k ≤ n ∧ gk = n - k ∧ a = .int .i64 ((L.take k).flatten.length : Nat) ∧ i = .int .i64 k ∧ w = wr)
      case atStart => exact ⟨0, by omega, by omega, rfl, rfl, rfl⟩
      case round =>
        obtain ⟨k, hk, rfl, rfl, rfl, rfl⟩ := hrel
        by_cases hlt : k < n
        · obtain ⟨a, rfl, _, hc⟩ := HV.out k hlt
          obtain ⟨B, cb, hve, hBA, _, h256, hbb⟩ := HB.out k hlt
          rw [hve] at hc
          have HFl : Hid ((L.take (k + 1)).flatten.length = (L.take k).flatten.length + (L.getD k []).length) := by
            rw [Hid, flat_take L k (by rw [Hn.out]; exact hlt), List.length_append]
          have hle : (L.take (k + 1)).flatten.length ≤ 140737488355328 := Nat.le_trans (flat_len_le L (k + 1)) HT.out
          rw [HFl.out] at hle
          obtain ⟨m, hm⟩ : ∃ m, m = (L.getD k []).length := ⟨_, rfl⟩
          obtain ⟨q, hq⟩ : ∃ q, q = (L.take k).flatten.length := ⟨_, rfl⟩
          rw [← hm] at hc HFl hle
          rw [← hq] at HFl hle ⊢
          clear hm hq hbb h256 hBA hve
          go_wp2
          go_roundg (n - (k + 1))
          case measure => omega
          case rel => exact ⟨k + 1, by omega, rfl, by rw [HFl.out]; go_num, by go_num, rfl⟩
        · obtain rfl : k = n := by omega
          have hall : L.take k = L := List.take_of_length_le (by rw [Hn.out]; omega)
          rw [hall]
          clear hall
          have hT := HT.out
          obtain ⟨T, hTe⟩ : ∃ T, T = L.flatten.length := ⟨_, rfl⟩
          rw [← hTe] at hT ⊢
          have HTe := Lib.hid hTe; clear hTe
          obtain ⟨cs, hmk, hcs⟩ := makeNoZero_any T (by omega) w
          obtain ⟨a, rfl, _, hc0⟩ := HV.out 0 (by omega)
          obtain ⟨B, cb, hve, hBA, hnil, h256, hbb⟩ := HB.out 0 (by omega)
          rw [hve, add_zero_at] at hc0
          have hN1 : New w (w.drew.drew.alloc (.cells cs 5)) := (((Chg.refl _ _).drew).drew).alloc _
          have hH1 : Has (w.drew.drew.alloc (.cells cs 5)) w.heap.size 5 (jRow [] cs.toList).toArray := by
            have := Has.new w.drew.drew 5 cs
            simpa [jRow] using this
          obtain ⟨w1, hw1⟩ : ∃ w1, w1 = w.drew.drew.alloc (.cells cs 5) := ⟨_, rfl⟩
          rw [← hw1] at hmk hN1 hH1
          clear hw1
          have hfull := slice_full ⟨w.heap.size, 0, none⟩ T cs.size T hcs
          have hc1 : w1.cell? a = some (.slice B (L.getD 0 []).length cb) := (hN1.cell (HF.out _ ‹_›) (fun f => f)).trans hc0
          have HBA1 := Lib.hid (hBA.new hN1 HF.out); clear hBA
          have HFl : Hid ((L.take (0 + 1)).flatten = [] ++ L.getD 0 []) := flat_take L 0 (by rw [Hn.out]; omega)
          obtain ⟨bs, hbs⟩ : ∃ bs, bs = L.getD 0 [] := ⟨_, rfl⟩
          rw [← hbs] at hc1 HBA1 h256 hbb HFl
          clear hbs hve hc0 hnil
          have hle : bs.length ≤ T := by
            have := flat_len_le L (0 + 1)
            rw [HFl.out, ← HTe.out] at this
            simpa using this
          obtain ⟨p, hp⟩ : ∃ p, p = bs.length := ⟨_, rfl⟩
          rw [← hp] at hc1 HBA1 hbb hle
          have Hp := Lib.hid hp; clear hp
          have HN1 := Lib.hid hN1; clear hN1
          have HH1 := Lib.hid hH1; clear hH1
          have hone := slice_one a k c (by omega) hnc
          clear h256
          go_wp2_with (first | (refine wpList_copy_has rfl _ _ rfl w.heap.size 0 T T rfl B p cb rfl 5 (jRow [] cs.toList) HH1.out F (fun i => bV (bs.getD i 0)) HBA1.out (fun _ _ => rfl) (by rw [jRow_len _ _ (by simp)]; simpa using hcs) ?_; intro w2 hH2 hC2; have HH2 := Lib.hid hH2; have HC2 := Lib.hid hC2; clear hH2 hC2) | fail)
          have hmin : Nat.min p T = p := Nat.min_eq_left hle
          have HH3 : Hid (Has w2 w.heap.size 5 (jRow (L.take 1).flatten cs.toList).toArray) := by
            have := HH2.out
            rw [hmin, bs_range bs p Hp.out.symm, jRow_more [] bs cs.toList 0 (Or.inr rfl)] at this
            rw [Hid, HFl.out]
            exact this
          have HN2 : Hid (New w w2) := HN1.out.trans HC2.out (fun i hi e => by omega)
          have HPl : Hid (p = (L.take 1).flatten.length) := by rw [Hid, HFl.out, Hp.out]; rfl
          clear HH2 HC2 HH1 HN1 HBA1 Hp HFl hc1 hone hfull hmk hmin hbb
          go_loopg [9, 72] (k - 1) (fun gk a i wy => ∃ (j q : Nat), j ≤ k - 1 ∧ gk = k - 1 - j ∧ a = .int .i64 (q : Int) ∧ q = (L.take (j + 1)).flatten.length ∧ i = .int .i64 j ∧ Has wy w.heap.size 5 (jRow (L.take (j + 1)).flatten cs.toList).toArray ∧ New w wy)
          case atStart => exact ⟨0, p, by omega, by omega, rfl, HPl.out, rfl, HH3.out, HN2.out⟩
          case round =>
            obtain ⟨j, q, hj, rfl, rfl, hq, rfl, hH, hN⟩ := hrel
            clear HH3 HN2 HPl
            have Hq := Lib.hid hq; clear hq
            have HH := Lib.hid hH; clear hH
            have HN := Lib.hid hN; clear hN
            by_cases hlt : j < k - 1
            · obtain ⟨a', ha', _, hc⟩ := HV.out.new HN.out HF.out (j + 1) (by omega)
              cases ha'
              obtain ⟨B, cb, hve, hBA, hnil, h256, hbb⟩ := HB.out (j + 1) (by omega)
              rw [hve, add_one_at] at hc
              have HFl : Hid ((L.take (j + 1 + 1)).flatten = (L.take (j + 1)).flatten ++ L.getD (j + 1) []) := flat_take L (j + 1) (by rw [Hn.out]; omega)
              have HBA1 := Lib.hid (hBA.new HN.out HF.out); clear hBA
              obtain ⟨bs, hbs⟩ : ∃ bs, bs = L.getD (j + 1) [] := ⟨_, rfl⟩
              rw [← hbs] at hc HBA1 h256 hbb HFl
              clear hbs hve hnil h256
              have hle : q + bs.length ≤ T := by
                have := flat_len_le L (j + 1 + 1)
                rw [HFl.out, List.length_append, ← HTe.out, ← Hq.out] at this
                exact this
              obtain ⟨p, hp⟩ : ∃ p, p = bs.length := ⟨_, rfl⟩
              rw [← hp] at hc HBA1 hbb hle
              have Hp := Lib.hid hp; clear hp
              obtain ⟨off, ho1, ho2, hsl⟩ := slice_rest w.heap.size T q (by omega)
              have hfit : off + (T - q) ≤ (jRow (L.take (j + 1)).flatten cs.toList).length := by
                rw [jRow_len _ _ (by rw [← Hq.out, Array.length_toList]; omega), Array.length_toList]
                omega
              have hmin : Nat.min p (T - q) = p := Nat.min_eq_left (by omega)
              have tj : decide ((j : Int) < ((k - 1 : Nat) : Int)) = true := by simp; omega
              go_wp2_with (first
                | (refine wpList_copy_nothing rfl _ _ 27 27 rfl 5 Try.underlying27 Try.sizes5 _ _ _ _ _ _ rfl rfl (Nat.zero_min _) ?_)
                | (refine wpList_copy_has rfl _ _ rfl w.heap.size off (T - q) (T - q) rfl B p cb rfl 5 _ HH.out F (fun i => bV (bs.getD i 0)) HBA1.out (fun _ _ => rfl) hfit ?_; intro w2 hH2 hC2; have HH2 := Lib.hid hH2; have HC2 := Lib.hid hC2; clear hH2 hC2))
              have HH3 : Hid (Has w2 w.heap.size 5 (jRow (L.take (j + 1 + 1)).flatten cs.toList).toArray) := by
                have := HH2.out
                rw [hmin, bs_range bs p Hp.out.symm, jRow_more _ bs cs.toList off (by
                  rcases ho2 with h | h
                  · exact Or.inl (List.length_eq_zero_iff.1 (by rw [← Hp.out]; omega))
                  · exact Or.inr (by rw [h, Hq.out]))] at this
                rw [Hid, HFl.out]
                exact this
              have HN2 : Hid (New w w2) := HN.out.trans HC2.out (fun i hi e => by omega)
              go_roundg (k - 1 - (j + 1))
              case measure => omega
              case rel => exact ⟨j + 1, q + p, by omega, rfl, by go_num, by rw [HFl.out, List.length_append, Hq.out, Hp.out], by go_num, HH3.out, HN2.out⟩
            · obtain rfl : j = k - 1 := by omega
              have tj : decide (((k - 1 : Nat) : Int) < ((k - 1 : Nat) : Int)) = false := by simp
              have hall : L.take (k - 1 + 1) = L := List.take_of_length_le (by rw [Hn.out]; omega)
              have HH2 : Hid (Has wr w.heap.size 5 (jRow L.flatten cs.toList).toArray) := by
                have := HH.out
                rw [hall] at this
                exact this
              clear hall HH
              go_wp2_with fail
              go_ret
              exact ⟨_, rfl, (Byts.of_row HH2.out HTe.out.symm HS.out hT).mono (fun i hi => by rw [hi]; exact HH2.out.lt), HN.out⟩
end Go.Proofs.Ytkcokcanakljnaa
/-
  An oracle in memory; package oracle's seal, number and Len.
-/
namespace Go.Proofs.Ytkcokcanakljnaa
open Go.ChangeShapes Go.WideShapes Go.ChangeAt Go.RowKit Go.Maps
def slRow (L : List Sl) : List Value := L.flatMap slC
theorem slRow_len (L : List Sl) : (slRow L).length = L.length * 5 := by
  induction L with
  | nil => rfl
  | cons e l ih => rw [slRow, List.flatMap_cons, List.length_append]; rw [slRow] at ih; rw [ih, List.length_cons]; simp [slC]; omega
theorem slRow_push (L : List Sl) (x : Sl) : slRow (L ++ [x]) = slRow L ++ slC x := by simp [slRow]
/-- block g is an oracle that has given out these, in this order; its memory lies at and behind base -/
def Orc (w : World) (base g : Nat) (L : List Sl) : Prop := ∃ mv sv, Has w g 77 #[mv, sv] ∧ base = g ∧ w.ownsRow base 158 5 sv L.length (slRow L) ∧
  ((mv = .map none ∧ L = []) ∨ ∃ b, mv = .map (some b) ∧ base ≤ b ∧ Mp w b L) ∧ (∀ y ∈ L, SlOk y) ∧ L.Nodup
/-- the blocks of a kind that oracles are made of -/
def OS (base : Nat) (w : World) (k : Nat) : Prop := base ≤ k ∧ ((∃ es c, w.heap[k]? = some (.map es c)) ∨ (∃ cs m, w.heap[k]? = some (.cells cs 77 m) ∧ (k = base ∨ cs ≠ #[.map none, .slice none 0 0])) ∨ ∃ cs m, w.heap[k]? = some (.cells cs 158 m))
theorem OS.trans {base : Nat} {w w1 w2 : World} (h : Chg (OS base w) w w1) (k : Chg (OS base w1) w1 w2) : Chg (OS base w) w w2 := by
  refine h.trans k fun i hi hT => ?_
  by_cases hS : OS base w i
  · exact hS
  · have hb := h.block i hi hS
    obtain ⟨h1, h2⟩ := hT
    rw [hb] at h2
    exact ⟨h1, h2⟩
theorem Orc.new {w w' : World} {base g : Nat} {L : List Sl} (h : Orc w base g L) (c : New w w') : Orc w' base g L := by
  obtain ⟨mv, sv, h1, h2, h3, h4, h5, h6⟩ := h
  refine ⟨mv, sv, h1.keep c, h2, own_new h3 c, ?_, h5, h6⟩
  rcases h4 with h4 | ⟨b, e, hb, h4⟩
  · exact Or.inl h4
  · exact Or.inr ⟨b, e, hb, h4.chg c fun f => f⟩
theorem Orc.lt {w : World} {base g : Nat} {L : List Sl} (h : Orc w base g L) : g < w.heap.size := by
  obtain ⟨mv, sv, h1, _⟩ := h
  exact h1.lt
theorem Byts.string {w : World} {F : Nat → Prop} {v : Value} {bs : List Nat} (h : Byts w F v bs) : (convert 27 9 v).run Try.prog w = .ok (.string (bstr bs)) w := by
  obtain ⟨A, c, rfl, hA, hnil, h256, _⟩ := h
  exact arr_string Try.underlying27 Try.underlying5 Try.underlying9 hA rfl h256 hnil
theorem setS {w : World} {g t : Nat} {y0 y1 y2 y3 y4 : Value} (h : Has w g t #[y0, y1, y2, y3, y4]) (x0 x1 x2 x3 x4 : Value) :
    Has (((((w.setCell ⟨g, 0, none⟩ x0).setCell ⟨g, 1, none⟩ x1).setCell ⟨g, 2, none⟩ x2).setCell ⟨g, 3, none⟩ x3).setCell ⟨g, 4, none⟩ x4) g t #[x0, x1, x2, x3, x4] ∧
      Chg (· = g) w (((((w.setCell ⟨g, 0, none⟩ x0).setCell ⟨g, 1, none⟩ x1).setCell ⟨g, 2, none⟩ x2).setCell ⟨g, 3, none⟩ x3).setCell ⟨g, 4, none⟩ x4) := by
  refine ⟨?_, ?_⟩
  · have := ((((h.set 0 x0).set 1 x1).set 2 x2).set 3 x3).set 4 x4
    simpa using this
  · exact Chg.setCell (S := (· = g)) (Chg.setCell (S := (· = g)) (Chg.setCell (S := (· = g)) (Chg.setCell (S := (· = g)) (Chg.setCell (S := (· = g)) (Chg.refl _ _) (fun _ => rfl) _) (fun _ => rfl) _) (fun _ => rfl) _) (fun _ => rfl) _) (fun _ => rfl) _
set_option maxRecDepth 100000 in
set_option maxHeartbeats 2000000 in
theorem seal_any (k0 k1 k2 k3 : Int) (A : Option Addr) (n c : Nat) (F : Nat → Prop) (L : List (List Nat)) (w : World) (hA : Lists w F A L) (hF : ∀ k, F k → k < w.heap.size) (hn : L.length = n) (hnc : n ≤ c) (hb : n ≤ 2000000) (hT : L.flatten.length ≤ 140737488355328) :
    Calls Try.prog 86 #[.agg #[.int .i64 k0, .int .i64 k1, .int .i64 k2, .int .i64 k3], .slice A n c] w fun e w' => e = .returned (slV ⟨k0, k1, k2, k3, bstr L.flatten⟩) ∧ New w w' := by
  have HJ : Hid (∀ wx, New w wx → Calls Try.prog 100 #[.slice A n c, .slice none 0 0] wx fun e w' => ∃ v, e = .returned v ∧ Byts w' (· < w'.heap.size) v L.flatten ∧ New wx w') := fun wx hx => by
    obtain ⟨vs, hV, hB⟩ := hA
    exact Join_any A n c F L wx ⟨vs, hV.new hx hF, fun i hi => (hB i hi).new hx hF⟩ (fun k hk => Nat.lt_of_lt_of_le (hF k hk) hx.size) hn hnc hb hT
  clear hA hF hn hnc hb hT
  go_enter Try.func86, Try.ntmps86
  go_upto_region 1 with (fail)
  have hN2 : New w ((w.alloc (.cells #[.int .i64 k0, .int .i64 k1, .int .i64 k2, .int .i64 k3] 123)).alloc (.cells #[.int .i64 0, .int .i64 0, .int .i64 0, .int .i64 0, .string ⟨#[]⟩] 158)) := ((Chg.refl _ _).alloc _).alloc _
  have hK2 := (Has.new w 123 #[.int .i64 k0, .int .i64 k1, .int .i64 k2, .int .i64 k3]).alloc (.cells #[.int .i64 0, .int .i64 0, .int .i64 0, .int .i64 0, .string ⟨#[]⟩] 158)
  have hR2 := Has.new_at (w.alloc (.cells #[.int .i64 k0, .int .i64 k1, .int .i64 k2, .int .i64 k3] 123)) 158 #[.int .i64 0, .int .i64 0, .int .i64 0, .int .i64 0, .string ⟨#[]⟩] (w.heap.size + 1) (by simp)
  obtain ⟨w2, hw2⟩ : ∃ w2, w2 = (w.alloc (.cells #[.int .i64 k0, .int .i64 k1, .int .i64 k2, .int .i64 k3] 123)).alloc (.cells #[.int .i64 0, .int .i64 0, .int .i64 0, .int .i64 0, .string ⟨#[]⟩] 158) := ⟨_, rfl⟩
  rw [← hw2] at hN2 hK2 hR2 ⊢
  clear hw2
  obtain ⟨kb, hkb⟩ : ∃ kb, kb = w.heap.size := ⟨_, rfl⟩
  rw [← hkb] at hK2 hR2 ⊢
  obtain ⟨rb, hrb⟩ : ∃ rb, rb = kb + 1 := ⟨_, rfl⟩
  rw [← hrb] at hR2 ⊢
  have HN2 := Lib.hid hN2; clear hN2
  have HR2 := Lib.hid hR2; clear hR2
  have Hkb := Lib.hid hkb; clear hkb
  have Hrb := Lib.hid hrb; clear hrb
  have HK : Hid (∀ wx, Chg (fun k => kb < k) w2 wx → wx.cell? ⟨kb, 0, none⟩ = some (.int .i64 k0) ∧ wx.cell? ⟨kb, 1, none⟩ = some (.int .i64 k1) ∧ wx.cell? ⟨kb, 2, none⟩ = some (.int .i64 k2) ∧ wx.cell? ⟨kb, 3, none⟩ = some (.int .i64 k3)) := fun wx hx =>
    have h := hK2.chg hx (Nat.lt_irrefl _)
    ⟨(h.cell 0).trans rfl, (h.cell 1).trans rfl, (h.cell 2).trans rfl, (h.cell 3).trans rfl⟩
  clear hK2
  obtain ⟨u0, u1, u2, u3⟩ := HK.out _ (Chg.refl _ w2)
  go_region_law
    (go_simp; go_at_call 100; (with_reducible refine (HJ.out _ (HN2.out.then_new (by with_reducible repeat (first | exact Chg.refl _ _ | refine Chg.drew ?_ | refine Chg.alloc ?_ _)))).mono ?_); rintro e w3 ⟨v3, rfl, hB3, hN3⟩
     have hM3 : New w2 w3 := Chg.new_then (by with_reducible repeat (first | exact Chg.refl _ _ | refine Chg.drew ?_ | refine Chg.alloc ?_ _)) hN3
     have hs3 := hB3.string
     have hR3 := HR2.out.keep hM3
     have zf0 := hR3.free 0
     have zf1 := hR3.free 1
     have zf2 := hR3.free 2
     have zf3 := hR3.free 3
     have zf4 := hR3.free 4
     have zc0 := (hR3.cell 0).trans rfl
     have zc1 := (hR3.cell 1).trans rfl
     have zc2 := (hR3.cell 2).trans rfl
     have zc3 := (hR3.cell 3).trans rfl
     have zc4 := (hR3.cell 4).trans rfl
     have HR3 := Lib.hid hR3
     obtain ⟨y0, y1, y2, y3⟩ := HK.out _ (Chg.of_new hM3)
     have HM3 := Lib.hid hM3
     clear hB3 hN3 hM3 hR3)
  all_goals
    have hset := setS HR3.out (.int .i64 k0) (.int .i64 k1) (.int .i64 k2) (.int .i64 k3) (.string (bstr L.flatten))
    clear zf0 zf1 zf2 zf3 zf4 zc0 zc1 zc2 zc3 zc4
    revert hset
    generalize (((((w3.setCell ⟨rb, 0, none⟩ (.int .i64 k0)).setCell ⟨rb, 1, none⟩ (.int .i64 k1)).setCell ⟨rb, 2, none⟩ (.int .i64 k2)).setCell ⟨rb, 3, none⟩ (.int .i64 k3)).setCell ⟨rb, 4, none⟩ (.string (bstr L.flatten))) = w5
    rintro ⟨hH5, hC5⟩
    go_wp2_with fail
    refine bodyPost_ret (v := slV ⟨k0, k1, k2, k3, bstr L.flatten⟩) (by simp [results, Try.results86, go_sem, slV, (hH5.cell 0).trans rfl, (hH5.cell 1).trans rfl, (hH5.cell 2).trans rfl, (hH5.cell 3).trans rfl, (hH5.cell 4).trans rfl]) rfl ?_
    exact ⟨rfl, (HN2.out.then_new HM3.out).trans hC5 (fun i hi e => by rw [e, Hrb.out, Hkb.out] at hi; omega)⟩
set_option maxRecDepth 100000 in
theorem onumber_any (i : Nat) (w : World) (hi : i ≤ 1000000) : Calls Try.prog 101 #[.int .i64 (i : Int)] w fun e w' => e = .returned (.int .i64 ((i + 1 : Nat) : Int)) ∧ w' = w := by
  go_enter Try.func101, Try.ntmps101
  go_wp2_with fail
  go_ret
  exact ⟨by go_num, rfl⟩
set_option maxRecDepth 100000 in
theorem Len_any (base g : Nat) (L : List Sl) (w : World) (h : Orc w base g L) : Calls Try.prog 30 #[.pointer (some ⟨g, 0, none⟩)] w fun e w' => e = .returned (.int .i64 (L.length : Int)) ∧ w' = w := by
  obtain ⟨mv, sv, hH, _, hO, _⟩ := h
  obtain ⟨A, c, rfl, _⟩ := own_form hO
  have c1 := (hH.cell 1).trans rfl
  go_enter Try.func30, Try.ntmps30
  go_wp2_with fail
  go_ret
  exact ⟨rfl, rfl⟩
end Go.Proofs.Ytkcokcanakljnaa
/-
  Package oracle's Holds, issue and Mint.
-/
namespace Go.Proofs.Ytkcokcanakljnaa
open Go.ChangeShapes Go.WideShapes Go.ChangeAt Go.RowKit Go.Maps
theorem look_nil (x : Sl) (hx : SlOk x) (w : World) : (Instr.lookup 74 (.map none) (slV x) true).run Try.prog w = .ok (.tuple #[.int .i64 0, .bool false]) w := by
  obtain ⟨l, hl⟩ := slKey x hx
  rcases law158.find w hl [] (fun e he => by cases he) with ⟨f1, _⟩ | ⟨j, e0, _, f2, _⟩
  · simp [Instr.lookup, run_underlying Try.underlying74, law158.check w _ hl, f1, Try.zero25 w, Result.andThen]
  · simp at f2
theorem bstr_size (bs : List Nat) : (bstr bs).size = bs.length := by simp [bstr, ByteArray.size]
theorem slOk_of {k0 k1 k2 k3 : Int} {bs : List Nat} (h0 : (Lit.int .i64 k0).wf = true) (h1 : (Lit.int .i64 k1).wf = true) (h2 : (Lit.int .i64 k2).wf = true) (h3 : (Lit.int .i64 k3).wf = true) (hb : bs.length ≤ 140737488355328) : SlOk ⟨k0, k1, k2, k3, bstr bs⟩ :=
  ⟨h0, h1, h2, h3, by rw [bstr_size]; simp only [maxLen]; omega⟩
/-- what an oracle answers, the map's value mv -/
theorem Orc.look {w : World} {L : List Sl} {mv : Value} (h : (mv = .map none ∧ L = []) ∨ ∃ b, mv = .map (some b) ∧ Mp w b L) (hL : ∀ y ∈ L, SlOk y) (hd : L.Nodup) (x : Sl) (hx : SlOk x) :
    (Instr.lookup 74 mv (slV x) true).run Try.prog w = .ok (.tuple #[.int .i64 (atN L x : Nat), .bool (decide (x ∈ L))]) w := by
  rcases h with ⟨rfl, rfl⟩ | ⟨b, rfl, h⟩
  · exact look_nil x hx w
  · exact h.look hL hd x hx
def holdsB (L : List Sl) (x : Sl) (t : Int) : Bool := decide (x ∈ L) && ((atN L x : Int) == t)
set_option maxRecDepth 100000 in
set_option maxHeartbeats 2000000 in
theorem Holds_any (base g : Nat) (M : List Sl) (t k0 k1 k2 k3 : Int) (h0 : (Lit.int .i64 k0).wf = true) (h1 : (Lit.int .i64 k1).wf = true) (h2 : (Lit.int .i64 k2).wf = true) (h3 : (Lit.int .i64 k3).wf = true)
    (A : Option Addr) (n c : Nat) (F : Nat → Prop) (L : List (List Nat)) (w : World) (hM : Orc w base g M) (hA : Lists w F A L) (hF : ∀ k, F k → k < w.heap.size) (hn : L.length = n) (hnc : n ≤ c) (hb : n ≤ 2000000) (hT : L.flatten.length ≤ 140737488355328) :
    Calls Try.prog 60 #[.pointer (some ⟨g, 0, none⟩), .int .i64 t, .agg #[.int .i64 k0, .int .i64 k1, .int .i64 k2, .int .i64 k3], .slice A n c] w fun e w' => e = .returned (.bool (holdsB M ⟨k0, k1, k2, k3, bstr L.flatten⟩ t)) ∧ New w w' := by
  have hx : SlOk ⟨k0, k1, k2, k3, bstr L.flatten⟩ := slOk_of h0 h1 h2 h3 hT
  obtain ⟨mv, sv, hH, hgb, hO, hMp, hok, hnd⟩ := hM
  have HS : Hid (∀ wx, New w wx → Calls Try.prog 86 #[.agg #[.int .i64 k0, .int .i64 k1, .int .i64 k2, .int .i64 k3], .slice A n c] wx fun e w' => e = .returned (.agg #[.int .i64 k0, .int .i64 k1, .int .i64 k2, .int .i64 k3, .string (bstr L.flatten)]) ∧ New wx w') := fun wx hx => by
    obtain ⟨vs, hV, hB⟩ := hA
    exact seal_any k0 k1 k2 k3 A n c F L wx ⟨vs, hV.new hx hF, fun i hi => (hB i hi).new hx hF⟩ (fun k hk => Nat.lt_of_lt_of_le (hF k hk) hx.size) hn hnc hb hT
  have HLk : Hid (∀ wx, New w wx → (Instr.lookup 74 mv (.agg #[.int .i64 k0, .int .i64 k1, .int .i64 k2, .int .i64 k3, .string (bstr L.flatten)]) true).run Try.prog wx = .ok (.tuple #[.int .i64 (atN M ⟨k0, k1, k2, k3, bstr L.flatten⟩ : Nat), .bool (decide ((⟨k0, k1, k2, k3, bstr L.flatten⟩ : Sl) ∈ M))]) wx) := fun wx hwx =>
    Orc.look (by rcases hMp with h | ⟨b, e, _, h⟩; exact Or.inl h; exact Or.inr ⟨b, e, h.chg hwx fun f => f⟩) hok hnd ⟨k0, k1, k2, k3, bstr L.flatten⟩ hx
  have HM : Hid (∀ wx, New w wx → wx.cell? ⟨g, 0, none⟩ = some mv) := fun wx hwx => ((hH.keep hwx).cell 0).trans rfl
  obtain ⟨q, hq⟩ : ∃ q : Nat, q = atN M ⟨k0, k1, k2, k3, bstr L.flatten⟩ := ⟨_, rfl⟩
  obtain ⟨bb, hbb⟩ : ∃ bb : Bool, bb = decide ((⟨k0, k1, k2, k3, bstr L.flatten⟩ : Sl) ∈ M) := ⟨_, rfl⟩
  have HR : Hid (holdsB M ⟨k0, k1, k2, k3, bstr L.flatten⟩ t = (bb && ((q : Int) == t))) := by rw [Hid, holdsB, hq, hbb]
  rw [← hq, ← hbb] at HLk
  rw [HR.out]
  clear HR hq hbb hA hF hn hnc hb hT hx hok hnd hMp hO hH h0 h1 h2 h3
  go_enter Try.func60, Try.ntmps60
  go_upto_region 1 with (fail)
  have hN2 : New w (w.alloc (.cells #[.int .i64 k0, .int .i64 k1, .int .i64 k2, .int .i64 k3] 123)) := (Chg.refl _ _).alloc _
  have hK2 := Has.new w 123 #[.int .i64 k0, .int .i64 k1, .int .i64 k2, .int .i64 k3]
  obtain ⟨w2, hw2⟩ : ∃ w2, w2 = w.alloc (.cells #[.int .i64 k0, .int .i64 k1, .int .i64 k2, .int .i64 k3] 123) := ⟨_, rfl⟩
  rw [← hw2] at hN2 hK2 ⊢
  clear hw2
  have u0 := (hK2.cell 0).trans rfl
  have u1 := (hK2.cell 1).trans rfl
  have u2 := (hK2.cell 2).trans rfl
  have u3 := (hK2.cell 3).trans rfl
  have um := HM.out w2 hN2
  have HN2 := Lib.hid hN2; clear hN2
  clear hK2
  go_cut [9, 10] (fun s9 s10 wx => s9 = .int .i64 (q : Int) ∧ s10 = .bool bb ∧ New w wx)
  case first =>
    go_region_law
      (go_simp; go_at_call 86; (with_reducible refine (HS.out _ (HN2.out.then_new (by with_reducible repeat (first | exact Chg.refl _ _ | refine Chg.drew ?_ | refine Chg.alloc ?_ _)))).mono ?_); rintro e w3 ⟨rfl, hN3⟩
       have hM3 : New w w3 := Chg.new_then (HN2.out.then_new (by with_reducible repeat (first | exact Chg.refl _ _ | refine Chg.drew ?_ | refine Chg.alloc ?_ _))) hN3
       have ym := HM.out w3 hM3
       have yl := HLk.out w3 hM3
       have HM3 := Lib.hid hM3
       clear hN3 hM3)
    all_goals
      go_wp2_with fail
      go_meet
      case rel => exact ⟨rfl, rfl, HM3.out⟩
  case rest =>
    obtain ⟨rfl, rfl, hNc⟩ := hcut
    have HNc := Lib.hid hNc; clear hNc
    cases bb
    · go_wp2_with fail
      go_ret
      exact ⟨rfl, HNc.out⟩
    · go_wp2_with fail
      go_ret
      exact ⟨rfl, HNc.out⟩
end Go.Proofs.Ytkcokcanakljnaa
/-
  Package oracle's issue and Mint.
-/
namespace Go.Proofs.Ytkcokcanakljnaa
open Go.ChangeShapes Go.WideShapes Go.ChangeAt Go.RowKit Go.Maps
/-- 'append(s, xs...)', s the call's own: what was s's own stays so -/
theorem run_append_keep {P : Program} (w : World) (base : Nat) (t ty e : TypeId) (i : TypeInfo) (z : Value) (size bytes : Nat) (ht : P.underlying t = some (.slice e)) (hi : P.info? e = some i) (hz : i.zero = some z)
    (hsize : i.size = size) (hby : i.bytes = bytes) (hzs : z.cells.size = size) (hsz : 0 < size)
    (v : Value) (n : Nat) (xs : List Value) (hown : w.ownsRow base e size v n xs)
    (a : Addr) (m c : Nat) (news : List Value) (hl : news.length = m * size) (hnews : ∀ j u, news[j]? = some u → w.cell? (a.add j) = some u) (h1 : ∀ u ∈ news, u.oneCell' = true)
    (h63 : n + m ≤ maxLen) (hbytes : (n + m) * bytes ≤ 140737488355328) (hbase : base ≤ w.heap.size) :
    ∃ v' w', (Builtin.append_ #[t, t] ty #[v, .slice (some a) m c]).run P w = .ok v' w' ∧ w'.ownsRow base e size v' (n + m) (xs ++ news) ∧ w.grownBy w' v.ownBlock ∧ (v'.ownBlock = v.ownBlock ∨ v'.ownBlock = some w.heap.size) ∧ w'.ownsRow base e size v n xs := by
  obtain ⟨v', w', hr, h2, h3, _, h5⟩ := run_append_own_at (P := P) w base t ty e i z size bytes ht hi hz hsize hby hzs hsz v n xs hown a m c news hl hnews h1 h63 hbytes hbase
  refine ⟨v', w', hr, h2, h3, h5, ?_⟩
  have h63' := h63
  simp only [maxLen] at h63'
  rcases hown.2 with ⟨rfl, rfl⟩ | ⟨g, cap, cur, rfl, hbg, hg, hnc, hcm, hcs, htake⟩
  · have hx : xs = [] := List.eq_nil_of_length_eq_zero (by simpa using hown.1)
    subst hx
    exact World.ownsRow_nil _ _ _ _
  · subst hsize
    by_cases hroom : n + m ≤ cap
    · have hfit : n * i.size + news.length ≤ cur.size := by rw [hl, hcs, ← Nat.add_mul]; exact Nat.mul_le_mul_right _ hroom
      have hr2 := run_append_room (P := P) w t ty e i ht hi g n cap cur hg a m c news hl hnews h1 hroom hfit
      rw [hr2] at hr
      cases hr
      have hlen := hown.1
      refine ⟨hlen, .inr ⟨g, cap, _, rfl, hbg, setRow_heap w g cur _ e _ hg, hnc, hcm, ?_, ?_⟩⟩
      · simp only [List.size_toArray, List.length_append, List.length_take, List.length_drop, Array.length_toList]
        omega
      · rw [htake, List.append_assoc, ← hlen]
        exact List.take_left
    · subst hby
      have holds : ∀ j u, xs[j]? = some u → w.cell? ((⟨g, 0, none⟩ : Addr).add j) = some u := hown.cells (g := g) rfl
      have hr2 := run_append_grow (P := P) w t ty e i z ht hi hz ⟨g, 0, none⟩ n cap xs hown.1 holds a m c news hl hnews (by omega) (by omega) (growslice_fits (by omega) hbytes)
      rw [hr2] at hr
      cases hr
      exact own_new hown (((Chg.refl _ _).drew).alloc _)
theorem step_append_keep {P : Program} {w : World} {ops : Array Oper} {o : Oper} {a : Act} {K : Act → World → Prop} {Q : Exit → Act → World → Prop} {E : Prop} (hgd : o.guard = none) (s x : Operand) (t : TypeId)
    (ho : o.op = .call { callee := .builtin .append, args := #[s, x], argTypes := #[t, t] })
    (base : Nat) (e : TypeId) (i : TypeInfo) (z : Value) (size bytes : Nat) (ht : P.underlying t = some (.slice e)) (hi : P.info? e = some i) (hz : i.zero = some z)
    (hsize : i.size = size) (hby : i.bytes = bytes) (hzs : z.cells.size = size) (hsz : 0 < size)
    (v : Value) (n : Nat) (xs : List Value) (hs : a.eval s = v) (hown : w.ownsRow base e size v n xs)
    (ad : Addr) (m c : Nat) (news : List Value) (hx : a.eval x = .slice (some ad) m c) (hl : news.length = m * size)
    (hnews : ∀ j u, news[j]? = some u → w.cell? (ad.add j) = some u) (h1 : ∀ u ∈ news, u.oneCell' = true)
    (h63 : n + m ≤ maxLen) (hbytes : (n + m) * bytes ≤ 140737488355328) (hbase : base ≤ w.heap.size)
    (h : ∀ A' c' w', w'.ownsRow base e size (.slice A' (n + m) c') (n + m) (xs ++ news) → Chg (fun k => v.ownBlock = some k) w w' → w'.ownsRow base e size v n xs → K (a.put o.dst (.slice A' (n + m) c')) w') :
    if Region.wanted o (yielded ops a.tmps) = true then Oper.wp P o a w K Q else E := by
  have hw : Region.wanted o (yielded ops a.tmps) = true := by simp [Region.wanted, hgd]
  rw [if_pos hw]
  obtain ⟨v', w', hr, h2, h3, h5, h6⟩ := run_append_keep (P := P) w base t o.type e i z size bytes ht hi hz hsize hby hzs hsz v n xs hown ad m c news hl hnews h1 h63 hbytes hbase
  obtain ⟨A', c', rfl, _⟩ := own_form h2
  unfold Oper.wp execOp
  simp only [ho, resolve, invoke, builtin, Sem.run_bind, Sem.run_pure, Result.andThen_ok, List.map_toArray, List.map_cons, List.map_nil, hs, hx, hr]
  exact h A' c' w' h2 (Chg.grown (Chg.refl _ _) h3 fun k hk _ => hk) h6
theorem Try.info158 : (Try.prog.info? 158).map (fun i => (i.zero, i.size, i.bytes)) = some (some (.agg #[.int .i64 0, .int .i64 0, .int .i64 0, .int .i64 0, .string ⟨#[]⟩]), 5, 48) := by kernel_rfl
theorem Mp.ne_has {w : World} {b g : Nat} {t : TypeId} {cs : Array Value} {M : List Sl} (h : Mp w b M) (hg : Has w g t cs) : g ≠ b := by
  intro e
  obtain ⟨es, ck, h1, _⟩ := h
  unfold Has at hg
  rw [← e, hg] at h1
  cases h1
theorem Mp.ne_own {w : World} {b base e size n : Nat} {v : Value} {xs : List Value} {M : List Sl} (h : Mp w b M) (ho : w.ownsRow base e size v n xs) : v.ownBlock ≠ some b := by
  intro hv
  obtain ⟨es, ck, h1, _⟩ := h
  rcases ho.2 with ⟨rfl, _⟩ | ⟨g, cap, cur, rfl, _, hg, _⟩
  · cases hv
  · simp only [Value.ownBlock, Option.some.injEq] at hv
    rw [← hv, hg] at h1
    cases h1
theorem has_cells {w : World} {g : Nat} {t : TypeId} {l : List Value} (h : Has w g t l.toArray) (j : Nat) (u : Value) (hu : l[j]? = some u) : w.cell? ((⟨g, 0, none⟩ : Addr).add j) = some u := by
  obtain ⟨ad, e, hc⟩ := has_news h j u hu
  cases e
  exact hc
theorem own_OS {w : World} {base n k : Nat} {v : Value} {xs : List Value} (ho : w.ownsRow base 158 5 v n xs) (hv : v.ownBlock = some k) : OS base w k := by
  rcases ho.2 with ⟨rfl, _⟩ | ⟨g, cap, cur, rfl, hb, hg, _⟩
  · cases hv
  · simp only [Value.ownBlock, Option.some.injEq] at hv
    rw [← hv]
    exact ⟨hb, Or.inr (Or.inr ⟨_, _, hg⟩)⟩
theorem eqNil0 (w : World) : (binOp .eql 74 (.map none) (.map none)).run Try.prog w = .ok (.bool true) w := by kernel_rfl
theorem eqNil1 (b : Nat) (w : World) : (binOp .eql 74 (.map (some b)) (.map none)).run Try.prog w = .ok (.bool false) w := by kernel_rfl
set_option maxRecDepth 100000 in
set_option maxHeartbeats 2000000 in
theorem issue_any (base g : Nat) (M : List Sl) (x : Sl) (hx : SlOk x) (w : World) (mv sv : Value) (hH : Has w g 77 #[mv, sv]) (hgb : base = g) (hO : w.ownsRow base 158 5 sv M.length (slRow M))
    (hMp : (mv = .map none ∧ M = []) ∨ ∃ b, mv = .map (some b) ∧ base ≤ b ∧ Mp w b M) (hok : ∀ y ∈ M, SlOk y) (hnd : M.Nodup) (hn : x ∉ M) (hm : M.length ≤ 1000) :
    Calls Try.prog 87 #[.pointer (some ⟨g, 0, none⟩), slV x] w fun e w' => e = .returned (.int .i64 ((M.length + 1 : Nat) : Int)) ∧ Orc w' base g (M ++ [x]) ∧ Chg (OS base w) w w' ∧ w'.ownsRow base 158 5 sv M.length (slRow M) := by
  obtain ⟨A, c, rfl, _⟩ := own_form hO
  obtain ⟨m, hml⟩ : ∃ m, m = M.length := ⟨_, rfl⟩
  rw [← hml] at hO hH hm ⊢
  have Hml := Lib.hid hml; clear hml
  obtain ⟨x0, x1, x2, x3, xs⟩ := x
  have hb0 : base ≤ w.heap.size := Nat.le_trans (Nat.le_of_eq hgb) (Nat.le_of_lt hH.lt)
  have HO := Lib.hid hO; clear hO
  have HH := Lib.hid hH; clear hH
  have Hok := Lib.hid hok; clear hok
  have Hnd := Lib.hid hnd; clear hnd
  have Hn := Lib.hid hn; clear hn
  have Hx := Lib.hid hx; clear hx
  unfold slV
  dsimp only
  go_enter Try.func87, Try.ntmps87
  go_upto_region 1 with (fail)
  have hN1 : New w (w.alloc (.cells #[.int .i64 x0, .int .i64 x1, .int .i64 x2, .int .i64 x3, .string xs] 158)) := (Chg.refl _ _).alloc _
  have hS1 := Has.new w 158 #[.int .i64 x0, .int .i64 x1, .int .i64 x2, .int .i64 x3, .string xs]
  obtain ⟨w1, hw1⟩ : ∃ w1, w1 = w.alloc (.cells #[.int .i64 x0, .int .i64 x1, .int .i64 x2, .int .i64 x3, .string xs] 158) := ⟨_, rfl⟩
  rw [← hw1] at hN1 hS1 ⊢
  clear hw1
  obtain ⟨sb, hsb⟩ : ∃ sb, sb = w.heap.size := ⟨_, rfl⟩
  rw [← hsb] at hS1 ⊢
  have hgs : g ≠ sb := by have := HH.out.lt; omega
  have hH1 := HH.out.keep hN1
  have c0 := (hH1.cell 0).trans rfl
  have c1 := (hH1.cell 1).trans rfl
  have f0 := hH1.free 0
  have HH1 := Lib.hid hH1; clear hH1
  have HO1 := Lib.hid (own_new HO.out hN1)
  have HS1 := Lib.hid hS1; clear hS1
  have HN1 := Lib.hid hN1; clear hN1
  have Hsb := Lib.hid hsb; clear hsb
  rcases hMp with ⟨rfl, hnil⟩ | ⟨b, rfl, hbb, hMb⟩
  case' inl =>
    have Hnil := Lib.hid hnil; clear hnil
    have d0 : (w1.alloc (.map #[] 0)).cell? ⟨g, 0, none⟩ = some (.map none) := ((HH1.out.alloc _).cell 0).trans rfl
    have df : (w1.alloc (.map #[] 0)).frozen? ⟨g, 0, none⟩ = false := (HH1.out.alloc _).free 0
    have hmm := @run_makeMap Try.prog
    have hq := eqNil0
    go_upto_region 3 with (fail)
    clear d0 df hmm hq
    have hC3 : Chg (OS base w) w ((w1.alloc (.map #[] 0)).setCell ⟨g, 0, none⟩ (.map (some w1.heap.size))) := ((Chg.of_new HN1.out).alloc _).setCell (p := ⟨g, 0, none⟩) (fun _ => ⟨Nat.le_of_eq hgb, Or.inr (Or.inl ⟨_, _, HH.out, Or.inl hgb.symm⟩)⟩) _
    have hH3 : Has ((w1.alloc (.map #[] 0)).setCell ⟨g, 0, none⟩ (.map (some w1.heap.size))) g 77 #[.map (some w1.heap.size), .slice A m c] := (HH1.out.alloc (.map #[] 0)).set 0 (.map (some w1.heap.size))
    have hCg : Chg (· = g) w1 ((w1.alloc (.map #[] 0)).setCell ⟨g, 0, none⟩ (.map (some w1.heap.size))) := Chg.setCell (S := (· = g)) ((Chg.refl _ _).alloc _) (p := ⟨g, 0, none⟩) (fun _ => rfl) _
    have hM3 : Mp ((w1.alloc (.map #[] 0)).setCell ⟨g, 0, none⟩ (.map (some w1.heap.size))) w1.heap.size M := by
      rw [Hnil.out]
      have h0 : Mp (w1.alloc (.map #[] 0)) w1.heap.size [] := ⟨#[], 0, heap_alloc_new w1 _, rfl, fun j e he => by simp at he⟩
      exact h0.chg (S := (· = g)) (Chg.setCell (S := (· = g)) (Chg.refl _ _) (p := ⟨g, 0, none⟩) (fun _ => rfl) _) (by have := HH1.out.lt; omega)
    have hb3 : base ≤ w1.heap.size := Nat.le_trans hb0 HN1.out.size
    have hbg3 : w1.heap.size ≠ g := by have := HH1.out.lt; omega
    have hOSb : w1.heap.size < w.heap.size → OS base w w1.heap.size := fun h => absurd h (by have := HN1.out.size; omega)
    revert hC3 hH3 hCg hM3 hb3 hbg3 hOSb
    generalize (w1.alloc (.map #[] 0)).setCell ⟨g, 0, none⟩ (.map (some w1.heap.size)) = w3
    generalize w1.heap.size = b
    intro hC3 hH3 hCg hM3 hb3 hbg3 hOSb
    have HOSb := Lib.hid hOSb; clear hOSb
    have hH3w := HH1.out
    clear HH1 Hnil
  case' inr =>
    have hq := eqNil1 b
    go_upto_region 3 with (fail)
    clear hq
    have hC3 : Chg (OS base w) w w1 := Chg.of_new HN1.out
    have hH3 := HH1.out
    have hCg : Chg (· = g) w1 w1 := Chg.refl _ _
    have hM3 := hMb.chg HN1.out fun f => f
    have hb3 := hbb
    have HOSb : Hid (b < w.heap.size → OS base w b) := fun _ => by
      obtain ⟨es, ck, h1, _⟩ := hMb
      exact ⟨hbb, Or.inl ⟨_, _, h1⟩⟩
    have hbg3 : b ≠ g := by
      intro e
      obtain ⟨es, ck, h1, _⟩ := hMb
      have h2 := HH.out
      unfold Has at h2
      rw [e, h2] at h1
      cases h1
    revert hC3 hH3 hCg hM3
    generalize hw3 : w1 = w3 at ⊢
    intro hC3 hH3 hCg hM3
    clear hCg
    have hCg : Chg (· = g) w1 w3 := by rw [hw3]; exact Chg.refl _ _
    clear hw3
    have hH3w := HH1.out
    clear hMb hbb HH1
  all_goals
    clear c0 c1 f0
    have hO3 := own_chg HO1.out hCg (fun k hk e => own_apart HO1.out hH3w (by decide) (by rw [hk, e]))
    have hS3 := HS1.out.chg hCg (fun e => hgs e.symm)
    have c0 := (hH3.cell 0).trans rfl
    have c1 := (hH3.cell 1).trans rfl
    have HH3 := Lib.hid hH3; clear hH3
    have HO3 := Lib.hid hO3; clear hO3
    have HC3 := Lib.hid hC3; clear hC3
    clear hCg HO1 HS1 HN1
    have s0 := (hS3.cell 0).trans rfl
    have s1 := (hS3.cell 1).trans rfl
    have s2 := (hS3.cell 2).trans rfl
    have s3 := (hS3.cell 3).trans rfl
    have s4 := (hS3.cell 4).trans rfl
    have HS3 := Lib.hid hS3; clear hS3
    have hMd : Mp w3.drew b M := hM3
    obtain ⟨w4, hst, hM4, hC4⟩ := hMd.store Hok.out ⟨x0, x1, x2, x3, xs⟩ Hx.out Hn.out
    unfold slV at hst
    dsimp only at hst
    rw [← Hml.out, show ((m + 1 : Nat) : Int) = (m : Int) + 1 from by omega] at hst
    have hg4 := hMd.ne_has (show Has w3.drew g _ _ from HH3.out)
    have hs4 := hMd.ne_has (show Has w3.drew sb _ _ from HS3.out)
    have ho4 := hMd.ne_own (show w3.drew.ownsRow _ _ _ _ _ _ from HO3.out)
    clear hM3 hMd
    have HM4 := Lib.hid hM4; clear hM4
    have HC4 := Lib.hid hC4; clear hC4
    go_upto_region 4 with (go_at_call 101; refine (onumber_any m w3 (by omega)).mono ?_; rintro e w5 ⟨rfl, hw5⟩; obtain rfl : w3 = w5 := hw5.symm)
    go_region
    all_goals
      have hH4 := (show Has w3.drew g _ _ from HH3.out).chg HC4.out hg4
      have hS4 := (show Has w3.drew sb _ _ from HS3.out).chg HC4.out hs4
      have hO4 := own_chg (show w3.drew.ownsRow _ _ _ _ _ _ from HO3.out) HC4.out (fun k hk e => ho4 (by rw [hk, e]))
      have hD4 : Chg (OS base w) w w4 := HC3.out.drew.trans HC4.out (fun i hi e => by rw [e] at hi ⊢; exact HOSb.out hi)
      clear hg4 hs4 ho4 hst c0 c1 s0 s1 s2 s3 s4 HH3 HS3 HO3
      have c1 := (hH4.cell 1).trans rfl
      have c2 : (w4.alloc (.cells #[.int .i64 x0, .int .i64 x1, .int .i64 x2, .int .i64 x3, .string xs] 158)).cell? ⟨g, 1, none⟩ = some (.slice A m c) := ((hH4.alloc _).cell 1).trans rfl
      have f1 := hH4.free 1
      have s0 := (hS4.cell 0).trans rfl
      have s1 := (hS4.cell 1).trans rfl
      have s2 := (hS4.cell 2).trans rfl
      have s3 := (hS4.cell 3).trans rfl
      have s4 := (hS4.cell 4).trans rfl
      have HH4 := Lib.hid hH4; clear hH4
      have HS4 := Lib.hid hS4; clear hS4
      have HO4 := Lib.hid hO4; clear hO4
      have HD4 := Lib.hid hD4; clear hD4
      go_upto_region 5 with (fail)
      obtain ⟨i0, hi, hz0, hz1, hz2⟩ := info_parts Try.info158
      go_region_law
        (refine step_append_keep rfl (.tmp 31) (.tmp 33) 75 rfl base 158 i0 (.agg #[.int .i64 0, .int .i64 0, .int .i64 0, .int .i64 0, .string ⟨#[]⟩]) 5 48 Try.underlying75 hi hz0 hz1 hz2 rfl (by decide) (.slice A m c) m (slRow M) (by simp [Act.eval]) (own_new HO4.out (by with_reducible repeat (first | exact Chg.refl _ _ | refine Chg.drew ?_ | refine Chg.alloc ?_ _))) ⟨w4.heap.size, 0, none⟩ 1 1 [.int .i64 x0, .int .i64 x1, .int .i64 x2, .int .i64 x3, .string xs] (by simp [Act.eval]) rfl (has_cells (Has.new _ _ _)) (by intro u hu; simp at hu; rcases hu with rfl | rfl | rfl | rfl | rfl <;> rfl) (by simp only [maxLen]; omega) (by omega) (by simp; have := HD4.out.size; omega) ?_
         intro A' c' w6 hO6 hC6 hK6
         have hC46 : Chg (fun k => Value.ownBlock (.slice A m c) = some k) w4 w6 := Chg.new_then (by with_reducible repeat (first | exact Chg.refl _ _ | refine Chg.drew ?_ | refine Chg.alloc ?_ _)) hC6
         have hH6 := HH4.out.chg hC46 (own_apart HO4.out HH4.out (by decide))
         have HM6 := Lib.hid (HM4.out.chg hC46 (HM4.out.ne_own HO4.out))
         have t1 := (hH6.cell 1).trans rfl
         have tf := hH6.free 1
         have HH6 := Lib.hid hH6
         have HO6 := Lib.hid hO6
         have HC6 := Lib.hid hC46
         have HK6 := Lib.hid hK6
         clear hO6 hC6 hK6 hC46 hH6)
      all_goals
        clear t1 tf c1 c2 f1 s0 s1 s2 s3 s4
        have hH7 := HH6.out.set 1 (.slice A' (m + 1) c')
        have hC7 : Chg (· = g) w6 (w6.setCell ⟨g, 1, none⟩ (.slice A' (m + 1) c')) := Chg.setCell (S := (· = g)) (Chg.refl _ _) (p := ⟨g, 1, none⟩) (fun _ => rfl) _
        revert hH7 hC7
        generalize w6.setCell ⟨g, 1, none⟩ (.slice A' (m + 1) c') = w7
        intro hH7 hC7
        have HH7 := Lib.hid hH7; clear hH7
        have HC7 := Lib.hid hC7; clear hC7
        go_wp2_with fail
        go_ret
        refine ⟨by go_num, ⟨.map (some b), .slice A' (m + 1) c', HH7.out, hgb, ?_, Or.inr ⟨b, rfl, hb3, HM6.out.chg HC7.out hbg3⟩, ?_, ?_⟩, ?_, own_chg HK6.out HC7.out (fun k hk e => own_apart HK6.out HH6.out (by decide) (by rw [hk, e]))⟩
        · have := own_chg HO6.out HC7.out (fun k hk e => own_apart HO6.out HH6.out (by decide) (by rw [hk, e]))
          rw [slRow_push, List.length_append, ← Hml.out]
          exact this
        · intro y hy
          rcases List.mem_append.1 hy with hy | hy
          · exact Hok.out y hy
          · rw [List.mem_singleton] at hy
            rw [hy]
            exact Hx.out
        · refine List.nodup_append.2 ⟨Hnd.out, by simp, ?_⟩
          intro y hy z hz e
          rw [List.mem_singleton] at hz
          exact Hn.out (by rw [← hz, ← e]; exact hy)
        · refine (HD4.out.trans HC6.out fun i hi hk => own_OS HO.out hk).trans HC7.out fun i hi e => ?_
          rw [e]
          exact ⟨Nat.le_of_eq hgb, Or.inr (Or.inl ⟨_, _, HH.out, Or.inl hgb.symm⟩)⟩
end Go.Proofs.Ytkcokcanakljnaa
/-
  Package oracle's Mint.
-/
namespace Go.Proofs.Ytkcokcanakljnaa
open Go.ChangeShapes Go.WideShapes Go.ChangeAt Go.RowKit Go.Maps
def mintN (M : List Sl) (x : Sl) : Nat := if x ∈ M then atN M x else M.length + 1
def mintL (M : List Sl) (x : Sl) : List Sl := if x ∈ M then M else M ++ [x]
set_option maxRecDepth 100000 in
set_option maxHeartbeats 2000000 in
theorem Mint_any (base g : Nat) (M : List Sl) (k0 k1 k2 k3 : Int) (h0 : (Lit.int .i64 k0).wf = true) (h1 : (Lit.int .i64 k1).wf = true) (h2 : (Lit.int .i64 k2).wf = true) (h3 : (Lit.int .i64 k3).wf = true)
    (A : Option Addr) (n c : Nat) (F : Nat → Prop) (L : List (List Nat)) (w : World) (mv sv : Value) (hH : Has w g 77 #[mv, sv]) (hgb : base = g) (hO : w.ownsRow base 158 5 sv M.length (slRow M))
    (hMp : (mv = .map none ∧ M = []) ∨ ∃ b, mv = .map (some b) ∧ base ≤ b ∧ Mp w b M) (hok : ∀ y ∈ M, SlOk y) (hnd : M.Nodup) (hm : M.length ≤ 1000)
    (hA : Lists w F A L) (hF : ∀ k, F k → k < w.heap.size) (hn : L.length = n) (hnc : n ≤ c) (hb : n ≤ 2000000) (hT : L.flatten.length ≤ 140737488355328) :
    Calls Try.prog 59 #[.pointer (some ⟨g, 0, none⟩), .agg #[.int .i64 k0, .int .i64 k1, .int .i64 k2, .int .i64 k3], .slice A n c] w fun e w' => e = .returned (.int .i64 (mintN M ⟨k0, k1, k2, k3, bstr L.flatten⟩ : Nat)) ∧ Orc w' base g (mintL M ⟨k0, k1, k2, k3, bstr L.flatten⟩) ∧ Chg (OS base w) w w' ∧ w'.ownsRow base 158 5 sv M.length (slRow M) := by
  have hx : SlOk ⟨k0, k1, k2, k3, bstr L.flatten⟩ := slOk_of h0 h1 h2 h3 hT
  have HS : Hid (∀ wx, New w wx → Calls Try.prog 86 #[.agg #[.int .i64 k0, .int .i64 k1, .int .i64 k2, .int .i64 k3], .slice A n c] wx fun e w' => e = .returned (.agg #[.int .i64 k0, .int .i64 k1, .int .i64 k2, .int .i64 k3, .string (bstr L.flatten)]) ∧ New wx w') := fun wx hx => by
    obtain ⟨vs, hV, hB⟩ := hA
    exact seal_any k0 k1 k2 k3 A n c F L wx ⟨vs, hV.new hx hF, fun i hi => (hB i hi).new hx hF⟩ (fun k hk => Nat.lt_of_lt_of_le (hF k hk) hx.size) hn hnc hb hT
  obtain ⟨s, hs⟩ : ∃ s, s = bstr L.flatten := ⟨_, rfl⟩
  rw [← hs] at HS hx ⊢
  have HOr : Hid (∀ wx, New w wx → Orc wx base g M) := fun wx hwx => Orc.new ⟨mv, sv, hH, hgb, hO, hMp, hok, hnd⟩ hwx
  have HLk : Hid (∀ wx, New w wx → (Instr.lookup 74 mv (.agg #[.int .i64 k0, .int .i64 k1, .int .i64 k2, .int .i64 k3, .string s]) true).run Try.prog wx = .ok (.tuple #[.int .i64 (atN M ⟨k0, k1, k2, k3, s⟩ : Nat), .bool (decide ((⟨k0, k1, k2, k3, s⟩ : Sl) ∈ M))]) wx) := fun wx hwx =>
    Orc.look (by rcases hMp with h | ⟨b, e, _, h⟩; exact Or.inl h; exact Or.inr ⟨b, e, h.chg hwx fun f => f⟩) hok hnd ⟨k0, k1, k2, k3, s⟩ hx
  have HIs : Hid (∀ wx, New w wx → (⟨k0, k1, k2, k3, s⟩ : Sl) ∉ M → Calls Try.prog 87 #[.pointer (some ⟨g, 0, none⟩), .agg #[.int .i64 k0, .int .i64 k1, .int .i64 k2, .int .i64 k3, .string s]] wx fun e w' => e = .returned (.int .i64 ((M.length + 1 : Nat) : Int)) ∧ Orc w' base g (M ++ [⟨k0, k1, k2, k3, s⟩]) ∧ Chg (OS base wx) wx w' ∧ w'.ownsRow base 158 5 sv M.length (slRow M)) := fun wx hwx hnm =>
    issue_any base g M ⟨k0, k1, k2, k3, s⟩ hx wx mv sv (hH.keep hwx) hgb (own_new hO hwx) (by rcases hMp with h | ⟨b, e, hb, h⟩; exact Or.inl h; exact Or.inr ⟨b, e, hb, h.chg hwx fun f => f⟩) hok hnd hnm hm
  have HM : Hid (∀ wx, New w wx → wx.cell? ⟨g, 0, none⟩ = some mv) := fun wx hwx => ((hH.keep hwx).cell 0).trans rfl
  have HO := Lib.hid hO; clear hO
  clear hs hA hF hn hnc hb hT hx hok hnd hMp hH h0 h1 h2 h3
  go_enter Try.func59, Try.ntmps59
  go_upto_region 1 with (fail)
  have hN2 : New w (w.alloc (.cells #[.int .i64 k0, .int .i64 k1, .int .i64 k2, .int .i64 k3] 123)) := (Chg.refl _ _).alloc _
  have hK2 := Has.new w 123 #[.int .i64 k0, .int .i64 k1, .int .i64 k2, .int .i64 k3]
  obtain ⟨w2, hw2⟩ : ∃ w2, w2 = w.alloc (.cells #[.int .i64 k0, .int .i64 k1, .int .i64 k2, .int .i64 k3] 123) := ⟨_, rfl⟩
  rw [← hw2] at hN2 hK2 ⊢
  clear hw2
  have u0 := (hK2.cell 0).trans rfl
  have u1 := (hK2.cell 1).trans rfl
  have u2 := (hK2.cell 2).trans rfl
  have u3 := (hK2.cell 3).trans rfl
  have HN2 := Lib.hid hN2; clear hN2
  clear hK2
  go_upto_region 2 with (go_at_call 86; (with_reducible refine (HS.out _ HN2.out).mono ?_); rintro e w3 ⟨rfl, hN3⟩; have HN3 := Lib.hid (HN2.out.then_new hN3); clear hN3)
  clear u0 u1 u2 u3 HS
  have hN4 : New w (w3.alloc (.cells #[.int .i64 k0, .int .i64 k1, .int .i64 k2, .int .i64 k3, .string s] 158)) := HN3.out.alloc _
  have hS4 := Has.new w3 158 #[.int .i64 k0, .int .i64 k1, .int .i64 k2, .int .i64 k3, .string s]
  obtain ⟨w4, hw4⟩ : ∃ w4, w4 = w3.alloc (.cells #[.int .i64 k0, .int .i64 k1, .int .i64 k2, .int .i64 k3, .string s] 158) := ⟨_, rfl⟩
  rw [← hw4] at hN4 hS4 ⊢
  clear hw4
  have u0 := (hS4.cell 0).trans rfl
  have u1 := (hS4.cell 1).trans rfl
  have u2 := (hS4.cell 2).trans rfl
  have u3 := (hS4.cell 3).trans rfl
  have u4 := (hS4.cell 4).trans rfl
  have um := HM.out w4 hN4
  have hlk := HLk.out w4.drew hN4.drew
  have HN4 := Lib.hid hN4; clear hN4
  clear hS4 HN2 HN3 HLk HM
  by_cases hx : (⟨k0, k1, k2, k3, s⟩ : Sl) ∈ M
  · have HE : Hid (mintN M ⟨k0, k1, k2, k3, s⟩ = atN M ⟨k0, k1, k2, k3, s⟩) := if_pos hx
    have HL : Hid (mintL M ⟨k0, k1, k2, k3, s⟩ = M) := if_pos hx
    rw [decide_eq_true hx] at hlk
    obtain ⟨q, hq⟩ : ∃ q, q = atN M ⟨k0, k1, k2, k3, s⟩ := ⟨_, rfl⟩
    rw [← hq] at hlk HE
    clear hq hx
    go_region
    all_goals
      go_wp2_with fail
      go_ret
      rw [HE.out, HL.out]
      exact ⟨rfl, HOr.out _ HN4.out.drew, Chg.of_new HN4.out.drew, own_new HO.out HN4.out.drew⟩
  · have HE : Hid (mintN M ⟨k0, k1, k2, k3, s⟩ = M.length + 1) := if_neg hx
    have HL : Hid (mintL M ⟨k0, k1, k2, k3, s⟩ = M ++ [⟨k0, k1, k2, k3, s⟩]) := if_neg hx
    rw [decide_eq_false hx] at hlk
    have HI := Lib.hid (HIs.out w4.drew HN4.out.drew hx)
    obtain ⟨q, hq⟩ : ∃ q, q = atN M ⟨k0, k1, k2, k3, s⟩ := ⟨_, rfl⟩
    rw [← hq] at hlk
    clear hq hx HIs
    go_region
    all_goals
      go_wp2_with (go_at_call 87; (with_reducible refine HI.out.mono ?_); rintro e w5 ⟨rfl, hO5, hC5, hK5⟩; have HO5 := Lib.hid hO5; have HC5 := Lib.hid hC5; have HK5 := Lib.hid hK5; clear hO5 hC5 hK5)
      go_ret
      rw [HE.out, HL.out]
      exact ⟨rfl, HO5.out, (Chg.of_new HN4.out.drew).trans HC5.out (fun i hi h => by
        obtain ⟨h1, h2⟩ := h
        rw [HN4.out.drew.block i hi (fun f => f)] at h2
        exact ⟨h1, h2⟩), HK5.out⟩
end Go.Proofs.Ytkcokcanakljnaa
/-
  The laws' joined and awake.
-/
namespace Go.Proofs.Ytkcokcanakljnaa
open Go.ChangeShapes Go.WideShapes Go.ChangeAt Go.RowKit Go.Maps
theorem bstr_append (a b : List Nat) : bstr (a ++ b) = bstr a ++ bstr b := by
  apply ByteArray.ext
  simp [bstr]
def aX : Sl := ⟨1, 0, 0, 1, bstr [97, 98]⟩
def aY : Sl := ⟨1, 0, 0, 2, bstr [97, 98]⟩
theorem aXY : aX ≠ aY := by intro h; have := congrArg Sl.v h; simp [aX, aY] at this
theorem mintN_x0 : mintN [] aX = 1 := by simp [mintN]
theorem mintL_x0 : mintL [] aX = [aX] := by simp [mintL]
theorem mintN_x1 : mintN [aX] aX = 1 := by simp [mintN, atN]
theorem mintL_x1 : mintL [aX] aX = [aX] := by simp [mintL]
theorem mintN_y : mintN [aX] aY = 2 := by simp [mintN, aXY.symm]
theorem mintL_y : mintL [aX] aY = [aX, aY] := by simp [mintL, aXY.symm]
theorem holds_x1 : holdsB [aX, aY] aX 1 = true := by simp [holdsB, atN]
theorem holds_x2 : holdsB [aX, aY] aX 2 = false := by simp [holdsB, atN]
/-- an oracle's letters -/
def OrcV (w : World) (base g : Nat) (M : List Sl) (mv sv : Value) : Prop := Has w g 77 #[mv, sv] ∧ base = g ∧ w.ownsRow base 158 5 sv M.length (slRow M) ∧
  ((mv = .map none ∧ M = []) ∨ ∃ b, mv = .map (some b) ∧ base ≤ b ∧ Mp w b M) ∧ (∀ y ∈ M, SlOk y) ∧ M.Nodup
theorem Orc.letters {w : World} {base g : Nat} {M : List Sl} (h : Orc w base g M) : ∃ mv sv, OrcV w base g M mv sv := h
theorem OrcV.orc {w : World} {base g : Nat} {M : List Sl} {mv sv : Value} (h : OrcV w base g M mv sv) : Orc w base g M := ⟨mv, sv, h⟩
theorem Orc.made (w : World) : Orc (w.alloc (.cells #[.map none, .slice none 0 0] 77)) w.heap.size w.heap.size [] :=
  ⟨.map none, .slice none 0 0, Has.new w _ _, rfl, World.ownsRow_nil _ _ _ _, Or.inl ⟨rfl, rfl⟩, by simp, by simp⟩
/-- Mint, in short -/
theorem Mint_orc (base g : Nat) (M : List Sl) (k0 k1 k2 k3 : Int) (h0 : (Lit.int .i64 k0).wf = true) (h1 : (Lit.int .i64 k1).wf = true) (h2 : (Lit.int .i64 k2).wf = true) (h3 : (Lit.int .i64 k3).wf = true)
    (A : Option Addr) (n c : Nat) (F : Nat → Prop) (L : List (List Nat)) (w : World) (hM : Orc w base g M) (hm : M.length ≤ 1000)
    (hA : Lists w F A L) (hF : ∀ k, F k → k < w.heap.size) (hn : L.length = n) (hnc : n ≤ c) (hb : n ≤ 2000000) (hT : L.flatten.length ≤ 140737488355328) :
    Calls Try.prog 59 #[.pointer (some ⟨g, 0, none⟩), .agg #[.int .i64 k0, .int .i64 k1, .int .i64 k2, .int .i64 k3], .slice A n c] w fun e w' => e = .returned (.int .i64 (mintN M ⟨k0, k1, k2, k3, bstr L.flatten⟩ : Nat)) ∧ Orc w' base g (mintL M ⟨k0, k1, k2, k3, bstr L.flatten⟩) ∧ Chg (OS base w) w w' := by
  obtain ⟨mv, sv, a1, a2, a3, a4, a5, a6⟩ := hM
  exact (Mint_any base g M k0 k1 k2 k3 h0 h1 h2 h3 A n c F L w mv sv a1 a2 a3 a4 a5 a6 hm hA hF hn hnc hb hT).mono fun e w' h => ⟨h.1, h.2.1, h.2.2.1⟩
theorem Chg.os_new {base : Nat} {w w' : World} (h : Chg (OS base w) w w') (hb : w.heap.size ≤ base) : New w w' := h.mono fun i hi hS => by have := hS.1; omega
end Go.Proofs.Ytkcokcanakljnaa
