/-
  Laws that whole numbers and bytes want: exclusive or of 64 bits, append of a made slice, lists of lists of bytes; slices.Grow of nothing and slices.Concat.
-/
import Derived.Test.YtficopkjpdfilaaSeq
namespace Go.Proofs.Ytficopkjpdfilaa
open Go.RowKit
theorem i64_xor_small (a b : Nat) (ha : a < 9223372036854775808) (hb : b < 9223372036854775808) : bits .xor .i64 (a : Int) (b : Int) = ((a ^^^ b : Nat) : Int) := by
  have hx : a ^^^ b < 2 ^ 63 := Nat.xor_lt_two_pow (by omega) (by omega)
  show IntKind.i64.wrap ((BitVec.ofInt 64 (a : Int) ^^^ BitVec.ofInt 64 (b : Int)).toNat : Int) = _
  rw [BitVec.toNat_xor, ofInt_u64 a (by omega), ofInt_u64 b (by omega)]
  exact IntWalk.i64_in _ (by omega)
theorem i64_or_small (a b : Nat) (ha : a < 9223372036854775808) (hb : b < 9223372036854775808) : bits .or .i64 (a : Int) (b : Int) = ((a ||| b : Nat) : Int) := by
  have hx : a ||| b < 2 ^ 63 := Nat.or_lt_two_pow (by omega) (by omega)
  show IntKind.i64.wrap ((BitVec.ofInt 64 (a : Int) ||| BitVec.ofInt 64 (b : Int)).toNat : Int) = _
  rw [BitVec.toNat_or, ofInt_u64 a (by omega), ofInt_u64 b (by omega)]
  exact IntWalk.i64_in _ (by omega)
set_option linter.unusedSimpArgs false in
set_option maxRecDepth 100000 in
/-- 'append(nil, make([]T, n)...)' -/
theorem run_append_zeros_nil {P : Program} (w : World) (t ti ty e : TypeId) (k : IntKind) (i : TypeInfo) (z : Value) (ht : P.underlying t = some (.slice e)) (hti : P.underlying ti = some (.int k)) (hi : P.info? e = some i) (hz : i.zero = some z) (hzs : z.cells.size = i.size)
    (n : Nat) (h0 : 0 < n) (h63 : n ≤ maxLen) (h48 : n * i.bytes ≤ 281474976710656) (hsz : 0 < i.size) :
    ∃ cur : Array Value, (Builtin.append_ #[t, ti] ty #[.slice none 0 0, .int .i64 n]).run P w = .ok (.slice (some ⟨w.heap.size, 0, none⟩) n (grownCap w n 0 e)) (w.drew.alloc (.cells cur e)) ∧ cur.size = grownCap w n 0 e * i.size := by
  have hn : n ≠ 0 := by omega
  have h63b : n ≤ 9223372036854775807 := by simp only [maxLen] at h63; omega
  have h63' : ¬ (9223372036854775807 < (n : Int)) := by omega
  have h48' : ¬ (281474976710656 < Builtin.nextslicecap n 0 * i.bytes) := by rw [nextslicecap_zero h0]; omega
  have hw : IntKind.i64.wrap (n : Int) = (n : Int) := IntWalk.i64_in _ (by omega)
  have hneg : ¬ ((n : Int) < 0) := by omega
  have hbb : ¬ (281474976710656 < (n : Int) * (i.bytes : Int)) := by
    have h := Int.ofNat_le.2 h48
    rw [Int.natCast_mul] at h
    exact Int.not_lt.2 h
  have hns : ¬ (n = 0 ∨ i.size = 0) := by omega
  have hge := grownCap_ge w n 0 e
  refine ⟨Builtin.zeroCells z.cells n ++ Builtin.zeroCells z.cells (grownCap w n 0 e - n), ?_, ?_⟩
  · simp [Builtin.append_, run_underlying ht, run_underlying hti, sizeOf, typeInfo, zeroValue, hi, hz, hn, h63', h48', hw, hneg, hbb, asInt, asIntOf, Question.forced, run_firstCells_none, newRow, grownCap, Nat.mul_eq_zero, hns]
    intro h; omega
  · rw [Array.size_append, size_zeroCells, size_zeroCells, hzs, ← Nat.add_mul]
    congr 1
    omega
theorem wpList_append_zeros {P : Program} {w : World} {ops : Array Oper} {rest : List Oper} {o : Oper} {a : Act} {Q : Exit → Act → World → Prop} (hgd : o.guard = none) (s x : Operand) (t ti : TypeId)
    (ho : o.op = .call { callee := .builtin .append, args := #[s, x], argTypes := #[t, ti] }) (e : TypeId) (k : IntKind) (i : TypeInfo) (z : Value)
    (ht : P.underlying t = some (.slice e)) (hti : P.underlying ti = some (.int k)) (hi : P.info? e = some i) (hz : i.zero = some z) (hzs : z.cells.size = i.size) (hsz : 0 < i.size)
    (hs : a.eval s = .slice none 0 0) (n : Nat) (hx : a.eval x = .int .i64 n) (h0 : 0 < n) (h63 : n ≤ maxLen) (h48 : n * i.bytes ≤ 281474976710656)
    (h : ∀ c cur, n ≤ c → c ≤ maxLen → cur.size = c * i.size → wpList P ops Q rest (a.put o.dst (.slice (some ⟨w.heap.size, 0, none⟩) n c)) (w.drew.alloc (.cells cur e))) : wpList P ops Q (o :: rest) a w :=
  wpList_plain hgd fun _ hK => by
    obtain ⟨cur, hr, hc⟩ := run_append_zeros_nil w t ti o.type e k i z ht hti hi hz hzs n h0 h63 h48 hsz
    unfold Oper.wp execOp
    simp only [ho, resolve, invoke, builtin, Sem.run_bind, Sem.run_pure, Result.andThen_ok, List.map_toArray, List.map_cons, List.map_nil, hs, hx, hr]
    exact hK _ _ (h _ cur (grownCap_ge w n 0 e) (grownCap_le_maxLen w n 0 e h63) hc)
/-- a slice of bytes that lies in blocks of F -/
def Byts (w : World) (F : Nat → Prop) (v : Value) (bs : List Nat) : Prop := ∃ A c, v = .slice A bs.length c ∧ Arr w F A bs.length (fun i => bV (bs.getD i 0)) ∧ (A = none → bs.length = 0 ∧ c = 0) ∧ (∀ x ∈ bs, x < 256) ∧ bs.length ≤ 140737488355328
/-- a slice of slices of bytes -/
def Lists (w : World) (F : Nat → Prop) (A : Option Addr) (L : List (List Nat)) : Prop := ∃ vs : Nat → Value, Arr w F A L.length vs ∧ ∀ i, i < L.length → Byts w F (vs i) (L.getD i [])
theorem flat_take (L : List (List Nat)) (i : Nat) (h : i < L.length) : (L.take (i + 1)).flatten = (L.take i).flatten ++ L.getD i [] := by
  rw [List.take_add_one, List.getElem?_eq_getElem h, Option.toList_some, List.flatten_append]
  simp [List.getD_eq_getElem?_getD, List.getElem?_eq_getElem h]
theorem flat_len_le (L : List (List Nat)) (k : Nat) : (L.take k).flatten.length ≤ L.flatten.length := by
  conv => rhs; rw [← List.take_append_drop k L, List.flatten_append, List.length_append]
  omega
end Go.Proofs.Ytficopkjpdfilaa
