/-
  Laws that whole numbers and bytes want: exclusive or of 64 bits, append of a made slice, lists of lists of bytes; slices.Grow of nothing and slices.Concat.
-/
import Derived.Test.YtjkpijinpfimiaaSeq
namespace Go.Proofs.Ytjkpijinpfimiaa
open Go.RowKit
theorem i64_xor_small (a b : Nat) (ha : a < 9223372036854775808) (hb : b < 9223372036854775808) : bits .xor .i64 (a : Int) (b : Int) = ((a ^^^ b : Nat) : Int) := by
  have hx : a ^^^ b < 2 ^ 63 := Nat.xor_lt_two_pow (by omega) (by omega)
  show IntKind.i64.wrap ((BitVec.ofInt 64 (a : Int) ^^^ BitVec.ofInt 64 (b : Int)).toNat : Int) = _
  rw [BitVec.toNat_xor, ofInt_u64 a (by omega), ofInt_u64 b (by omega)]
  exact IntWalk.i64_in _ (by omega)
theorem i64_or_small (a b : Nat) (ha : a < 9223372036854775808) (hb : b < 9223372036854775808) : bits .or .i64 (a : Int) (b : Int) = ((a ||| b : Nat) : Int) := by
  have hx : a ||| b < 2 ^ 63 := Nat.or_lt_two_pow (by omega) (by omega)
  show IntKind.i64.wrap ((BitVec.ofInt 64 (a : Int) ||| BitVec.ofInt 64 (b : Int)).toNat : Int) = _
  rw [BitVec.toNat_or, ofInt_u64 a (by omega), ofInt_u64 b (by omega)]
  exact IntWalk.i64_in _ (by omega)
set_option linter.unusedSimpArgs false in
set_option maxRecDepth 100000 in
/-- 'append(nil, make([]T, n)...)' -/
theorem run_append_zeros_nil {P : Program} (w : World) (t ti ty e : TypeId) (k : IntKind) (i : TypeInfo) (z : Value) (ht : P.underlying t = some (.slice e)) (hti : P.underlying ti = some (.int k)) (hi : P.info? e = some i) (hz : i.zero = some z) (hzs : z.cells.size = i.size)
    (n : Nat) (h0 : 0 < n) (h63 : n ≤ maxLen) (h48 : n * i.bytes ≤ 281474976710656) (hsz : 0 < i.size) :
    ∃ cur : Array Value, (Builtin.append_ #[t, ti] ty #[.slice none 0 0, .int .i64 n]).run P w = .ok (.slice (some ⟨w.heap.size, 0, none⟩) n (grownCap w n 0 e)) (w.drew.alloc (.cells cur e)) ∧ cur.size = grownCap w n 0 e * i.size := by
  have hn : n ≠ 0 := by omega
  have h63b : n ≤ 9223372036854775807 := by simp only [maxLen] at h63; omega
  have h63' : ¬ (9223372036854775807 < (n : Int)) := by omega
  have h48' : ¬ (281474976710656 < Builtin.nextslicecap n 0 * i.bytes) := by rw [nextslicecap_zero h0]; omega
  have hw : IntKind.i64.wrap (n : Int) = (n : Int) := IntWalk.i64_in _ (by omega)
  have hneg : ¬ ((n : Int) < 0) := by omega
  have hbb : ¬ (281474976710656 < (n : Int) * (i.bytes : Int)) := by
    have h := Int.ofNat_le.2 h48
    rw [Int.natCast_mul] at h
    exact Int.not_lt.2 h
  have hns : ¬ (n = 0 ∨ i.size = 0) := by omega
  have hge := grownCap_ge w n 0 e
  refine ⟨Builtin.zeroCells z.cells n ++ Builtin.zeroCells z.cells (grownCap w n 0 e - n), ?_, ?_⟩
  · simp [Builtin.append_, run_underlying ht, run_underlying hti, sizeOf, typeInfo, zeroValue, hi, hz, hn, h63', h48', hw, hneg, hbb, asInt, asIntOf, Question.forced, run_firstCells_none, newRow, grownCap, Nat.mul_eq_zero, hns]
    intro h; omega
  · rw [Array.size_append, size_zeroCells, size_zeroCells, hzs, ← Nat.add_mul]
    congr 1
    omega
theorem wpList_append_zeros {P : Program} {w : World} {ops : Array Oper} {rest : List Oper} {o : Oper} {a : Act} {Q : Exit → Act → World → Prop} (hgd : o.guard = none) (s x : Operand) (t ti : TypeId)
    (ho : o.op = .call { callee := .builtin .append, args := #[s, x], argTypes := #[t, ti] }) (e : TypeId) (k : IntKind) (i : TypeInfo) (z : Value)
    (ht : P.underlying t = some (.slice e)) (hti : P.underlying ti = some (.int k)) (hi : P.info? e = some i) (hz : i.zero = some z) (hzs : z.cells.size = i.size) (hsz : 0 < i.size)
    (hs : a.eval s = .slice none 0 0) (n : Nat) (hx : a.eval x = .int .i64 n) (h0 : 0 < n) (h63 : n ≤ maxLen) (h48 : n * i.bytes ≤ 281474976710656)
    (h : ∀ c cur, n ≤ c → c ≤ maxLen → cur.size = c * i.size → wpList P ops Q rest (a.put o.dst (.slice (some ⟨w.heap.size, 0, none⟩) n c)) (w.drew.alloc (.cells cur e))) : wpList P ops Q (o :: rest) a w :=
  wpList_plain hgd fun _ hK => by
    obtain ⟨cur, hr, hc⟩ := run_append_zeros_nil w t ti o.type e k i z ht hti hi hz hzs n h0 h63 h48 hsz
    unfold Oper.wp execOp
    simp only [ho, resolve, invoke, builtin, Sem.run_bind, Sem.run_pure, Result.andThen_ok, List.map_toArray, List.map_cons, List.map_nil, hs, hx, hr]
    exact hK _ _ (h _ cur (grownCap_ge w n 0 e) (grownCap_le_maxLen w n 0 e h63) hc)
/-- a slice of bytes that lies in blocks of F -/
def Byts (w : World) (F : Nat → Prop) (v : Value) (bs : List Nat) : Prop := ∃ A c, v = .slice A bs.length c ∧ Arr w F A bs.length (fun i => bV (bs.getD i 0)) ∧ (A = none → bs.length = 0 ∧ c = 0) ∧ (∀ x ∈ bs, x < 256) ∧ bs.length ≤ 140737488355328
/-- a slice of slices of bytes -/
def Lists (w : World) (F : Nat → Prop) (A : Option Addr) (L : List (List Nat)) : Prop := ∃ vs : Nat → Value, Arr w F A L.length vs ∧ ∀ i, i < L.length → Byts w F (vs i) (L.getD i [])
theorem flat_take (L : List (List Nat)) (i : Nat) (h : i < L.length) : (L.take (i + 1)).flatten = (L.take i).flatten ++ L.getD i [] := by
  rw [List.take_add_one, List.getElem?_eq_getElem h, Option.toList_some, List.flatten_append]
  simp [List.getD_eq_getElem?_getD, List.getElem?_eq_getElem h]
theorem flat_len_le (L : List (List Nat)) (k : Nat) : (L.take k).flatten.length ≤ L.flatten.length := by
  conv => rhs; rw [← List.take_append_drop k L, List.flatten_append, List.length_append]
  omega
set_option maxRecDepth 100000 in
set_option maxHeartbeats 1000000 in
theorem Grow_nil (n : Nat) (w : World) (hn : n ≤ 140737488355328) :
    Calls Try.prog 70 #[.slice none 0 0, .int .i64 n] w fun e w' => ∃ A c, e = .returned (.slice A 0 c) ∧ w'.ownsRow w.heap.size 5 1 (.slice A 0 c) 0 [] ∧ New w w' := by
  obtain ⟨i0, hi, hz0, hz1, hz2⟩ := info_parts Try.info5
  rcases Nat.eq_zero_or_pos n with rfl | h0
  · go_enter Try.func70, Try.ntmps70
    go_wp2
    go_ret
    exact ⟨none, 0, rfl, World.ownsRow_nil _ _ _ _, Chg.refl _ _⟩
  · have h1 : decide ((0 : Int) < n) = true := by simp only [decide_eq_true_eq]; omega
    go_enter Try.func70, Try.ntmps70
    go_wp2_with (first | (at_builtin; refine wpList_append_zeros rfl _ _ 22 3 rfl 5 .i64 i0 (.int .u8 0) Try.underlying22 Try.underlying3 hi hz0 (by rw [hz1]; rfl) (by rw [hz1]; decide) rfl n rfl h0 (by simp only [maxLen]; omega) (by rw [hz2]; omega) ?_; intro c cur hnc hcm hcs; have Hcs := Lib.hid hcs; clear hcs) | go_in)
    go_ret
    refine ⟨_, c, rfl, World.ownsRow_made (base := w.heap.size) (e := 5) (size := 1) w cur c (Nat.le_refl _) hcm (by rw [Hcs.out, hz1]), ((Chg.refl _ _).alloc _).drew⟩
set_option maxRecDepth 100000 in
set_option maxHeartbeats 1000000 in
theorem Concat_any (A : Option Addr) (n c : Nat) (F : Nat → Prop) (L : List (List Nat)) (w : World) (hA : Lists w F A L) (hF : ∀ k, F k → k < w.heap.size) (hn : L.length = n) (hb : n ≤ 1000) (hT : L.flatten.length ≤ 140737488355328) :
    Calls Try.prog 42 #[.slice A n c] w fun e w' => ∃ A' m c', e = .returned (.slice A' m c') ∧ m = L.flatten.length ∧ w'.ownsRow w.heap.size 5 1 (.slice A' m c') m (L.flatten.map bV) ∧ New w w' := by
  obtain ⟨i0, hi, hz0, hz1, hz2⟩ := info_parts Try.info5
  obtain ⟨vs, hV, hB⟩ := hA
  rw [hn] at hV hB
  have HV := Lib.hid hV; clear hV
  have HB := Lib.hid hB; clear hB
  have Hn := Lib.hid hn; clear hn
  have HF := Lib.hid hF; clear hF
  have HT := Lib.hid hT; clear hT
  go_enter Try.func42, Try.ntmps42
  go_wp2_with fail
  go_loopg [3, 11] n (fun gk a i wr => ∃ k : Nat, k ≤ n ∧ gk = n - k ∧ a = .int .i64 ((L.take k).flatten.length : Nat) ∧ i = .int .i64 k ∧ w = wr)
  case atStart => exact ⟨0, by omega, by omega, rfl, rfl, rfl⟩
  case round =>
    obtain ⟨k, hk, rfl, rfl, rfl, rfl⟩ := hrel
    by_cases hlt : k < n
    · obtain ⟨a, rfl, _, hc⟩ := HV.out k hlt
      obtain ⟨B, cb, hve, hBA, _, h256, hbb⟩ := HB.out k hlt
      rw [hve] at hc
      have HFl : Hid ((L.take (k + 1)).flatten.length = (L.take k).flatten.length + (L.getD k []).length) := by
        rw [Hid, flat_take L k (by rw [Hn.out]; exact hlt), List.length_append]
      have hle : (L.take (k + 1)).flatten.length ≤ 140737488355328 := Nat.le_trans (flat_len_le L (k + 1)) HT.out
      rw [HFl.out] at hle
      obtain ⟨m, hm⟩ : ∃ m, m = (L.getD k []).length := ⟨_, rfl⟩
      obtain ⟨q, hq⟩ : ∃ q, q = (L.take k).flatten.length := ⟨_, rfl⟩
      rw [← hm] at hc HFl hle
      rw [← hq] at HFl hle ⊢
      clear hm hq hbb h256 hBA hve
      go_wp2
      go_roundg (n - (k + 1))
      case measure => omega
      case rel => exact ⟨k + 1, by omega, rfl, by rw [HFl.out]; go_num, by go_num, rfl⟩
    · obtain rfl : k = n := by omega
      have hall : L.take k = L := List.take_of_length_le (by rw [Hn.out]; omega)
      rw [hall]
      clear hall
      have hT := HT.out
      obtain ⟨T, hTe⟩ : ∃ T, T = L.flatten.length := ⟨_, rfl⟩
      rw [← hTe] at hT ⊢
      have HTe := Lib.hid hTe; clear hTe
      go_wp2_with fail
      with_reducible refine (Grow_nil T w hT).mono ?_
      rintro e w1 ⟨A1, c1, rfl, hO1, hN1⟩
      have HO1 := Lib.hid hO1; clear hO1
      have HN1 := Lib.hid hN1; clear hN1
      go_wp2_with fail
      go_loopg [6, 27] k (fun gk a i wy => ∃ (j : Nat) (A2 : Option Addr) (m c2 : Nat), j ≤ k ∧ gk = k - j ∧ a = .slice A2 m c2 ∧ m = (L.take j).flatten.length ∧ i = .int .i64 j ∧ wy.ownsRow w.heap.size 5 1 (.slice A2 m c2) m ((L.take j).flatten.map bV) ∧ New w wy)
      case atStart => exact ⟨0, _, 0, _, by omega, by omega, rfl, rfl, rfl, HO1.out, HN1.out⟩
      case round =>
        obtain ⟨j, A2, m, c2, hj, rfl, rfl, hm, rfl, hO, hN⟩ := hrel
        by_cases hlt : j < k
        · obtain ⟨a, rfl, hab, hc⟩ := HV.out.new hN HF.out j hlt
          obtain ⟨B, cb, hve, hBA, hnil, h256, hbb⟩ := HB.out j hlt
          rw [hve] at hc
          have HFl : Hid ((L.take (j + 1)).flatten = (L.take j).flatten ++ L.getD j []) := flat_take L j (by rw [Hn.out]; exact hlt)
          have hle : (L.take (j + 1)).flatten.length ≤ 140737488355328 := Nat.le_trans (flat_len_le L (j + 1)) HT.out
          rw [HFl.out, List.length_append, ← hm] at hle
          obtain ⟨bs, hbs⟩ : ∃ bs, bs = L.getD j [] := ⟨_, rfl⟩
          rw [← hbs] at hc hBA h256 HFl hbb hle hnil
          clear hbs hve
          obtain ⟨p, hp⟩ : ∃ p, p = bs.length := ⟨_, rfl⟩
          rw [← hp] at hc hBA hbb hle hnil
          have Hp := Lib.hid hp; clear hp
          have HNil := Lib.hid hnil; clear hnil
          have HBA := Lib.hid (hBA.new hN HF.out); clear hBA
          have Hm := Lib.hid hm; clear hm
          have HO := Lib.hid hO; clear hO
          have HN := Lib.hid hN; clear hN
          clear h256 HO1 HN1
          go_wp2_with (first | (at_builtin; refine wpList_append_src rfl _ _ 22 rfl w.heap.size 5 i0 (.int .u8 0) 1 1 Try.underlying22 hi hz0 hz1 hz2 rfl (by decide) _ m _ rfl HO.out B p cb (bs.map bV) rfl HNil.out (by rw [List.length_map, Nat.mul_one, Hp.out]) (map_news HBA.out Hp.out.symm) (bV_one bs) (by simp only [maxLen]; omega) (by omega) HN.out.size ?_; intro A3 c3 w3 hO3 hC3 hf3; have HO3 := Lib.hid hO3; have HC3 := Lib.hid hC3; clear hO3 hC3 hf3) | go_in)
          go_roundg (k - (j + 1))
          case measure => omega
          case rel =>
            refine ⟨j + 1, A3, m + p, c3, by omega, rfl, rfl, ?_, by go_num, ?_, ?_⟩
            · rw [HFl.out, List.length_append, Hm.out, Hp.out]
            · rw [HFl.out, List.map_append]; exact HO3.out
            · exact HN.out.trans HC3.out (fun i hi hk => by have := (HO.out.lt i hk).1; omega)
        · obtain rfl : j = k := by omega
          have hall : L.take j = L := List.take_of_length_le (by rw [Hn.out]; omega)
          rw [hall] at hm hO
          have Hm := Lib.hid hm; clear hm
          have HO := Lib.hid hO; clear hO
          have HN := Lib.hid hN; clear hN
          clear hall HO1 HN1
          go_wp2
          go_ret
          exact ⟨A2, m, c2, rfl, Hm.out, HO.out, HN.out⟩
end Go.Proofs.Ytjkpijinpfimiaa
