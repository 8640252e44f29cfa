/-
  Shares in a row of the call's own; what package money's Even comes to, for every input.
-/
import Derived.Test.YtgcikobloimmnaaMonB
import Derived.Test.YtgcikobloimmnaaRowsI
namespace Go.Proofs.Ytgcikobloimmnaa
open Go.RowKit
theorem Try.info31 : (Try.prog.info? 31).map (fun i => (i.zero, i.size, i.bytes)) = some (some (.agg #[.int .i64 0, .int .i64 0]), 2, 16) := by kernel_rfl
/-- n pairs in memory, in a block of F -/
def Flds (w : World) (F : Nat → Prop) (A : Option Addr) (n : Nat) (fw fv : Nat → Int) : Prop :=
  ∀ i, i < n → ∃ a, A = some a ∧ F a.block ∧ w.cell? (a.add (i * 2)) = some (.int .i64 (fw i)) ∧ w.cell? ⟨(a.add (i * 2)).block, (a.add (i * 2)).off + 1, none⟩ = some (.int .i64 (fv i))
theorem Flds.new {w w' : World} {F : Nat → Prop} {n : Nat} {A : Option Addr} {fw fv : Nat → Int} (h : Flds w F A n fw fv) (c : New w w') (hF : ∀ k, F k → k < w.heap.size) : Flds w' F A n fw fv := fun i hi => by
  obtain ⟨a, rfl, hb, h1, h2⟩ := h i hi
  have e : (a.add (i * 2)).block < w.heap.size := by rw [add_block]; exact hF _ hb
  exact ⟨a, rfl, hb, (c.cell e fun f => f).trans h1, (c.cell (p := ⟨(a.add (i * 2)).block, _, none⟩) e fun f => f).trans h2⟩
/-- the cells of pairs, one behind the other -/
def fcells (fw fv : Nat → Int) : Nat → List Value
  | 0 => []
  | n + 1 => fcells fw fv n ++ [.int .i64 (fw n), .int .i64 (fv n)]
theorem fcells_len (fw fv : Nat → Int) (n : Nat) : (fcells fw fv n).length = n * 2 := by
  induction n with
  | zero => rfl
  | succ n ih => simp only [fcells, List.length_append, ih, List.length_cons, List.length_nil]; omega
theorem fcells_get (fw fv : Nat → Int) (n i : Nat) (h : i < n) : (fcells fw fv n)[i * 2]? = some (.int .i64 (fw i)) ∧ (fcells fw fv n)[i * 2 + 1]? = some (.int .i64 (fv i)) := by
  induction n with
  | zero => omega
  | succ n ih =>
    simp only [fcells]
    rcases Nat.lt_or_ge i n with h1 | h1
    · have := ih h1
      rw [List.getElem?_append_left (by rw [fcells_len]; omega), List.getElem?_append_left (by rw [fcells_len]; omega)]
      exact this
    · obtain rfl : i = n := by omega
      rw [List.getElem?_append_right (by rw [fcells_len]; omega), List.getElem?_append_right (by rw [fcells_len]; omega), fcells_len]
      have e1 : i * 2 - i * 2 = 0 := by omega
      have e2 : i * 2 + 1 - i * 2 = 1 := by omega
      rw [e1, e2]
      exact ⟨rfl, rfl⟩
theorem Flds.of_own {w : World} {base c : Nat} {A : Option Addr} {n : Nat} {fw fv : Nat → Int} (h : w.ownsRow base 31 2 (.slice A n c) n (fcells fw fv n)) : Flds w (fun k => Value.ownBlock (.slice A n c) = some k) A n fw fv := by
  intro i hi
  rcases h.2 with ⟨hv, hn⟩ | ⟨g, cap, cur, hv, _, hg, _⟩
  · omega
  · simp only [Value.slice.injEq] at hv
    obtain ⟨rfl, _, rfl⟩ := hv
    have hh := fcells_get fw fv n i hi
    have hadd : (⟨g, 0, none⟩ : Addr).add (i * 2) = ⟨g, i * 2, none⟩ := by unfold Addr.add; split <;> simp_all
    refine ⟨_, rfl, rfl, ?_, ?_⟩
    · rw [hadd, h.cellAt (i * 2) (by omega)]; exact hh.1
    · rw [hadd, h.cellAt (i * 2 + 1) (by omega)]; exact hh.2
/-- 'append(s, x)' of one share, s the call's own, x laid just before -/
theorem wpList_pushS {wX w0 : World} {ops : Array Oper} {rest : List Oper} {o : Oper} {a : Act} {Q : Exit → Act → World → Prop} (hgd : o.guard = none) (hN : New wX w0) (s x : Operand)
    (ho : o.op = .call { callee := .builtin .append, args := #[s, x], argTypes := #[29, 29] }) (v : Value) (n : Nat) (fw fv : Nat → Int) (hs : a.eval s = v) (hown : w0.ownsRow wX.heap.size 31 2 v n (fcells fw fv n))
    (hx : a.eval x = .slice (some ⟨w0.heap.size, 0, none⟩) 1 1) (hn : n + 1 ≤ 1048576)
    (h : ∀ A' c' w', w'.ownsRow wX.heap.size 31 2 (.slice A' (n + 1) c') (n + 1) (fcells fw fv (n + 1)) → New wX w' → wpList Try.prog ops Q rest (a.put o.dst (.slice A' (n + 1) c')) w') : wpList Try.prog ops Q (o :: rest) a (w0.alloc (.cells #[.int .i64 (fw n), .int .i64 (fv n)] 31)) := by
  obtain ⟨i0, hi, hz0, hz1, hz2⟩ := info_parts Try.info31
  refine wpList_append_one hgd s x 29 ho wX.heap.size 31 i0 (.agg #[.int .i64 0, .int .i64 0]) 2 16 Try.underlying29 hi hz0 hz1 hz2 rfl (by decide) v n _ hs hown #[.int .i64 (fw n), .int .i64 (fv n)] hx rfl (by simp [Value.oneCell']) (by simp only [maxLen]; omega) (by omega) hN.size ?_
  intro A' c' w' hO hC _
  exact h A' c' w' hO (hN.trans hC (fun i hi hk => by have := (hown.lt i hk).1; omega))
def two (s y : Int) : Nat → Int := fun i => [s, y].getD i 0
theorem acc_two {s y : Int} (hs : I64 s) : acc (two s y) 2 = if -9223372036854775808 ≤ s + y ∧ s + y ≤ 9223372036854775807 then some (s + y) else none := by
  have h1 : acc (two s y) 1 = some s := by
    have := acc_in (x := two s y) (k := 0) (s := 0) rfl (by simp only [two, List.getD_cons_zero]; obtain ⟨h0, h1⟩ := hs; omega)
    rw [this]; simp [two]
  by_cases h : -9223372036854775808 ≤ s + y ∧ s + y ≤ 9223372036854775807
  · rw [if_pos h]; exact acc_in h1 h
  · rw [if_neg h]; exact acc_out h1 h
theorem sum_two (wr : World) (o : Obj) (s y : Int) (hs : I64 s) (hy : I64 y) :
    Calls Try.prog 10 #[.slice (some ⟨wr.heap.size + 1, 0, none⟩) 2 2] ((wr.alloc o).alloc (.cells #[.int .i64 s, .int .i64 y] 3)) fun e w' => e = .returned (sumV (if -9223372036854775808 ≤ s + y ∧ s + y ≤ 9223372036854775807 then some (s + y) else none)) ∧ w' = (wr.alloc o).alloc (.cells #[.int .i64 s, .int .i64 y] 3) := by
  have hA := arr_has (xs := [s, y]) (Has.new_at (wr.alloc o) 3 #[.int .i64 s, .int .i64 y] (wr.heap.size + 1) (by simp))
  rw [← acc_two hs]
  refine Sum_any _ 2 2 _ (two s y) _ hA (by decide) (fun i hi => ?_)
  rcases (show i = 0 ∨ i = 1 by omega) with rfl | rfl
  · exact hs
  · exact hy
/-- do the numbers sum to nothing? -/
def evenB (x : Nat → Int) (n : Nat) : Bool := decide (acc x n = some 0)
set_option maxRecDepth 100000 in
set_option maxHeartbeats 2000000 in
theorem Even_any (A : Option Addr) (n c : Nat) (F : Nat → Prop) (fw x : Nat → Int) (w : World) (hA : Flds w F A n fw x) (hF : ∀ k, F k → k < w.heap.size) (hn : n ≤ 1048576) (hx : ∀ i, i < n → I64 (x i)) :
    Calls Try.prog 12 #[.slice A n c] w fun e w' => e = .returned (.bool (evenB x n)) ∧ New w w' := by
  have HA := Lib.hid hA; clear hA
  have HF := Lib.hid hF; clear hF
  have Hx := Lib.hid hx; clear hx
  go_enter Try.func12, Try.ntmps12
  go_wp2_with fail
  go_loopg [3, 9] n (fun gk a i wr => ∃ (k : Nat) (s : Int), k ≤ n ∧ gk = n - k ∧ a = .int .i64 s ∧ i = .int .i64 k ∧ acc x k = some s ∧ New w wr)
  case atStart => exact ⟨0, 0, by omega, by omega, rfl, rfl, rfl, Chg.refl _ _⟩
  case round =>
    obtain ⟨k, s, hk, rfl, rfl, rfl, hacc, hN⟩ := hrel
    have hs := acc_bound x k s hacc
    have Hacc := Lib.hid hacc; clear hacc
    by_cases hlt : k < n
    · obtain ⟨a, rfl, hab, h1, h2⟩ := HA.out.new hN HF.out k hlt
      have hy := Hx.out k hlt
      have HN := Lib.hid hN; clear hN
      obtain ⟨p, hp⟩ : ∃ p, p = fw k := ⟨_, rfl⟩
      rw [← hp] at h1
      clear hp
      by_cases hin : -9223372036854775808 ≤ s + x k ∧ s + x k ≤ 9223372036854775807
      · have Hn := Lib.hid (acc_in Hacc.out hin)
        have HO : Hid (∀ o, Calls Try.prog 10 #[.slice (some ⟨wr.heap.size + 1, 0, none⟩) 2 2] ((wr.alloc o).alloc (.cells #[.int .i64 s, .int .i64 (x k)] 3)) fun e w' => e = .returned (.tuple #[.int .i64 (s + x k), .int .i64 0]) ∧ w' = (wr.alloc o).alloc (.cells #[.int .i64 s, .int .i64 (x k)] 3)) := fun o => by
          have := sum_two wr o s (x k) hs hy
          rw [if_pos hin] at this
          exact this
        obtain ⟨y, hye⟩ : ∃ y, y = x k := ⟨_, rfl⟩
        rw [← hye] at h2 Hn HO
        clear hye hy hs hin
        go_wp2_with fail
        with_reducible refine (HO.out _).mono ?_
        rintro e w' ⟨rfl, rfl⟩
        go_wp2_with fail
        go_roundg (n - (k + 1))
        case measure => omega
        case rel => exact ⟨k + 1, s + y, by omega, rfl, rfl, by go_num, Hn.out, (HN.out.alloc _).alloc _⟩
      · have Hn := Lib.hid (acc_none (acc_out Hacc.out hin) n (by omega))
        have HO : Hid (∀ o, Calls Try.prog 10 #[.slice (some ⟨wr.heap.size + 1, 0, none⟩) 2 2] ((wr.alloc o).alloc (.cells #[.int .i64 s, .int .i64 (x k)] 3)) fun e w' => e = .returned (.tuple #[.int .i64 0, .int .i64 29]) ∧ w' = (wr.alloc o).alloc (.cells #[.int .i64 s, .int .i64 (x k)] 3)) := fun o => by
          have := sum_two wr o s (x k) hs hy
          rw [if_neg hin] at this
          exact this
        obtain ⟨y, hye⟩ : ∃ y, y = x k := ⟨_, rfl⟩
        rw [← hye] at h2 HO
        clear hye hy hs hin
        go_wp2_with fail
        with_reducible refine (HO.out _).mono ?_
        rintro e w' ⟨rfl, rfl⟩
        go_wp2_with fail
        go_ret
        exact ⟨by unfold evenB; rw [Hn.out]; rfl, (HN.out.alloc _).alloc _⟩
    · obtain rfl : k = n := by omega
      have HN := Lib.hid hN; clear hN hs
      by_cases h0 : s = 0
      · subst h0
        go_wp2_with fail
        go_ret
        exact ⟨by unfold evenB; rw [Hacc.out]; rfl, HN.out⟩
      · have h1 : (s == 0) = false := by rw [beq_eq_false_iff_ne]; exact h0
        have He : Hid (evenB x k = false) := by rw [Hid]; unfold evenB; rw [Hacc.out]; simp [h0]
        clear h0
        go_wp2_with fail
        go_ret
        exact ⟨by rw [He.out]; rfl, HN.out⟩
end Go.Proofs.Ytgcikobloimmnaa
