import Derived.Test.YtkcokcanakljnaaPush
import Derived.Test.YtkcokcanakljnaaTlvA
namespace Go.Proofs.Ytkcokcanakljnaa
open Go.RowKit
/-- what an element's beginning says: an error, or its content -/
def headV (lv last : Nat) : List Nat → Nat ⊕ List Nat
  | [] => .inr []
  | t :: r => if lv = 0 then .inl 15 else if t ≤ last then .inl 12 else match r with
    | [] => .inl 10
    | m :: x => if x.length < m then .inl 10 else .inr (x.take m)
def HeadR (w : World) (F : Nat → Prop) (o : Nat ⊕ List Nat) (e : Ending) : Prop := match o with
  | .inl z => e = .returned (.tuple #[.slice none 0 0, .int .i64 z])
  | .inr x => ∃ A c, e = .returned (.tuple #[.slice A x.length c, .int .i64 0]) ∧ Byts w F (.slice A x.length c) x ∧ x.length ≤ c ∧ c ≤ maxLen
theorem Byts.cut {w : World} {F : Nat → Prop} {a : Addr} {n c : Nat} {bs : List Nat} (h : Byts w F (.slice (some a) n c) bs) (j k c' : Nat) (hj : j + k ≤ n) : Byts w F (.slice (some (a.add j)) k c') ((bs.drop j).take k) := by
  obtain ⟨A, cc, he, hA, _, h256, hb⟩ := h
  simp only [Value.slice.injEq] at he
  obtain ⟨rfl, rfl, rfl⟩ := he
  have hl : ((bs.drop j).take k).length = k := by simp; omega
  refine ⟨some (a.add j), c', by rw [hl], ?_, (fun h => by cases h), fun x hx => h256 x (List.mem_of_mem_drop (List.mem_of_mem_take hx)), by omega⟩
  rw [hl]
  intro i hi
  obtain ⟨a', ha, hF, hc⟩ := hA (j + i) (by omega)
  simp only [Option.some.injEq] at ha
  subst ha
  refine ⟨_, rfl, by rw [add_block]; exact hF, ?_⟩
  rw [Deep.add_add, hc]
  show some (bV _) = some (bV _)
  rw [List.getD_eq_getElem?_getD, List.getD_eq_getElem?_getD, List.getElem?_take, if_pos hi, List.getElem?_drop]
theorem Byts.none {w : World} {F : Nat → Prop} (a : Addr) (c : Nat) : Byts w F (.slice (some a) 0 c) [] :=
  ⟨some a, c, rfl, fun i hi => by simp at hi, (fun h => by cases h), by simp, by simp⟩
theorem Byts.at {w : World} {F : Nat → Prop} {A : Option Addr} {n c i x : Nat} {bs : List Nat} (h : Byts w F (.slice A n c) bs) (hx : bs[i]? = some x) : ∃ a, A = some a ∧ F a.block ∧ w.cell? (a.add i) = some (.int .u8 (x : Int)) ∧ x < 256 := by
  obtain ⟨A', cc, he, hA, _, h256, hb⟩ := h
  simp only [Value.slice.injEq] at he
  obtain ⟨rfl, rfl, rfl⟩ := he
  have hi : i < bs.length := by
    rcases Nat.lt_or_ge i bs.length with h | h
    · exact h
    · rw [List.getElem?_eq_none h] at hx; cases hx
  obtain ⟨a, ha, hF, hc⟩ := hA i hi
  refine ⟨a, ha, hF, ?_, h256 x (List.mem_of_getElem? hx)⟩
  rw [hc]
  show some (bV _) = _
  simp [bV, List.getD_eq_getElem?_getD, hx]
theorem Byts.len {w : World} {F : Nat → Prop} {A : Option Addr} {n c : Nat} {bs : List Nat} (h : Byts w F (.slice A n c) bs) : bs.length = n ∧ n ≤ 140737488355328 ∧ (∀ x ∈ bs, x < 256) := by
  obtain ⟨A', cc, he, hA, _, h256, hb⟩ := h
  simp only [Value.slice.injEq] at he
  obtain ⟨rfl, rfl, rfl⟩ := he
  exact ⟨rfl, hb, h256⟩
set_option maxRecDepth 100000 in
set_option maxHeartbeats 2000000 in
theorem head_any (t : Nat) (r : List Nat) (n c l lv : Nat) (A : Option Addr) (w : World) (F : Nat → Prop) (hB : Byts w F (.slice A n c) (t :: r)) (hc : n ≤ c) (hcm : c ≤ maxLen) (hlv2 : lv ≤ 4) (_hl : l ≤ 255) :
    Calls Try.prog 94 #[.slice A n c, .int .i64 l, .int .i64 lv] w fun e w' => HeadR w F (headV lv l (t :: r)) e ∧ w' = w := by
  obtain ⟨a, rfl, _, h0, ht⟩ := hB.at (i := 0) (x := t) rfl
  rw [show a.add 0 = a from rfl] at h0
  obtain ⟨hlen, hb, _⟩ := hB.len
  simp only [List.length_cons] at hlen
  have hn1 : 0 < n := by omega
  rcases Nat.eq_zero_or_pos lv with h4 | h4
  · subst h4
    clear hB hlen
    go_enter Try.func94, Try.ntmps94
    go_wp2_with fail
    go_ret2
    refine ⟨?_, rfl⟩
    simp only [headV, if_pos]; rfl
  have h4' : ¬ lv = 0 := by omega
  have H4 := Lib.hid h4'; clear h4'
  rcases Nat.lt_or_ge l t with h5 | h5
  · have H5 : Hid (¬ t ≤ l) := by rw [Hid]; omega
    cases r with
    | nil =>
      have hn2 : n < 2 := by simp only [List.length_nil] at hlen; omega
      clear hB hlen
      go_enter Try.func94, Try.ntmps94
      go_wp2_with fail
      go_ret2
      refine ⟨?_, rfl⟩
      simp only [headV, if_neg H4.out, if_neg H5.out]; rfl
    | cons m x =>
      obtain ⟨a', ha, _, h1, hm⟩ := hB.at (i := 1) (x := m) rfl
      simp only [Option.some.injEq] at ha
      subst ha
      have h1' : w.cell? ⟨a.block, a.off + 1, none⟩ = some (.int .u8 (m : Int)) := h1
      clear h1
      simp only [List.length_cons] at hlen
      obtain ⟨xl, hxl⟩ : ∃ xl, xl = x.length := ⟨_, rfl⟩
      have Hxl := Lib.hid hxl
      rw [← hxl] at hlen
      clear hxl
      have hn3 : n - 2 = xl := by omega
      have hn4 : n = xl + 2 := by omega
      subst hn4
      clear hlen hn3
      rcases Nat.lt_or_ge xl m with h6 | h6
      · have H6 : Hid (x.length < m) := by rw [Hid, ← Hxl.out]; exact h6
        clear hB
        go_enter Try.func94, Try.ntmps94
        go_wp2_with fail
        go_ret2
        refine ⟨?_, rfl⟩
        simp only [headV, if_neg H4.out, if_neg H5.out, if_pos H6.out]; rfl
      · have H6 : Hid (¬ x.length < m) := by rw [Hid, ← Hxl.out]; omega
        have hR : HeadR w F (.inr (x.take m)) (.returned (.tuple #[.slice (some (a.add 2)) m (c - 2), .int .i64 0])) := by
          have hl : (x.take m).length = m := by simp [← Hxl.out]; omega
          refine ⟨some (a.add 2), c - 2, by rw [hl], ?_, by rw [hl]; omega, by omega⟩
          rw [hl]
          exact hB.cut 2 m (c - 2) (by omega)
        have hR2 : c = 2 → HeadR w F (.inr (x.take m)) (.returned (.tuple #[.slice (some a) m 0, .int .i64 0])) := by
          intro hc2
          obtain rfl : m = 0 := by omega
          exact ⟨some a, 0, rfl, Byts.none _ _, by simp, by decide⟩
        have HR := Lib.hid hR; clear hR
        have HR2 := Lib.hid hR2; clear hR2
        clear hB
        go_enter Try.func94, Try.ntmps94
        go_wp2_with fail
        all_goals
          go_ret2
          refine ⟨?_, rfl⟩
          simp only [headV, if_neg H4.out, if_neg H5.out, if_neg H6.out]
          first | exact HR.out | exact HR2.out (by omega)
  · have H5 : Hid (t ≤ l) := h5
    clear hB hlen
    go_enter Try.func94, Try.ntmps94
    go_wp2_with fail
    go_ret2
    refine ⟨?_, rfl⟩
    simp only [headV, if_neg H4.out, if_pos H5.out]; rfl
end Go.Proofs.Ytkcokcanakljnaa
