/-
  What (*bits.Writer).Put, Len and Bytes do, for every input within the stated bounds.
-/
import Derived.Test.YtjkpijinpfimiaaBWb
namespace Go.Proofs.Ytjkpijinpfimiaa
open Go.RowKit

/-- n fields in memory, in a block of F -/
def Flds (w : World) (F : Nat → Prop) (A : Option Addr) (n : Nat) (fw fv : Nat → Int) : Prop :=
  ∀ i, i < n → ∃ a, A = some a ∧ F a.block ∧ w.cell? (a.add (i * 2)) = some (.int .i64 (fw i)) ∧ w.cell? ⟨(a.add (i * 2)).block, (a.add (i * 2)).off + 1, none⟩ = some (.int .i64 (fv i))
theorem Flds.chg {w w' : World} {S F : Nat → Prop} {n : Nat} {A : Option Addr} {fw fv : Nat → Int} (h : Flds w F A n fw fv) (c : Chg S w w') (hF : ∀ k, F k → k < w.heap.size ∧ ¬ S k) : Flds w' F A n fw fv := fun i hi => by
  obtain ⟨a, rfl, hb, h1, h2⟩ := h i hi
  have e : (a.add (i * 2)).block < w.heap.size ∧ ¬ S (a.add (i * 2)).block := by rw [add_block]; exact hF _ hb
  exact ⟨a, rfl, hb, (c.cell e.1 e.2).trans h1, (c.cell (p := ⟨(a.add (i * 2)).block, _, none⟩) e.1 e.2).trans h2⟩
theorem WrX.trans {w wr w1 w' : World} {b : Nat} {v vr v' : Value} (h : WrX w wr b v vr) (hn : New wr w1) (h2 : WrX w1 w' b vr v') : WrX w w' b v v' := by
  obtain ⟨c1, f1⟩ := h
  obtain ⟨c2, f2⟩ := h2
  refine ⟨(c1.then_new hn).trans c2 fun i hi hk => ?_, ?_⟩
  · rcases hk with hk | hk
    · exact Or.inl hk
    · rcases f1 with f1 | f1
      · exact Or.inr (by rw [← f1]; exact hk)
      · exact absurd (f1 i hk) (by omega)
  · rcases f2 with f2 | f2
    · rcases f1 with f1 | f1
      · exact Or.inl (f2.trans f1)
      · exact Or.inr fun k hk => f1 k (by rw [← f2]; exact hk)
    · exact Or.inr fun k hk => Nat.le_trans (c1.then_new hn).size (f2 k hk)
set_option maxRecDepth 100000 in
set_option maxHeartbeats 1000000 in
theorem Put_no (b : Nat) (F : Nat → Prop) (A : Option Addr) (n c : Nat) (fw fv : Nat → Int) (w : World) (hA : Flds w F A n fw fv) (hF : ∀ k, F k → k < w.heap.size) (hn : n ≤ 140737488351232) (j : Nat) (hj : j < n) (hbad : okF (fw j) (fv j) = false) :
    Calls Try.prog 80 #[.pointer (some ⟨b, 0, none⟩), .slice A n c] w fun e w' => e = .returned (.int .i64 2) ∧ New w w' := by
  have HA := Lib.hid hA; clear hA
  have Hbad := Lib.hid hbad; clear hbad
  have HF := Lib.hid hF; clear hF
  go_enter Try.func80, Try.ntmps80
  go_wp2
  go_loopg [11] n (fun gk i wr => ∃ k : Nat, k ≤ j ∧ gk = n - k ∧ i = .int .i64 k ∧ New w wr)
  case atStart => exact ⟨0, by omega, by omega, rfl, Chg.refl _ _⟩
  case round =>
    obtain ⟨k, hk, rfl, rfl, hC⟩ := hrel
    have hlt : k < n := by omega
    obtain ⟨a, rfl, hab, h1, h2⟩ := (HA.out.chg hC (fun k hk => ⟨HF.out k hk, fun f => f⟩)) k hlt
    have HC := Lib.hid hC; clear hC
    obtain ⟨x, hx⟩ : ∃ x, x = fw k := ⟨_, rfl⟩
    obtain ⟨y, hy⟩ : ∃ y, y = fv k := ⟨_, rfl⟩
    rw [← hx] at h1
    rw [← hy] at h2
    by_cases hok : okF x y = true
    · have hkj : k < j := by
        rcases Nat.lt_or_ge k j with h | h
        · exact h
        · obtain rfl : k = j := by omega
          rw [hx, hy, Hbad.out] at hok; cases hok
      have Hx := Lib.hid hx; clear hx
      have Hy := Lib.hid hy; clear hy
      go_wp2_with (go_at_call 87; refine (right_any _ _ _).mono ?_; rintro e w' ⟨rfl, hN⟩; have HN := Lib.hid hN; clear hN)
      go_roundg (n - (k + 1))
      case measure => omega
      case rel => exact ⟨k + 1, by omega, rfl, by go_num, ((HC.out.alloc _).then_new HN.out)⟩
    · have hok : okF x y = false := by simpa using hok
      clear hx hy
      go_wp2_with (go_at_call 87; refine (right_any _ _ _).mono ?_; rintro e w' ⟨rfl, hN⟩; have HN := Lib.hid hN; clear hN)
      go_ret
      exact ⟨rfl, ((HC.out.alloc _).then_new HN.out)⟩
def fbits (fw fv : Nat → Int) : Nat → List Bool
  | 0 => []
  | n + 1 => fbits fw fv n ++ bitsOf (fw n).toNat (fv n).toNat
theorem okF_bounds {x y : Int} (h : okF x y = true) : 1 ≤ x ∧ x ≤ 32 ∧ 0 ≤ y ∧ y < 4294967296 ∧ y < 2 ^ x.toNat := by
  simp only [okF, decide_eq_true_eq] at h
  have := two_pow_le x.toNat (by omega)
  exact ⟨h.1, h.2.1, h.2.2.1, by omega, h.2.2.2⟩
theorem fbits_len (fw fv : Nat → Int) (n : Nat) (h : ∀ i, i < n → okF (fw i) (fv i) = true) : (fbits fw fv n).length ≤ 32 * n := by
  induction n with
  | zero => simp [fbits]
  | succ n ih =>
    have h1 := ih (fun i hi => h i (by omega))
    have h2 := okF_bounds (h n (by omega))
    simp only [fbits, List.length_append, bitsOf_length]; omega
set_option maxRecDepth 100000 in
set_option maxHeartbeats 1000000 in
theorem Put_ok (b : Nat) (F : Nat → Prop) (v : Value) (L : List Bool) (A : Option Addr) (n c : Nat) (fw fv : Nat → Int) (w : World) (hW : Wrt w b v L) (hA : Flds w F A n fw fv) (hF : ∀ k, F k → k < w.heap.size ∧ k ≠ b ∧ v.ownBlock ≠ some k)
    (hn : L.length + 32 * n + 32 ≤ 562949953421312) (hok : ∀ j, j < n → okF (fw j) (fv j) = true) :
    Calls Try.prog 80 #[.pointer (some ⟨b, 0, none⟩), .slice A n c] w fun e w' => e = .returned (.int .i64 0) ∧ ∃ v', Wrt w' b v' (L ++ fbits fw fv n) ∧ WrX w w' b v v' := by
  have HA := Lib.hid hA; clear hA
  have Hok := Lib.hid hok; clear hok
  have HW := Lib.hid hW; clear hW
  have HF := Lib.hid hF; clear hF
  go_enter Try.func80, Try.ntmps80
  go_wp2
  go_loopg [4, 11] n (fun gk r i wr => ∃ k : Nat, k ≤ n ∧ gk = n - k ∧ r = .int .i64 0 ∧ i = .int .i64 k ∧ New w wr)
  case atStart => exact ⟨0, by omega, by omega, rfl, rfl, Chg.refl _ _⟩
  case round =>
    obtain ⟨k, hk, rfl, rfl, rfl, hC⟩ := hrel
    by_cases hlt : k < n
    · obtain ⟨a, rfl, hab, h1, h2⟩ := (HA.out.chg hC (fun k hk => ⟨(HF.out k hk).1, fun f => f⟩)) k hlt
      have HC := Lib.hid hC; clear hC
      have hok := Hok.out k hlt
      obtain ⟨x, hx⟩ : ∃ x, x = fw k := ⟨_, rfl⟩
      obtain ⟨y, hy⟩ : ∃ y, y = fv k := ⟨_, rfl⟩
      rw [← hx] at h1 hok
      rw [← hy] at h2 hok
      clear hx hy
      go_wp2_with (go_at_call 87; refine (right_any _ _ _).mono ?_; rintro e w' ⟨rfl, hN⟩; have HN := Lib.hid hN; clear hN)
      go_roundg (n - (k + 1))
      case measure => omega
      case rel => exact ⟨k + 1, by omega, rfl, rfl, by go_num, ((HC.out.alloc _).then_new HN.out)⟩
    · have HC := Lib.hid hC; clear hC
      go_wp2
      go_loopg [21] n (fun gk i wr => ∃ (k : Nat) (vr : Value), k ≤ n ∧ gk = n - k ∧ i = .int .i64 k ∧ Wrt wr b vr (L ++ fbits fw fv k) ∧ WrX w wr b v vr)
      case atStart => exact ⟨0, v, by omega, by omega, rfl, by rw [fbits, List.append_nil]; exact HW.out.chg HC.out (fun f => f) (fun _ _ f => f), HC.out.of_new, Or.inl rfl⟩
      case round =>
        clear hk HC hlt
        obtain ⟨k, vr, hk, rfl, rfl, hW', hX⟩ := hrel
        by_cases hlt : k < n
        · obtain ⟨a, rfl, hab, h1, h2⟩ := (HA.out.chg hX.1 (fun i hi => ⟨(HF.out i hi).1, fun e => by
            rcases e with e | e
            · exact (HF.out i hi).2.1 e
            · exact (HF.out i hi).2.2 e⟩)) k hlt
          have hok := Hok.out k hlt
          have hfl := fbits_len fw fv k (fun i hi => Hok.out i (by omega))
          obtain ⟨x, hx⟩ : ∃ x, x = fw k := ⟨_, rfl⟩
          obtain ⟨y, hy⟩ : ∃ y, y = fv k := ⟨_, rfl⟩
          rw [← hx] at h1 hok
          rw [← hy] at h2 hok
          obtain ⟨b1, b2, b3, b4, b5⟩ := okF_bounds hok
          obtain ⟨xn, rfl⟩ : ∃ xn : Nat, x = (xn : Int) := ⟨x.toNat, by omega⟩
          obtain ⟨yn, rfl⟩ : ∃ yn : Nat, y = (yn : Int) := ⟨y.toNat, by omega⟩
          have Hx := Lib.hid hx; clear hx
          have Hy := Lib.hid hy; clear hy
          have HW' := Lib.hid hW'; clear hW'
          have HX := Lib.hid hX; clear hX
          clear hok b5 b3
          have hP := fun wy (c : Chg (fun _ => False) wr wy) => put_any b vr (L ++ fbits fw fv k) xn yn wy (HW'.out.chg c (fun f => f) (fun _ _ f => f)) (by omega) (by omega) (by omega) (by rw [List.length_append]; omega)
          have HP := Lib.hid hP; clear hP
          go_wp2_with (go_at_call 88; refine (HP.out _ ((Chg.refl _ _).alloc _)).mono ?_; rintro e w' ⟨rfl, v', hW2, hX2⟩; have HW2 := Lib.hid hW2; have HX2 := Lib.hid hX2; clear hW2 hX2)
          go_roundg (n - (k + 1))
          case measure => omega
          case rel =>
            refine ⟨k + 1, v', by omega, rfl, by go_num, ?_, ?_⟩
            · rw [fbits, ← Hx.out, ← Hy.out, ← List.append_assoc]; exact HW2.out
            · exact HX.out.trans ((Chg.refl _ _).alloc _) HX2.out
        · obtain rfl : k = n := by omega
          have HW' := Lib.hid hW'; clear hW'
          have HX := Lib.hid hX; clear hX
          go_wp2
          go_ret
          exact ⟨rfl, vr, HW'.out, HX.out⟩
theorem range_getD {α : Type} (l : List α) (d : α) : (List.range l.length).map (fun i => l.getD i d) = l := by
  apply List.ext_getElem?
  intro i
  by_cases hi : i < l.length
  · simp [hi]
  · rw [List.getElem?_eq_none (by simp; omega), List.getElem?_eq_none (by omega)]
theorem getD_mem {α : Type} (l : List α) (d : α) {i : Nat} (h : i < l.length) : l.getD i d ∈ l := by
  simp [List.getD_eq_getElem?_getD, List.getElem?_eq_getElem h]
set_option maxRecDepth 100000 in
set_option maxHeartbeats 400000 in
/-- the bytes of a writer, in new memory -/
theorem Bytes_any (b : Nat) (v : Value) (L : List Bool) (w : World) (h : Wrt w b v L) (hL : L.length + 7 ≤ 562949953421312) :
    Calls Try.prog 82 #[.pointer (some ⟨b, 0, none⟩)] w fun e w' => ∃ A' c', e = .returned (.slice A' (pack L).length c') ∧ w'.ownsRow w.heap.size 5 1 (.slice A' (pack L).length c') (pack L).length ((pack L).map bV) ∧ New w w' := by
  obtain ⟨hH, hO⟩ := h
  obtain ⟨A, c, rfl, hnil⟩ := own_form hO
  have hml : (pack L).length ≤ 140737488351232 := by simp; omega
  obtain ⟨m, hm⟩ : ∃ m, m = (pack L).length := ⟨_, rfl⟩
  have hxl : ((pack L).map bV).length = m := by rw [List.length_map, hm]
  have h1 : ∀ x ∈ (pack L).map bV, x.oneCell' = true := by intro x hx; rw [List.mem_map] at hx; obtain ⟨y, _, rfl⟩ := hx; rfl
  rw [← hm] at hH hO hnil hml ⊢
  clear hm
  have hc0 := hH.cell 0
  simp at hc0
  have hcl := clone_any A m c _ (fun i => ((pack L).map bV).getD i undef) w (Arr.of_own hO) hnil (fun i hi => h1 _ (getD_mem _ _ (by omega))) (by omega)
  rw [← hxl, range_getD, hxl] at hcl
  clear hH hO hnil h1 hxl
  have HC := Lib.hid hcl; clear hcl
  go_enter Try.func82, Try.ntmps82
  go_wp2_with (go_at_call 47; refine HC.out.mono ?_; rintro e w' ⟨A', c', rfl, ho, hn⟩; have HO := Lib.hid ho; have HN := Lib.hid hn; clear ho hn)
  go_ret
  exact ⟨_, _, rfl, HO.out, HN.out⟩
end Go.Proofs.Ytjkpijinpfimiaa
