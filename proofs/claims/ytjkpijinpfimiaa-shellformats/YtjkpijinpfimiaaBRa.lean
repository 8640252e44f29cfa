/-
  What bits.rightWidth, mask, Left, check, slices.Clone, bits.Read and number do, for every input within the stated bounds.
-/
import Derived.Test.YtjkpijinpfimiaaRows
import Derived.Test.YtjkpijinpfimiaaCardC
import Derived.Test.YtjkpijinpfimiaaBits
import Derived.WalkKit
import Derived.WalkSpells
import Derived.WalkLawsBesides
import Derived.BigQuiet
import Derived.Deep.QuietTactic
import Derived.Lib.Hide
namespace Go.Proofs.Ytjkpijinpfimiaa
open Go.RowKit

def rw (n : Int) : Bool := decide (1 ≤ n ∧ n ≤ 32)

set_option maxRecDepth 100000 in
set_option maxHeartbeats 400000 in
theorem rightWidth_any (n : Int) (w : World) :
    Calls Try.prog 84 #[.int .i64 n] w fun e w' => e = .returned (.bool (rw n)) ∧ w = w' := by
  by_cases h1 : 1 ≤ n <;> by_cases h2 : n ≤ 32
  all_goals
    go_enter Try.func84, Try.ntmps84
    go_wp2
    go_ret
    refine ⟨?_, rfl⟩
    simp [rw, h1, h2]

set_option maxRecDepth 100000 in
set_option maxHeartbeats 400000 in
theorem mask_any (n : Nat) (w : World) (hn : n ≤ 9223372036854775807) :
    Calls Try.prog 86 #[.int .i64 n] w fun e w' => e = .returned (.int .u8 ((128 / 2 ^ (n % 8) : Nat) : Int)) ∧ w' = w := by
  have e1 := mask_cast n
  have He := Lib.hid e1; clear e1
  go_enter Try.func86, Try.ntmps86
  go_wp2
  go_ret
  refine ⟨?_, rfl⟩
  rw [← He.out]; rfl
set_option maxRecDepth 100000 in
set_option maxHeartbeats 400000 in
theorem left_any (b : Nat) (a : Option Addr) (len cap : Nat) (n e : Int) (w : World) (hl : len ≤ 1152921504606846975) (hn : 0 ≤ n) (hn2 : n ≤ 8 * len) 
   (h : w.heap[b]? = some (.cells #[.slice a len cap, .int .i64 n, .int .i64 e] 126 (0,0))) :
    Calls Try.prog 85 #[.pointer (some ⟨b, 0, none⟩)] w fun e w' => e = .returned (.int .i64 (8 * len - n)) ∧ ∃ k, w' = w.drewN k := by
  have hc : w.cell? ⟨b, 1, none⟩ = some (.int .i64 n) := by simp [World.cell?, h]
  have hc0 : w.cell? ⟨b, 0, none⟩ = some (.slice a len cap) := by simp [World.cell?, h]
  clear h
  have e1 : IntKind.i64.wrap (8 * len) = 8 * len := IntWalk.i64_in _ (by omega)
  have e2 : IntKind.i64.wrap (8 * len - n) = 8 * len - n := IntWalk.i64_in _ (by omega)
  go_enter Try.func85, Try.ntmps85
  go_wp2
  go_quiet (fail)
  go_wp2
  go_ret
  exact ⟨rfl, _, rfl⟩
def sumTo (f : Nat → Int) : Nat → Int
  | 0 => 0
  | n + 1 => sumTo f n + f n
/-- what check answers: 2 for a wrong width, 10 if they are too many, 0 -/
def chk (f : Nat → Int) (n : Nat) (left : Int) : Int :=
  if ∃ i, i < n ∧ ¬ (1 ≤ f i ∧ f i ≤ 32) then 2 else if left < sumTo f n then 10 else 0
theorem sumTo_le (f : Nat → Int) (n : Nat) (h : ∀ i, i < n → 1 ≤ f i ∧ f i ≤ 32) : n ≤ sumTo f n ∧ sumTo f n ≤ 32 * n := by
  induction n with
  | zero => simp [sumTo]
  | succ n ih =>
    have h1 := ih (fun i hi => h i (by omega))
    have h2 := h n (by omega)
    simp only [sumTo]; omega
open Classical in
set_option maxRecDepth 100000 in
set_option maxHeartbeats 400000 in
theorem check_any (b : Nat) (a : Option Addr) (len cap : Nat) (at_ e : Int) (w : World) (hl : len ≤ 1152921504606846975) (hn : 0 ≤ at_) (hn2 : at_ ≤ 8 * len) 
   (h : w.heap[b]? = some (.cells #[.slice a len cap, .int .i64 at_, .int .i64 e] 126 (0,0)))
   (A : Option Addr) (n c : Nat) (f : Nat → Int) (hnb : n ≤ 35184372088832) (hf : ∀ i, i < n → ∃ ad, A = some ad ∧ w.cell? (ad.add i) = some (.int .i64 (f i))) :
    Calls Try.prog 76 #[.pointer (some ⟨b, 0, none⟩), .slice A n c] w fun e w' => e = .returned (.int .i64 (chk f n (8 * len - at_))) ∧ ∃ k, w' = w.drewN k := by
  go_enter Try.func76, Try.ntmps76
  go_wp2
  go_loop [5, 10] (fun s i => ∃ k : Nat, k ≤ n ∧ i = .int .i64 k ∧ s = .int .i64 (sumTo f k) ∧ (∀ j, j < k → 1 ≤ f j ∧ f j ≤ 32)) (fun _ i => n - (intOf i).toNat)
  case atStart => exact ⟨0, Nat.zero_le _, rfl, rfl, fun j hj => absurd hj (by omega)⟩
  case round =>
    obtain ⟨k, hk, rfl, rfl, hall⟩ := hrel
    have hs := sumTo_le f k hall
    by_cases hlt : k < n
    · obtain ⟨ad, rfl, hc⟩ := hf k hlt
      have H := Lib.hid hall; clear hall
      have Hf := Lib.hid hf; clear hf
      have Hh := Lib.hid h; clear h
      by_cases hr : 1 ≤ f k ∧ f k ≤ 32
      · have hrw : rw (f k) = true := by simp [rw, hr]
        obtain ⟨hr1, hr2⟩ := hr
        go_wp2_with (go_at_call 84; refine (rightWidth_any _ _).mono ?_; rintro e w' ⟨rfl, rfl⟩)
        go_round
        case rel => exact ⟨k + 1, by omega, by go_num, rfl, fun j hj => by
          rcases Nat.lt_succ_iff_lt_or_eq.1 hj with h1 | rfl
          · exact H.out j h1
          · exact ⟨hr1, hr2⟩⟩
        case measure => simp [intOf]; omega
      · have hrw : rw (f k) = false := by simp only [rw, hr, decide_false]
        have HR := Lib.hid hr; clear hr
        go_wp2_with (go_at_call 84; refine (rightWidth_any _ _).mono ?_; rintro e w' ⟨rfl, rfl⟩)
        go_ret
        refine ⟨?_, 0, rfl⟩
        have : chk f n (8 * len - at_) = 2 := by unfold chk; rw [if_pos ⟨k, hlt, HR.out⟩]
        rw [this]; rfl
    · obtain rfl : k = n := by omega
      have H := Lib.hid hall; clear hall
      have Hf := Lib.hid hf; clear hf
      have Hh := Lib.hid h; clear h
      by_cases hgt : 8 * (len : Int) - at_ < sumTo f k
      all_goals
        go_wp2_with (go_at_call 85; refine (left_any b a len cap at_ e _ hl hn hn2 Hh.out).mono ?_; rintro e w' ⟨rfl, kk, rfl⟩)
        go_ret
        refine ⟨?_, _, rfl⟩
      · have : chk f k (8 * len - at_) = 10 := by
          unfold chk; rw [if_neg, if_pos hgt]
          rintro ⟨i, hi, hb⟩; exact hb (H.out i hi)
        rw [this]; rfl
      · have : chk f k (8 * len - at_) = 0 := by
          unfold chk; rw [if_neg, if_neg (by omega)]
          rintro ⟨i, hi, hb⟩; exact hb (H.out i hi)
        rw [this]; rfl
set_option maxRecDepth 100000 in
set_option maxHeartbeats 400000 in
theorem read_any (A : Option Addr) (n c : Nat) (F : Nat → Prop) (f : Nat → Value) (w : World) (hA : Arr w F A n f) (hn : A = none → n = 0 ∧ c = 0) (h1 : ∀ i, i < n → (f i).oneCell' = true) (hb : n ≤ 140737488351232) :
    Calls Try.prog 63 #[.slice A n c] w fun e w' => ∃ A' c' b, e = .returned (.pointer (some ⟨b, 0, none⟩)) ∧ Has w' b 126 #[.slice A' n c', .int .i64 0, .int .i64 0] ∧ w'.ownsRow w.heap.size 5 1 (.slice A' n c') n ((List.range n).map f) ∧ New w w' ∧ w.heap.size ≤ b := by
  have HA := Lib.hid hA; clear hA
  have H1 := Lib.hid h1; clear h1
  have HN := Lib.hid hn; clear hn
  go_enter Try.func63, Try.ntmps63
  go_wp2_with (go_at_call 47; refine (clone_any A n c F f _ HA.out HN.out H1.out (by omega)).mono ?_; rintro e w' ⟨A', c', rfl, ho, hg⟩; have Ho := Lib.hid ho; have Hg := Lib.hid hg; clear ho hg)
  go_ret
  exact ⟨_, _, _, rfl, Has.new _ _ _, Ho.out.alloc _, Hg.out.alloc _, Hg.out.size⟩
/-- a reader of the bytes bs at bit p -/
def Rd (w : World) (b : Nat) (bs : List Nat) (p : Nat) (er : Int) : Prop :=
  ∃ A c, Has w b 126 #[.slice A bs.length c, .int .i64 (p : Int), .int .i64 er] ∧ w.ownsRow 0 5 1 (.slice A bs.length c) bs.length (bs.map bV)
theorem Rd.chg {S : Nat → Prop} {w w' : World} {b : Nat} {bs : List Nat} {p : Nat} {er : Int} (h : Rd w b bs p er) (c : Chg S w w') (hS : ∀ k, k < w.heap.size → ¬ S k) : Rd w' b bs p er := by
  obtain ⟨A, cc, h1, h2⟩ := h
  refine ⟨A, cc, h1.chg c (hS _ h1.lt), own_chg h2 c fun k hk => hS _ ?_⟩
  exact (h2.lt k hk).2

set_option maxRecDepth 100000 in
set_option maxHeartbeats 1000000 in
theorem number_any (b : Nat) (bs : List Nat) (p : Nat) (er : Int) (width : Nat) (w : World) (h : Rd w b bs p er) (hp : p + width ≤ 8 * bs.length) (hw : width ≤ 32) (hl : bs.length ≤ 140737488351232) (h256 : ∀ x ∈ bs, x < 256) :
    Calls Try.prog 77 #[.pointer (some ⟨b, 0, none⟩), .int .i64 width] w fun e w' => e = .returned (.int .i64 (numAt bs p width)) ∧ Rd w' b bs (p + width) er ∧ Chg (· = b) w w' := by
  have H := Lib.hid h; clear h
  have H256 := Lib.hid h256; clear h256
  go_enter Try.func77, Try.ntmps77
  go_wp2
  go_loopw [5, 7] (fun n i wr => ∃ k : Nat, k ≤ width ∧ i = .int .i64 k ∧ n = .int .i64 (numAt bs p k) ∧ Rd wr b bs (p + k) er ∧ Chg (· = b) w wr) (fun _ i _ => width - (intOf i).toNat)
  case atStart => exact ⟨0, Nat.zero_le _, rfl, by rw [numAt_zero]; rfl, H.out, Chg.refl _ _⟩
  case round =>
    obtain ⟨k, hk, rfl, rfl, hR, hC⟩ := hrel
    have HC := Lib.hid hC; clear hC
    by_cases hlt : k < width
    · have hnl := numAt_lt bs p k
      have hn31 : (numAt bs p k) < 2147483648 := Nat.lt_of_lt_of_le hnl (Nat.pow_le_pow_right (n := 2) (by omega) (show k ≤ 31 by omega))
      clear hnl
      obtain ⟨N, hN⟩ : ∃ N, N = numAt bs p k := ⟨_, rfl⟩
      rw [← hN] at hn31 ⊢
      have HN := Lib.hid hN; clear hN
      obtain ⟨q, hq⟩ : ∃ q, q = p + k := ⟨_, rfl⟩
      rw [← hq] at hR
      have hq8 : q < 8 * bs.length := by omega
      have Hq := Lib.hid hq; clear hq
      obtain ⟨A, c, hH, hO⟩ := hR
      obtain ⟨g, rfl, hcell⟩ : ∃ g, A = some ⟨g, 0, none⟩ ∧ wr.cell? ⟨g, q / 8, none⟩ = some (.int .u8 ((bs.getD (q / 8) 0 : Nat) : Int)) := by
        rcases hO.2 with ⟨_, hn⟩ | ⟨g, c', cur, hv, _⟩
        · omega
        · simp only [Value.slice.injEq] at hv
          obtain ⟨rfl, _, rfl⟩ := hv
          refine ⟨g, rfl, ?_⟩
          rw [hO.cellAt (q / 8) (by omega)]
          have : q / 8 < bs.length := by omega
          simp [bV, List.getElem?_eq_getElem this]
      have hc0 := hH.cell 0
      have hc1 := hH.cell 1
      have hf1 := hH.free 1
      simp at hc0 hc1
      have hB := H256.out (bs.getD (q / 8) 0) (by
        have : q / 8 < bs.length := by omega
        simp [List.getElem?_eq_getElem this])
      obtain ⟨x, hx⟩ : ∃ x, x = bs.getD (q / 8) 0 := ⟨_, rfl⟩
      rw [← hx] at hB hcell
      have Hx := Lib.hid hx; clear hx
      have HH := Lib.hid hH; clear hH
      have HO := Lib.hid hO; clear hO
      have hqd : (q : Int) / 8 < (bs.length : Int) := by omega
      have hqd0 : 0 ≤ (q : Int) / 8 := by omega
      have hqt : ((q : Int) / 8).toNat = q / 8 := by omega
      have e1 : IntKind.i64.wrap ((q : Int) / 8) = (q : Int) / 8 := IntWalk.i64_in _ (by omega)
      go_wp2
      go_quiet ((go_at_call 86; exact Calls.quiet_of_same (mask_any _ _ (by omega))))
      go_wp2
      all_goals
        have hbit := numAt_succ bs p k (by omega)
        rw [← Hq.out, ← HN.out, ← Hx.out] at hbit
        have hH' := ((HH.out.drewN nq).set 1 (.int .i64 (q + 1)))
        have hO' := own_chg (S := (· = b)) HO.out (((Chg.refl (· = b) wr).drewN nq).setCell (p := ⟨b, 1, none⟩) (fun _ => rfl) (.int .i64 (q + 1))) (fun k hk e => own_apart HO.out HH.out (by decide) (e ▸ hk))
        have hC' := (HC.out.drewN nq).setCell (p := ⟨b, 1, none⟩) (fun _ => rfl) (.int .i64 (q + 1))
        have hq1 : p + (k + 1) = q + 1 := by have := Hq.out; omega
        have hR' : Rd ((wr.drewN nq).setCell ⟨b, 1, none⟩ (.int .i64 (q + 1))) b bs (p + (k + 1)) er := by
          rw [hq1]; exact ⟨_, _, hH', hO'⟩
        go_roundw
        case rel =>
          refine ⟨k + 1, by omega, by go_num, ?_, hR', hC'⟩
          rw [hbit, ← bit_test x q hB]
          first
            | (have ht : (bits BinOp.and IntKind.u8 (x : Int) (128 / 2 ^ (q % 8)) != 0) = true := by assumption
               rw [ht, or_one N hn31]; rfl)
            | (have ht : (bits BinOp.and IntKind.u8 (x : Int) (128 / 2 ^ (q % 8)) != 0) = false := by assumption
               rw [ht]; simp; omega)
        case measure => simp [intOf]; omega
    · obtain rfl : k = width := by omega
      have HR := Lib.hid hR; clear hR
      go_wp2
      go_ret
      exact ⟨rfl, HR.out, HC.out⟩
end Go.Proofs.Ytjkpijinpfimiaa
