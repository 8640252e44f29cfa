import Derived.Test.YtkcokcanakljnaaNumA
namespace Go.Proofs.Ytkcokcanakljnaa
open Go.RowKit
theorem val_bound {b : List Nat} {k : Nat} (h : ∀ x ∈ b, x < 256) (hk : k ≤ 7) : val (b.take k) < 72057594037927936 := by
  have h1 := val_lt (b.take k) (fun x hx => h x (List.mem_of_mem_take hx))
  have h2 : (b.take k).length ≤ 7 := by simp; omega
  have h3 : 256 ^ (b.take k).length ≤ 256 ^ 7 := Nat.pow_le_pow_right (by omega) h2
  have h4 : (256 : Nat) ^ 7 = 72057594037927936 := by decide
  omega
theorem val_bound6 {b : List Nat} {k : Nat} (h : ∀ x ∈ b, x < 256) (hk : k ≤ 6) : val (b.take k) < 281474976710656 := by
  have h1 := val_lt (b.take k) (fun x hx => h x (List.mem_of_mem_take hx))
  have h2 : (b.take k).length ≤ 6 := by simp; omega
  have h3 : 256 ^ (b.take k).length ≤ 256 ^ 6 := Nat.pow_le_pow_right (by omega) h2
  have h4 : (256 : Nat) ^ 6 = 281474976710656 := by decide
  omega
set_option maxRecDepth 100000 in
set_option maxHeartbeats 2000000 in
theorem Int_any (bs : List Nat) (n c : Nat) (A : Option Addr) (w : World) (F : Nat → Prop) (hB : Byts w F (.slice A n c) bs) :
    Calls Try.prog 48 #[.slice A n c] w fun e w' => e = .returned (.tuple #[.int .i64 (intV bs).1, .int .i64 (intV bs).2]) ∧ w' = w := by
  obtain ⟨hlen, hb, h256⟩ := hB.len
  have HB := Lib.hid hB; clear hB
  have Hlen := Lib.hid hlen; clear hlen
  have H256 := Lib.hid h256; clear h256
  rcases Nat.lt_or_ge 7 n with h7 | h7
  · have Hv : Hid (intV bs = (0, 11)) := by unfold intV; rw [Hid, if_pos (by rw [Hlen.out]; exact h7)]
    go_enter Try.func48, Try.ntmps48
    go_wp2_with fail
    go_ret2
    exact ⟨by rw [Hv.out]; rfl, rfl⟩
  have loop : (0 < n → ∃ (a : Addr) (x : Nat), A = some a ∧ w.cell? a = some (.int .u8 (x : Int)) ∧ bs[0]? = some x) := fun h => by
    obtain ⟨x, hx⟩ : ∃ x, bs[0]? = some x := ⟨_, List.getElem?_eq_getElem (by rw [Hlen.out]; exact h)⟩
    obtain ⟨a, ha, _, hc, _⟩ := HB.out.at hx
    rw [show a.add 0 = a from rfl] at hc
    exact ⟨a, x, ha, hc, hx⟩
  rcases Nat.eq_zero_or_pos n with hz | hz
  · subst hz
    have hbs : bs = [] := List.eq_nil_of_length_eq_zero Hlen.out
    have Hv : Hid (intV bs = (0, 0)) := by rw [Hid, hbs]; rfl
    clear loop hbs
    go_enter Try.func48, Try.ntmps48
    go_wp2_with fail
    go_loopg [4, 21] 1 (fun gk s i wr => gk = 1 ∧ s = .int .i64 0 ∧ i = .int .i64 0 ∧ w = wr)
    case atStart => exact ⟨rfl, rfl, rfl, rfl⟩
    case round =>
      obtain ⟨rfl, rfl, rfl, rfl⟩ := hrel
      go_wp2_with fail
      go_ret2
      exact ⟨by rw [Hv.out]; rfl, rfl⟩
  · obtain ⟨a, x, rfl, hc0, hx⟩ := loop hz
    clear loop
    by_cases hx0 : x = 0
    · subst hx0
      have Hv : Hid (intV bs = (0, 12)) := by unfold intV; rw [Hid, if_neg (by rw [Hlen.out]; omega), if_pos hx]
      clear hx
      go_enter Try.func48, Try.ntmps48
      go_wp2_with fail
      go_ret2
      exact ⟨by rw [Hv.out]; rfl, rfl⟩
    · have Hv : Hid (intV bs = (val bs, 0)) := by unfold intV; rw [Hid, if_neg (by rw [Hlen.out]; omega), if_neg (by rw [hx]; simp; exact hx0)]
      have hxe : ((x : Int) == 0) = false := by simp; omega
      clear hx hx0
      go_enter Try.func48, Try.ntmps48
      go_wp2_with fail
      go_loopg [4, 21] n (fun gk s i wr => ∃ k : Nat, k ≤ n ∧ gk = n - k ∧ s = .int .i64 (val (bs.take k) : Nat) ∧ i = .int .i64 k ∧ w = wr)
      case atStart => exact ⟨0, by omega, by omega, rfl, rfl, rfl⟩
      case round =>
        obtain ⟨k, hk, rfl, rfl, rfl, rfl⟩ := hrel
        have hvb := val_bound (k := k) H256.out (by omega)
        by_cases hlt : k < n
        · have hvb := val_bound6 (k := k) H256.out (by omega)
          obtain ⟨y, hy⟩ : ∃ y, bs[k]? = some y := ⟨_, List.getElem?_eq_getElem (by rw [Hlen.out]; exact hlt)⟩
          obtain ⟨a', ha, _, hc, hy256⟩ := HB.out.at hy
          simp only [Option.some.injEq] at ha
          subst ha
          have Hs := Lib.hid (val_take bs k y hy)
          clear hy
          obtain ⟨vk, hvk⟩ : ∃ vk, vk = val (bs.take k) := ⟨_, rfl⟩
          rw [← hvk] at hvb Hs ⊢
          clear hvk
          go_wp2_with fail
          go_roundg (n - (k + 1))
          case measure => omega
          case rel => exact ⟨k + 1, by omega, rfl, by rw [Hs.out]; first | rfl | (congr 1; omega) | (congr 1; rw [w64 _ (by omega) (by omega)]; omega), by go_num, rfl⟩
        · obtain rfl : k = n := by omega
          have hall : bs.take k = bs := List.take_of_length_le (by rw [Hlen.out]; omega)
          rw [hall] at hvb ⊢
          clear hall
          obtain ⟨vk, hvk⟩ : ∃ vk, vk = val bs := ⟨_, rfl⟩
          have Hvk := Lib.hid hvk
          rw [← hvk] at hvb ⊢
          clear hvk
          go_wp2_with fail
          go_ret2
          exact ⟨by rw [Hv.out, ← Hvk.out]; rfl, rfl⟩
set_option maxRecDepth 100000 in
set_option maxHeartbeats 2000000 in
theorem RInt_any (bs : List Nat) (n c : Nat) (A : Option Addr) (w : World) (F : Nat → Prop) (hB : Byts w F (.slice A n c) bs) :
    Calls Try.prog 51 #[.slice A n c] w fun e w' => e = .returned (.tuple #[.int .i64 (intV bs).1, .int .i64 (intV bs).2]) ∧ w' = w := by
  obtain ⟨hlen, hb, h256⟩ := hB.len
  have HB := Lib.hid hB; clear hB
  have Hlen := Lib.hid hlen; clear hlen
  have H256 := Lib.hid h256; clear h256
  rcases Nat.lt_or_ge 7 n with h7 | h7
  · have Hv : Hid (intV bs = (0, 11)) := by unfold intV; rw [Hid, if_pos (by rw [Hlen.out]; exact h7)]
    go_enter Try.func51, Try.ntmps51
    go_wp2_with fail
    go_ret2
    exact ⟨by rw [Hv.out]; rfl, rfl⟩
  have loop : (0 < n → ∃ (a : Addr) (x : Nat), A = some a ∧ w.cell? a = some (.int .u8 (x : Int)) ∧ bs[0]? = some x) := fun h => by
    obtain ⟨x, hx⟩ : ∃ x, bs[0]? = some x := ⟨_, List.getElem?_eq_getElem (by rw [Hlen.out]; exact h)⟩
    obtain ⟨a, ha, _, hc, _⟩ := HB.out.at hx
    rw [show a.add 0 = a from rfl] at hc
    exact ⟨a, x, ha, hc, hx⟩
  rcases Nat.eq_zero_or_pos n with hz | hz
  · subst hz
    have hbs : bs = [] := List.eq_nil_of_length_eq_zero Hlen.out
    have Hv : Hid (intV bs = (0, 0)) := by rw [Hid, hbs]; rfl
    clear loop hbs
    go_enter Try.func51, Try.ntmps51
    go_wp2_with fail
    go_loopg [4, 5] 1 (fun gk s i wr => gk = 1 ∧ s = .int .i64 0 ∧ i = .int .i64 0 ∧ w = wr)
    case atStart => exact ⟨rfl, rfl, rfl, rfl⟩
    case round =>
      obtain ⟨rfl, rfl, rfl, rfl⟩ := hrel
      go_wp2_with fail
      go_ret2
      exact ⟨by rw [Hv.out]; rfl, rfl⟩
  · obtain ⟨a, x, rfl, hc0, hx⟩ := loop hz
    clear loop
    by_cases hx0 : x = 0
    · subst hx0
      have Hv : Hid (intV bs = (0, 12)) := by unfold intV; rw [Hid, if_neg (by rw [Hlen.out]; omega), if_pos hx]
      clear hx
      go_enter Try.func51, Try.ntmps51
      go_wp2_with fail
      go_ret2
      exact ⟨by rw [Hv.out]; rfl, rfl⟩
    · have Hv : Hid (intV bs = (val bs, 0)) := by unfold intV; rw [Hid, if_neg (by rw [Hlen.out]; omega), if_neg (by rw [hx]; simp; exact hx0)]
      have hxe : ((x : Int) == 0) = false := by simp; omega
      clear hx hx0
      go_enter Try.func51, Try.ntmps51
      go_wp2_with fail
      go_loopg [4, 5] n (fun gk s i wr => ∃ k : Nat, k ≤ n ∧ gk = n - k ∧ s = .int .i64 (val (bs.take k) : Nat) ∧ i = .int .i64 k ∧ w = wr)
      case atStart => exact ⟨0, by omega, by omega, rfl, rfl, rfl⟩
      case round =>
        obtain ⟨k, hk, rfl, rfl, rfl, rfl⟩ := hrel
        have hvb := val_bound (k := k) H256.out (by omega)
        by_cases hlt : k < n
        · have hvb := val_bound6 (k := k) H256.out (by omega)
          obtain ⟨y, hy⟩ : ∃ y, bs[k]? = some y := ⟨_, List.getElem?_eq_getElem (by rw [Hlen.out]; exact hlt)⟩
          obtain ⟨a', ha, _, hc, hy256⟩ := HB.out.at hy
          simp only [Option.some.injEq] at ha
          subst ha
          have Hs := Lib.hid (val_take bs k y hy)
          clear hy
          obtain ⟨vk, hvk⟩ : ∃ vk, vk = val (bs.take k) := ⟨_, rfl⟩
          rw [← hvk] at hvb Hs ⊢
          clear hvk
          go_wp2_with fail
          go_roundg (n - (k + 1))
          case measure => omega
          case rel => exact ⟨k + 1, by omega, rfl, by rw [Hs.out]; first | rfl | (congr 1; omega) | (congr 1; rw [w64 _ (by omega) (by omega)]; omega), by go_num, rfl⟩
        · obtain rfl : k = n := by omega
          have hall : bs.take k = bs := List.take_of_length_le (by rw [Hlen.out]; omega)
          rw [hall] at hvb ⊢
          clear hall
          obtain ⟨vk, hvk⟩ : ∃ vk, vk = val bs := ⟨_, rfl⟩
          have Hvk := Lib.hid hvk
          rw [← hvk] at hvb ⊢
          clear hvk
          go_wp2_with fail
          go_ret2
          exact ⟨by rw [Hv.out, ← Hvk.out]; rfl, rfl⟩
end Go.Proofs.Ytkcokcanakljnaa
