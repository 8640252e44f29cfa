import Derived.Test.YtkcokcanakljnaaPutC
import Derived.Test.YtkcokcanakljnaaGetD
import Derived.Test.YtkcokcanakljnaaTreeB
namespace Go.Proofs.Ytkcokcanakljnaa
open Go.RowKit
set_option maxRecDepth 100000 in
set_option maxHeartbeats 2000000 in
theorem Get_any (bs : List Nat) (n : Nat) (A : Option Addr) (c : Nat) (w : World) (F : Nat → Prop) (hB : Byts w F (.slice A n c) bs) (hnc : n ≤ c) (hcm : c ≤ maxLen) (hF : ∀ k, F k → k < w.heap.size) :
    Calls Try.prog 44 #[.slice A n c] w fun e w' => AnsR w (decd 4 0 bs) e w' ∧ New w w' := by
  have HC : Hid (Calls Try.prog 79 #[.slice A n c, .int .i64 4] w fun e w' => AnsR w (decd 4 0 bs) e w' ∧ New w w') := list_any (bs.length + 1) bs (Nat.lt_succ_self _) n A c 4 w F hB hnc hcm (by decide) hF
  clear hB hF
  go_enter Try.func44, Try.ntmps44
  go_wp2_with fail
  with_reducible refine HC.out.mono ?_
  rintro e w1 ⟨hE, hN⟩
  have HN := Lib.hid hN; clear hN
  cases hd : decd 4 0 bs with
  | err z =>
    rw [hd] at hE
    simp only [AnsR] at hE
    subst hE
    have Hd := Lib.hid hd; clear hd
    go_wp2_with fail
    go_ret2
    refine ⟨?_, HN.out⟩
    rw [Hd.out]; rfl
  | ok T =>
    rw [hd] at hE
    obtain ⟨A2, c2, rfl, hO, hl⟩ := hE
    have Hd := Lib.hid hd; clear hd
    have HO := Lib.hid hO; clear hO
    obtain ⟨p, hp⟩ : ∃ p, p = T.len := ⟨_, rfl⟩
    have Hp := Lib.hid hp
    rw [← hp] at hl ⊢
    clear hp
    go_wp2_with fail
    go_ret2
    refine ⟨?_, HN.out⟩
    rw [Hd.out]
    exact ⟨A2, c2, by rw [← Hp.out]; rfl, HO.out, by rw [← Hp.out]; exact hl⟩
theorem put_err {T : Tr} {z : Int} (h : T.put = .err z) : (z == 0) = false ∧ (z != 0) = true := by
  unfold Tr.put at h
  split at h
  · simp only [PutA.err.injEq] at h; subst h; decide
  split at h
  · split at h
    · simp only [PutA.err.injEq] at h; subst h; decide
    · cases h
  · simp only [PutA.err.injEq] at h; subst h; decide
theorem put_ok {T : Tr} {x : List Nat} (h : T.put = .ok x) : Tr.right 0 T = true ∧ Tr.deeper 4 T = false ∧ T.enc = some x := by
  unfold Tr.put at h
  cases hd : Tr.deeper 4 T with
  | true => rw [hd] at h; cases h
  | false =>
    rw [hd] at h
    cases hr : Tr.right 0 T with
    | false => rw [hr] at h; cases h
    | true =>
      rw [hr] at h
      cases he : T.enc with
      | none => rw [he] at h; cases h
      | some y => rw [he] at h; simp at h; subst h; exact ⟨rfl, rfl, rfl⟩
theorem put_of {T : Tr} {x : List Nat} (h1 : Tr.right 0 T = true) (h2 : Tr.deeper 4 T = false) (h3 : T.enc = some x) : T.put = .ok x := by
  unfold Tr.put
  rw [h2, h1, h3]; rfl
theorem own_max {w : World} {base e size n c : Nat} {A : Option Addr} {xs : List Value} (h : w.ownsRow base e size (.slice A n c) n xs) : c ≤ maxLen := by
  rcases h.2 with ⟨hv, hn⟩ | ⟨g', cap, cur, hv, _, _, hnc, hcm, _⟩
  · simp only [Value.slice.injEq] at hv; omega
  · simp only [Value.slice.injEq] at hv
    obtain ⟨_, _, rfl⟩ := hv
    exact hcm
/-- Get of bytes that were made -/
theorem Get_own {x : List Nat} {A : Option Addr} {n c b : Nat} {w w' : World} (hO : w.ownsRow b 5 1 (.slice A n c) n (x.map bV)) (h256 : ∀ y ∈ x, y < 256) (hn : n ≤ 140737488355328) (hN : New w w') :
    Calls Try.prog 44 #[.slice A n c] w' fun e w'' => AnsR w' (decd 4 0 x) e w'' ∧ New w' w'' :=
  Get_any x n A c w' _ (Byts.own_any hO hN h256 hn) (own_cap hO) (own_max hO) (fun _ h => h)
end Go.Proofs.Ytkcokcanakljnaa
