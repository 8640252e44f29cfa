import Derived.Test.YtkcokcanakljnaaGetA
import Derived.Laws.CopyOwn
import Derived.Deep.OwnRows
namespace Go.Proofs.Ytkcokcanakljnaa
open Go.RowKit
set_option maxRecDepth 100000 in
set_option maxHeartbeats 2000000 in
theorem tcopied_any (bs : List Nat) (n c : Nat) (A : Option Addr) (w : World) (F : Nat → Prop) (hB : Byts w F (.slice A n c) bs) (hF : ∀ k, F k → k < w.heap.size) :
    Calls Try.prog 96 #[.slice A n c] w fun e w' => ∃ A' c', e = .returned (.slice A' n c') ∧ w'.ownsRow w.heap.size 5 1 (.slice A' n c') n (bs.map bV) ∧ New w w' := by
  obtain ⟨hlen, hb, h256⟩ := hB.len
  rcases Nat.eq_zero_or_pos n with hz | hz
  · subst hz
    have hbs : bs = [] := List.eq_nil_of_length_eq_zero hlen
    subst hbs
    clear hB hlen h256 hF
    go_enter Try.func96, Try.ntmps96
    go_wp2_with fail
    go_ret
    exact ⟨none, 0, rfl, World.ownsRow_nil _ _ _ _, Chg.refl _ _⟩
  · have hne : ((n : Int) == 0) = false := by simp; omega
    have hmk := run_make_row' (P := Try.prog) 27 5 (.int .u8 0) 1 Try.underlying27 Try.info5 rfl .i64 .i64 n (by omega) (by omega)
    have HB := Lib.hid hB; clear hB
    have HF := Lib.hid hF; clear hF
    have Hlen := Lib.hid hlen; clear hlen
    have Hcs : Hid (∀ j v, (bs.map bV)[j]? = some v → ∃ ad, A = some ad ∧ (w.alloc (.cells (madeCells #[.int .u8 0] n) 5)).cell? (ad.add j) = some v) := by
      obtain ⟨A', cc, he, hA, _, _, _⟩ := (HB.out.new ((Chg.refl _ _).alloc (.cells (madeCells #[.int .u8 0] n) 5)) HF.out)
      simp only [Value.slice.injEq] at he
      obtain ⟨rfl, _, _⟩ := he
      exact map_news hA rfl
    have Hpos : Hid (0 < (bs.map bV).length → ∃ ad, A = some ad ∧ ∀ j v, (bs.map bV)[j]? = some v → (w.alloc (.cells (madeCells #[.int .u8 0] n) 5)).cell? (ad.add j) = some v) := fun hp => by
      obtain ⟨ad, ha, _⟩ := Hcs.out 0 _ (List.getElem?_eq_getElem hp)
      refine ⟨ad, ha, fun j v hv => ?_⟩
      obtain ⟨ad', ha', hc⟩ := Hcs.out j v hv
      rw [ha] at ha'
      simp only [Option.some.injEq] at ha'
      subst ha'
      exact hc
    clear h256
    go_enter Try.func96, Try.ntmps96
    go_wp2_with (first | (refine wpList_copy_splice rfl _ _ 27 27 rfl 5 Try.underlying27 (by kernel_rfl) _ _ n n n c rfl rfl w.heap.size 0 (madeCells #[.int .u8 0] n).toList 5 (by rw [Array.toArray_toList]; exact Has.new w 5 _) (bs.map bV) (by rw [List.length_map, Hlen.out]; exact (Nat.min_self n).symm) (fun hp => ⟨rfl, Hpos.out hp⟩) (by rw [List.length_map, Hlen.out, Array.length_toList, size_madeCells]; omega) (bV_one bs) w.heap.size w ((Below.refl _ _).alloc (Nat.le_refl _) _) (Nat.le_refl _) ?_; intro w2 Hg2 hb2; have HB2 := Lib.hid hb2; clear hb2) | go_in)
    go_ret
    refine ⟨_, n, rfl, ?_, New.of_below HB2.out⟩
    have hsp : splice (madeCells #[.int .u8 0] n).toList 0 (bs.map bV) = bs.map bV := by
      unfold splice
      rw [List.drop_eq_nil_of_le (by rw [Array.length_toList, size_madeCells, List.length_map, Hlen.out]; omega)]
      simp
    have hg := Hg2.out
    rw [hsp] at hg
    refine ⟨by rw [List.length_map, Hlen.out]; omega, Or.inr ⟨w.heap.size, n, _, rfl, Nat.le_refl _, hg, Nat.le_refl _, by simp only [maxLen]; omega, by simp [Hlen.out], ?_⟩⟩
    simp
    exact List.take_of_length_le (by rw [List.length_map, Hlen.out]; exact Nat.le_refl _)
end Go.Proofs.Ytkcokcanakljnaa
