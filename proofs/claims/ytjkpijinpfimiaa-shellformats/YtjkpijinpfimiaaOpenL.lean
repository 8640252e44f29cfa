/-
  Looks and Makings that came in: bytes and three numbers.
-/
import Derived.Test.YtjkpijinpfimiaaSizes
import Derived.Test.YtjkpijinpfimiaaOpenB
import Derived.Lib.SmallJoins
namespace Go.Proofs.Ytjkpijinpfimiaa
open Go.ChangeShapes Go.WideShapes Go.ChangeAt Go.RowKit Go.Joins
/-- bytes in one cell that came in -/
theorem open_bcell {H : Type} {enc : TypeId × Value → H} {W : World} {sp : Nat → Bool} {held : Bool} {fuel : Nat} {v : Value} {d : DataW H} {p : List MemPlace}
    (h : DataW.trod enc Try.prog W 0 sp held fuel 22 [v] = some (d, p)) : ∃ (A : Option Addr) (n c : Nat) (bs : List Nat), v = .slice A n c ∧ bs.length = n ∧ Arr W (· < W.heap.size) A n (fun i => bV (bs.getD i 0)) ∧ (∀ x ∈ bs, x < 256) ∧ (A = none → n = 0 ∧ c = 0) := by
  have hv : ∃ A n c, v = .slice A n c := by
    rcases Deep.open_slice1 Try.underlying22 Try.cells5 h with ⟨hcs, _⟩ | ⟨a, len, cap, m, nn, V, D, Pl, hcs, _⟩ <;> simp only [List.cons.injEq, and_true] at hcs <;> exact ⟨_, _, _, hcs⟩
  obtain ⟨A, n, c, rfl⟩ := hv
  obtain ⟨bs, hbl, hA, h256, _, _, hnil⟩ := open_bytes (d := d) (p := p) ⟨fuel, h⟩
  exact ⟨A, n, c, bs, rfl, hbl, hA, h256, hnil⟩
theorem Try.cells24 : Try.prog.cellsOf 24 = 4 := by kernel_rfl
set_option maxRecDepth 100000 in
theorem open_look {H : Type} {enc : TypeId × Value → H} {W : World} {sp : Nat → Bool} {held : Bool} {r : Reach} {b0 : Nat} {v : Value} {d : DataW H} {p : List MemPlace}
    (hv : Value.okWide Try.prog W r b0 24 v) (h : DataW.Trod enc Try.prog W 0 sp held 24 v d p) : ∃ (A : Option Addr) (n c : Nat) (bs : List Nat) (x y z : Int), v = .agg #[.slice A n c, .int .i64 x, .int .i64 y, .int .i64 z] ∧ bs.length = n ∧ Arr W (· < W.heap.size) A n (fun i => bV (bs.getD i 0)) ∧ (∀ x ∈ bs, x < 256) ∧ (A = none → n = 0 ∧ c = 0) ∧ (-9223372036854775808 ≤ x ∧ x ≤ 9223372036854775807) ∧ (-9223372036854775808 ≤ y ∧ y ≤ 9223372036854775807) ∧ (-9223372036854775808 ≤ z ∧ z ≤ 9223372036854775807) := by
  obtain ⟨v0, v1, v2, v3, y0, y1, y2, y3, n, rfl, _, _, t0, t1, t2, t3⟩ := open_agg4 Try.underlying24 (by kernel_rfl) Try.cells24 hv h
  obtain ⟨A, m, c, bs, e0, h1, h2, h3, h4⟩ := open_bcell (v := v0) (d := y0.1) (p := y0.2) t0
  obtain ⟨x, e1, _, wx⟩ := DataW.trod_int Try.underlying3 t1
  obtain ⟨y, e2, _, wy⟩ := DataW.trod_int Try.underlying3 t2
  obtain ⟨z, e3, _, wz⟩ := DataW.trod_int Try.underlying3 t3
  simp only [List.cons.injEq, and_true] at e1 e2 e3
  subst e0 e1 e2 e3
  exact ⟨A, m, c, bs, x, y, z, rfl, h1, h2, h3, h4, i64_wf wx, i64_wf wy, i64_wf wz⟩
theorem Try.cells47 : Try.prog.cellsOf 47 = 4 := by kernel_rfl
set_option maxRecDepth 100000 in
theorem open_making {H : Type} {enc : TypeId × Value → H} {W : World} {sp : Nat → Bool} {held : Bool} {r : Reach} {b0 : Nat} {v : Value} {d : DataW H} {p : List MemPlace}
    (hv : Value.okWide Try.prog W r b0 47 v) (h : DataW.Trod enc Try.prog W 0 sp held 47 v d p) : ∃ (A : Option Addr) (n c : Nat) (bs : List Nat) (x y z : Int), v = .agg #[.slice A n c, .int .i64 x, .int .i64 y, .int .i64 z] ∧ bs.length = n ∧ Arr W (· < W.heap.size) A n (fun i => bV (bs.getD i 0)) ∧ (∀ x ∈ bs, x < 256) ∧ (A = none → n = 0 ∧ c = 0) ∧ (-9223372036854775808 ≤ x ∧ x ≤ 9223372036854775807) ∧ (-9223372036854775808 ≤ y ∧ y ≤ 9223372036854775807) ∧ (-9223372036854775808 ≤ z ∧ z ≤ 9223372036854775807) := by
  obtain ⟨v0, v1, v2, v3, y0, y1, y2, y3, n, rfl, _, _, t0, t1, t2, t3⟩ := open_agg4 Try.underlying47 (by kernel_rfl) Try.cells47 hv h
  obtain ⟨A, m, c, bs, e0, h1, h2, h3, h4⟩ := open_bcell (v := v0) (d := y0.1) (p := y0.2) t0
  obtain ⟨x, e1, _, wx⟩ := DataW.trod_int Try.underlying3 t1
  obtain ⟨y, e2, _, wy⟩ := DataW.trod_int Try.underlying3 t2
  obtain ⟨z, e3, _, wz⟩ := DataW.trod_int Try.underlying3 t3
  simp only [List.cons.injEq, and_true] at e1 e2 e3
  subst e0 e1 e2 e3
  exact ⟨A, m, c, bs, x, y, z, rfl, h1, h2, h3, h4, i64_wf wx, i64_wf wy, i64_wf wz⟩
end Go.Proofs.Ytjkpijinpfimiaa
