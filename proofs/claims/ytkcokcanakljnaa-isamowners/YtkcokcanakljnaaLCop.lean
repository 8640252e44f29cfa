import Derived.Test.YtkcokcanakljnaaPush
namespace Go.Proofs.Ytkcokcanakljnaa
open Go.RowKit
theorem btw_grow {w w1 w2 w3 : World} (h1 : w.heap.size ≤ w1.heap.size) (h2 : w2.heap.size ≤ w3.heap.size) : ∀ j, Btw w1 w2 j → Btw w w3 j := fun j ⟨a, b⟩ => ⟨by omega, by omega⟩
theorem cells3 {w : World} {F : Nat → Prop} {a : Addr} {i : Nat} {t : Int} {vb vs : Value} (h : Three w F (some a) i t vb vs) : w.cell? (a.add (i * 3)) = some (.int .i64 t) ∧ w.cell? ⟨(a.add (i * 3)).block, (a.add (i * 3)).off + 1, none⟩ = some vb ∧ w.cell? ⟨(a.add (i * 3)).block, (a.add (i * 3)).off + 2, none⟩ = some vs := by
  obtain ⟨a', h, _, h0⟩ := h
  simp only [Option.some.injEq] at h
  subst h
  exact h0
end Go.Proofs.Ytkcokcanakljnaa
