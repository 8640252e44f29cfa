import Derived.Test.YtkcokcanakljnaaTreeMem
namespace Go.Proofs.Ytkcokcanakljnaa
open Go.RowKit
theorem deeper_nil (k : Nat) : Tr.deeper k .nil = false := by cases k <;> rfl
theorem deeper_cons (k : Nat) (t : Int) (bs : List Nat) (s r : Tr) : Tr.deeper (k + 1) (.cons t bs s r) = (Tr.deeper k s || Tr.deeper (k + 1) r) := rfl
end Go.Proofs.Ytkcokcanakljnaa
