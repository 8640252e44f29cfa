import Derived.Test.YtkcokcanakljnaaTRefA
namespace Go.Proofs.Ytkcokcanakljnaa
open Go.RowKit
/-- the content of one element is right -/
def okC (t : Int) (bs : List Nat) (s : Tr) : Bool := if t ≤ 127 then s.len == 0 else bs.length == 0 && Tr.right 0 s
theorem right_cons (l t : Int) (bs : List Nat) (s r : Tr) : Tr.right l (.cons t bs s r) = (decide (l < t) && decide (t ≤ 255) && okC t bs s && Tr.right t r) := rfl
end Go.Proofs.Ytkcokcanakljnaa
