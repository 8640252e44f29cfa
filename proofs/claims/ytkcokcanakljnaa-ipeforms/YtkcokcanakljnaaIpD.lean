/-
  The document's ride and Do: what is done with a product.
-/
import Derived.Test.YtkcokcanakljnaaIpB
namespace Go.Proofs.Ytkcokcanakljnaa
open Go.RowKit
def rideE (k l r d : Int) : Int := if d < 0 then 2 else if 65535 < d then 2 else if k = 1 then 28 else if k = 2 then (if l < d then 26 else 0) else if r = 0 then 27 else 0
end Go.Proofs.Ytkcokcanakljnaa
