/-
  The document's Do: Add.
-/
import Derived.Test.YtkcokcanakljnaaIpF
namespace Go.Proofs.Ytkcokcanakljnaa
open Go.RowKit
end Go.Proofs.Ytkcokcanakljnaa
