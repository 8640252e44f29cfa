/-
  The document's Do: Out.
-/
import Derived.Test.YtkcokcanakljnaaIpE
namespace Go.Proofs.Ytkcokcanakljnaa
open Go.RowKit
end Go.Proofs.Ytkcokcanakljnaa
