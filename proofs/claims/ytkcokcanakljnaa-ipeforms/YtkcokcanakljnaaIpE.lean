/-
  The document's Do: what is done with a product.
-/
import Derived.Test.YtkcokcanakljnaaIpD
namespace Go.Proofs.Ytkcokcanakljnaa
open Go.RowKit
def I64 (x : Int) : Prop := -9223372036854775808 ≤ x ∧ x ≤ 9223372036854775807
def doE1 (p : Pd) (a b : Int) : Int := if p.x13 = true then 25 else if a < 0 then 2 else if 255 < a then 2 else if b < 0 then 2 else if 65535 < b then 2 else if ¬ p.x0 = 1 then 28 else if p.x8 = true then 28 else if p.x11 = 65535 then 29 else 0
def doP1 (p : Pd) (a b : Int) : Pd := if doE1 p a b = 0 then ⟨p.x0, p.x1, p.x2, p.x3, p.x4, p.x5, p.x6, p.x7, true, a, b, p.x11 + 1, p.x12, p.x13⟩ else pz
def doE2 (p : Pd) (a _b : Int) : Int := if p.x13 = true then 25 else if a < 0 then 2 else if ¬ p.x0 = 1 then 28 else if p.x8 = false then 28 else if p.x5 < a then 27 else if p.x11 = 65535 then 29 else 0
def doP2 (p : Pd) (a b : Int) : Pd := if doE2 p a b = 0 then ⟨p.x0, p.x1, p.x2, p.x3, p.x4, p.x5 - a, p.x6, p.x7, false, 0, 0, p.x11 + 1, p.x12, p.x13⟩ else pz
def doE3 (p : Pd) (a _b : Int) : Int := if p.x13 = true then 25 else if a < 0 then 2 else if ¬ p.x0 = 1 then 28 else if 2147483648 - p.x5 < a then 29 else if p.x11 = 65535 then 29 else 0
def doP3 (p : Pd) (a b : Int) : Pd := if doE3 p a b = 0 then ⟨p.x0, p.x1, p.x2, p.x3, p.x4, p.x5 + a, p.x6, p.x7, p.x8, p.x9, p.x10, p.x11 + 1, p.x12, p.x13⟩ else pz
end Go.Proofs.Ytkcokcanakljnaa
