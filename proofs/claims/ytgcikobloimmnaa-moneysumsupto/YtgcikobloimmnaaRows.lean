/-
  No cell of these rows narrows 'for every input' (looked for: loops, veiled, ifaces, maps, wideKeys, modest, calm, conditions, laid).
  DERIVED. THE GIVEN ROWS OF THIS SEAT. 6 by the template 'for every input the law returns true; each argument reads behind the call as it read before'; 0 by the template 'total and deterministic' (their statements: YtgcikobloimmnaaTotals.lean).
  GIVEN WITH THE SEED: the statements are not yours to turn. If you find one false, say at which input.
  Laid BY PROGRAM, IN A SANDBOX (cutbox-rows.mjs): the forced cells as the released guide's own fill.sh prints them over the translation 5f5f97d33352d40f… (all of the seat's roots in one cut). By AI agents, Wed Nov 11 2026. No macro, syntax, notation, axiom, sorry.
-/
import Derived.Test.YtgcikobloimmnaaChecked
import GoSem.Claim
import GoSem.ClaimJoined
import GoSem.ClaimMapViews
import Derived.JoinedTies
import Derived.KernelRfl
namespace Go.Proofs.Ytgcikobloimmnaa
/- THE CELL 'sum', in the pinned program and in every row, IS THE sha256 OF THE DUMP (.gsa) THAT YtgcikobloimmnaaProg.lean LOADS. Nothing in Lean hashes anything: it is a label: what it is worth is what the hold of that sum in a sandbox is worth. -/
noncomputable def Try.pinned : Pinned := { name := "ytgcikobloimmnaa", sum := "5f5f97d33352d40f5423f2f079978b9a0a09559a8a72a4fa19cba289d709a1e7", checked := Try.checked }
namespace Rows
def none {H : Type} : Left H := { results := [], args := [] }

/-- 'fareboxlaw05.MoneySums': WHATEVER THE INPUT: true; the input reads as it did. -/
def moneySumsSpec : ChangeSpec := { name := "moneySums", fn := fun _ => fun
  | [d] => { results := [.lit (.bool true)], args := [d] }
  | _ => none }
def moneySumsRow : OpenClaim := { program := "ytgcikobloimmnaa", sum := "5f5f97d33352d40f5423f2f079978b9a0a09559a8a72a4fa19cba289d709a1e7", func := "farebox/fareboxlaw05.MoneySums", spec := "moneySums", apart := false }
def MoneySumsSaid : Prop := moneySumsRow.holds Try.pinned (OpenSpec.ofChange moneySumsSpec)

/-- ITS FALSE NEIGHBOUR: 'it returns false'. Refute it at one input. -/
def moneySumsWrong : ChangeSpec := { name := "moneySums", fn := fun _ => fun
  | [d] => { results := [.lit (.bool false)], args := [d] }
  | _ => none }
def MoneySumsWrongFalsely : Prop := moneySumsRow.holds Try.pinned (OpenSpec.ofChange moneySumsWrong)

/-- 'fareboxlaw05.MoneySplits': WHATEVER THE INPUT: true; the input reads as it did. -/
def moneySplitsSpec : ChangeSpec := { name := "moneySplits", fn := fun _ => fun
  | [d1, d2] => { results := [.lit (.bool true)], args := [d1, d2] }
  | _ => none }
def moneySplitsRow : OpenClaim := { program := "ytgcikobloimmnaa", sum := "5f5f97d33352d40f5423f2f079978b9a0a09559a8a72a4fa19cba289d709a1e7", func := "farebox/fareboxlaw05.MoneySplits", spec := "moneySplits", apart := false }
def MoneySplitsSaid : Prop := moneySplitsRow.holds Try.pinned (OpenSpec.ofChange moneySplitsSpec)

/-- ITS FALSE NEIGHBOUR: 'it returns false'. Refute it at one input. -/
def moneySplitsWrong : ChangeSpec := { name := "moneySplits", fn := fun _ => fun
  | [d1, d2] => { results := [.lit (.bool false)], args := [d1, d2] }
  | _ => none }
def MoneySplitsWrongFalsely : Prop := moneySplitsRow.holds Try.pinned (OpenSpec.ofChange moneySplitsWrong)

/-- 'fareboxlaw05.MoneyExact': WHATEVER THE INPUT: true; the input reads as it did. -/
def moneyExactSpec : ChangeSpec := { name := "moneyExact", fn := fun _ => fun
  | [d1, d2] => { results := [.lit (.bool true)], args := [d1, d2] }
  | _ => none }
def moneyExactRow : OpenClaim := { program := "ytgcikobloimmnaa", sum := "5f5f97d33352d40f5423f2f079978b9a0a09559a8a72a4fa19cba289d709a1e7", func := "farebox/fareboxlaw05.MoneyExact", spec := "moneyExact", apart := false }
def MoneyExactSaid : Prop := moneyExactRow.holds Try.pinned (OpenSpec.ofChange moneyExactSpec)

/-- ITS FALSE NEIGHBOUR: 'it returns false'. Refute it at one input. -/
def moneyExactWrong : ChangeSpec := { name := "moneyExact", fn := fun _ => fun
  | [d1, d2] => { results := [.lit (.bool false)], args := [d1, d2] }
  | _ => none }
def MoneyExactWrongFalsely : Prop := moneyExactRow.holds Try.pinned (OpenSpec.ofChange moneyExactWrong)

/-- 'fareboxlaw05.MoneyScales': WHATEVER THE INPUT: true; the input reads as it did. -/
def moneyScalesSpec : ChangeSpec := { name := "moneyScales", fn := fun _ => fun
  | [d1, d2, d3] => { results := [.lit (.bool true)], args := [d1, d2, d3] }
  | _ => none }
def moneyScalesRow : OpenClaim := { program := "ytgcikobloimmnaa", sum := "5f5f97d33352d40f5423f2f079978b9a0a09559a8a72a4fa19cba289d709a1e7", func := "farebox/fareboxlaw05.MoneyScales", spec := "moneyScales", apart := false }
def MoneyScalesSaid : Prop := moneyScalesRow.holds Try.pinned (OpenSpec.ofChange moneyScalesSpec)

/-- ITS FALSE NEIGHBOUR: 'it returns false'. Refute it at one input. -/
def moneyScalesWrong : ChangeSpec := { name := "moneyScales", fn := fun _ => fun
  | [d1, d2, d3] => { results := [.lit (.bool false)], args := [d1, d2, d3] }
  | _ => none }
def MoneyScalesWrongFalsely : Prop := moneyScalesRow.holds Try.pinned (OpenSpec.ofChange moneyScalesWrong)

/-- 'fareboxlaw05.MoneyTurned': WHATEVER THE INPUT: true; the input reads as it did. -/
def moneyTurnedSpec : ChangeSpec := { name := "moneyTurned", fn := fun _ => fun
  | [d1, d2] => { results := [.lit (.bool true)], args := [d1, d2] }
  | _ => none }
def moneyTurnedRow : OpenClaim := { program := "ytgcikobloimmnaa", sum := "5f5f97d33352d40f5423f2f079978b9a0a09559a8a72a4fa19cba289d709a1e7", func := "farebox/fareboxlaw05.MoneyTurned", spec := "moneyTurned", apart := false }
def MoneyTurnedSaid : Prop := moneyTurnedRow.holds Try.pinned (OpenSpec.ofChange moneyTurnedSpec)

/-- ITS FALSE NEIGHBOUR: 'it returns false'. Refute it at one input. -/
def moneyTurnedWrong : ChangeSpec := { name := "moneyTurned", fn := fun _ => fun
  | [d1, d2] => { results := [.lit (.bool false)], args := [d1, d2] }
  | _ => none }
def MoneyTurnedWrongFalsely : Prop := moneyTurnedRow.holds Try.pinned (OpenSpec.ofChange moneyTurnedWrong)

/-- 'fareboxlaw05.MoneyMore': WHATEVER THE INPUT: true; the input reads as it did. -/
def moneyMoreSpec : ChangeSpec := { name := "moneyMore", fn := fun _ => fun
  | [d1, d2, d3] => { results := [.lit (.bool true)], args := [d1, d2, d3] }
  | _ => none }
def moneyMoreRow : OpenClaim := { program := "ytgcikobloimmnaa", sum := "5f5f97d33352d40f5423f2f079978b9a0a09559a8a72a4fa19cba289d709a1e7", func := "farebox/fareboxlaw05.MoneyMore", spec := "moneyMore", apart := false }
def MoneyMoreSaid : Prop := moneyMoreRow.holds Try.pinned (OpenSpec.ofChange moneyMoreSpec)

/-- ITS FALSE NEIGHBOUR: 'it returns false'. Refute it at one input. -/
def moneyMoreWrong : ChangeSpec := { name := "moneyMore", fn := fun _ => fun
  | [d1, d2, d3] => { results := [.lit (.bool false)], args := [d1, d2, d3] }
  | _ => none }
def MoneyMoreWrongFalsely : Prop := moneyMoreRow.holds Try.pinned (OpenSpec.ofChange moneyMoreWrong)

/- THE SECOND FORM. 'bulk': how many values and letters a reading holds, each counted each time it is reached (what is shared counts as often as it is met; a slice's spare places count too). A statement '..UptoSaid' is the law's where the arguments, and the package variables that the reading takes, are together of bulk at most 1048576: NARROWER than '..Said'. Prove '..Said' where nothing that the law and all that it calls make is longer than what came in: it says more and counts as full. Else prove '..UptoSaid'. A law counts once. -/
mutual
def uptoBulk {H : Type} : DataW H → Nat
  | .lit (.string bytes) => bytes.length + 1
  | .lit _ => 1
  | .nil => 1
  | .ptr d => uptoBulk d + 1
  | .slice elems spare => uptoBulkAll elems + uptoBulkAll spare + 1
  | .agg parts => uptoBulkAll parts + 1
  | .iface _ d => uptoBulk d + 1
  | .map entries => uptoBulkEntries entries + 1
  | .held _ => 1
def uptoBulkAll {H : Type} : List (DataW H) → Nat
  | [] => 0
  | d :: r => uptoBulk d + uptoBulkAll r
def uptoBulkEntries {H : Type} : List (Lit × DataW H) → Nat
  | [] => 0
  | x :: r => uptoBulkEntry x + uptoBulkEntries r
def uptoBulkEntry {H : Type} : Lit × DataW H → Nat
  | (.string bytes, d) => bytes.length + uptoBulk d + 1
  | (_, d) => uptoBulk d + 1
 end
def uptoSmall : (H : Type) → List (DataW H) → Bool := fun _ ds => decide (uptoBulkAll ds ≤ 1048576)
def OpenSpec.upto (s : _root_.Go.ChangeSpec) : _root_.Go.OpenSpec := { _root_.Go.OpenSpec.ofChange s with cond := some uptoSmall }

/-- 'fareboxlaw05.MoneySums', WHERE WHAT IT READS IS OF BULK AT MOST 1048576: true; the input reads as it did. -/
def moneySumsUptoRow : OpenClaim := { program := "ytgcikobloimmnaa", sum := "5f5f97d33352d40f5423f2f079978b9a0a09559a8a72a4fa19cba289d709a1e7", func := "farebox/fareboxlaw05.MoneySums", spec := "moneySums", apart := false, narrowed := true }
def MoneySumsUptoSaid : Prop := moneySumsUptoRow.holds Try.pinned (OpenSpec.upto moneySumsSpec)

/-- 'fareboxlaw05.MoneySplits', WHERE WHAT IT READS IS OF BULK AT MOST 1048576: true; the input reads as it did. -/
def moneySplitsUptoRow : OpenClaim := { program := "ytgcikobloimmnaa", sum := "5f5f97d33352d40f5423f2f079978b9a0a09559a8a72a4fa19cba289d709a1e7", func := "farebox/fareboxlaw05.MoneySplits", spec := "moneySplits", apart := false, narrowed := true }
def MoneySplitsUptoSaid : Prop := moneySplitsUptoRow.holds Try.pinned (OpenSpec.upto moneySplitsSpec)

/-- 'fareboxlaw05.MoneyExact', WHERE WHAT IT READS IS OF BULK AT MOST 1048576: true; the input reads as it did. -/
def moneyExactUptoRow : OpenClaim := { program := "ytgcikobloimmnaa", sum := "5f5f97d33352d40f5423f2f079978b9a0a09559a8a72a4fa19cba289d709a1e7", func := "farebox/fareboxlaw05.MoneyExact", spec := "moneyExact", apart := false, narrowed := true }
def MoneyExactUptoSaid : Prop := moneyExactUptoRow.holds Try.pinned (OpenSpec.upto moneyExactSpec)

/-- 'fareboxlaw05.MoneyScales', WHERE WHAT IT READS IS OF BULK AT MOST 1048576: true; the input reads as it did. -/
def moneyScalesUptoRow : OpenClaim := { program := "ytgcikobloimmnaa", sum := "5f5f97d33352d40f5423f2f079978b9a0a09559a8a72a4fa19cba289d709a1e7", func := "farebox/fareboxlaw05.MoneyScales", spec := "moneyScales", apart := false, narrowed := true }
def MoneyScalesUptoSaid : Prop := moneyScalesUptoRow.holds Try.pinned (OpenSpec.upto moneyScalesSpec)

/-- 'fareboxlaw05.MoneyTurned', WHERE WHAT IT READS IS OF BULK AT MOST 1048576: true; the input reads as it did. -/
def moneyTurnedUptoRow : OpenClaim := { program := "ytgcikobloimmnaa", sum := "5f5f97d33352d40f5423f2f079978b9a0a09559a8a72a4fa19cba289d709a1e7", func := "farebox/fareboxlaw05.MoneyTurned", spec := "moneyTurned", apart := false, narrowed := true }
def MoneyTurnedUptoSaid : Prop := moneyTurnedUptoRow.holds Try.pinned (OpenSpec.upto moneyTurnedSpec)

/-- 'fareboxlaw05.MoneyMore', WHERE WHAT IT READS IS OF BULK AT MOST 1048576: true; the input reads as it did. -/
def moneyMoreUptoRow : OpenClaim := { program := "ytgcikobloimmnaa", sum := "5f5f97d33352d40f5423f2f079978b9a0a09559a8a72a4fa19cba289d709a1e7", func := "farebox/fareboxlaw05.MoneyMore", spec := "moneyMore", apart := false, narrowed := true }
def MoneyMoreUptoSaid : Prop := moneyMoreUptoRow.holds Try.pinned (OpenSpec.upto moneyMoreSpec)

end Rows
end Go.Proofs.Ytgcikobloimmnaa
