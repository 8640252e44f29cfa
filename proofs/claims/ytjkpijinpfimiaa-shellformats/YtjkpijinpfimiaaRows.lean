/-
  No cell of these rows narrows 'for every input' (looked for: loops, veiled, ifaces, maps, wideKeys, modest, calm, conditions, laid).
  DERIVED. THE GIVEN ROWS OF THIS SEAT. 5 by the template 'for every input the law returns true; each argument reads behind the call as it read before'; 0 by the template 'total and deterministic' (their statements: YtjkpijinpfimiaaTotals.lean).
  GIVEN WITH THE SEED: the statements are not yours to turn. If you find one false, say at which input.
  Laid BY PROGRAM, IN A SANDBOX (cutbox-rows.mjs): the forced cells as the released guide's own fill.sh prints them over the translation 9f8bda7a6247a0ca… (all of the seat's roots in one cut). By AI agents, Wed Nov 11 2026. No macro, syntax, notation, axiom, sorry.
-/
import Derived.Test.YtjkpijinpfimiaaChecked
import GoSem.Claim
import GoSem.ClaimJoined
import GoSem.ClaimMapViews
import Derived.JoinedTies
import Derived.KernelRfl
namespace Go.Proofs.Ytjkpijinpfimiaa
/- THE CELL 'sum', in the pinned program and in every row, IS THE sha256 OF THE DUMP (.gsa) THAT YtjkpijinpfimiaaProg.lean LOADS. Nothing in Lean hashes anything: it is a label: what it is worth is what the hold of that sum in a sandbox is worth. -/
noncomputable def Try.pinned : Pinned := { name := "ytjkpijinpfimiaa", sum := "9f8bda7a6247a0cab3f0c79265217a35241a39b440645ac69c74d4ac6c91ab4a", checked := Try.checked }
namespace Rows
def none {H : Type} : Left H := { results := [], args := [] }

/-- 'fareboxlaw07.ShellReads': WHATEVER THE INPUT: true; the input reads as it did. -/
def shellReadsSpec : ChangeSpec := { name := "shellReads", fn := fun _ => fun
  | [d] => { results := [.lit (.bool true)], args := [d] }
  | _ => none }
def shellReadsRow : OpenClaim := { program := "ytjkpijinpfimiaa", sum := "9f8bda7a6247a0cab3f0c79265217a35241a39b440645ac69c74d4ac6c91ab4a", func := "farebox/fareboxlaw07.ShellReads", spec := "shellReads", unfollowed := true, recurses := true, apart := false }
def ShellReadsSaid : Prop := shellReadsRow.holds Try.pinned (OpenSpec.ofChange shellReadsSpec)

/-- ITS FALSE NEIGHBOUR: 'it returns false'. Refute it at one input. -/
def shellReadsWrong : ChangeSpec := { name := "shellReads", fn := fun _ => fun
  | [d] => { results := [.lit (.bool false)], args := [d] }
  | _ => none }
def ShellReadsWrongFalsely : Prop := shellReadsRow.holds Try.pinned (OpenSpec.ofChange shellReadsWrong)

/-- 'fareboxlaw07.ShellFormats': WHATEVER THE INPUT: true; the input reads as it did. -/
def shellFormatsSpec : ChangeSpec := { name := "shellFormats", fn := fun _ => fun
  | [d] => { results := [.lit (.bool true)], args := [d] }
  | _ => none }
def shellFormatsRow : OpenClaim := { program := "ytjkpijinpfimiaa", sum := "9f8bda7a6247a0cab3f0c79265217a35241a39b440645ac69c74d4ac6c91ab4a", func := "farebox/fareboxlaw07.ShellFormats", spec := "shellFormats", unfollowed := true, recurses := true, apart := false }
def ShellFormatsSaid : Prop := shellFormatsRow.holds Try.pinned (OpenSpec.ofChange shellFormatsSpec)

/-- ITS FALSE NEIGHBOUR: 'it returns false'. Refute it at one input. -/
def shellFormatsWrong : ChangeSpec := { name := "shellFormats", fn := fun _ => fun
  | [d] => { results := [.lit (.bool false)], args := [d] }
  | _ => none }
def ShellFormatsWrongFalsely : Prop := shellFormatsRow.holds Try.pinned (OpenSpec.ofChange shellFormatsWrong)

/-- 'fareboxlaw07.ShellChanges': WHATEVER THE INPUT: true; the input reads as it did. -/
def shellChangesSpec : ChangeSpec := { name := "shellChanges", fn := fun _ => fun
  | [d1, d2] => { results := [.lit (.bool true)], args := [d1, d2] }
  | _ => none }
def shellChangesRow : OpenClaim := { program := "ytjkpijinpfimiaa", sum := "9f8bda7a6247a0cab3f0c79265217a35241a39b440645ac69c74d4ac6c91ab4a", func := "farebox/fareboxlaw07.ShellChanges", spec := "shellChanges", unfollowed := true, recurses := true, apart := false }
def ShellChangesSaid : Prop := shellChangesRow.holds Try.pinned (OpenSpec.ofChange shellChangesSpec)

/-- ITS FALSE NEIGHBOUR: 'it returns false'. Refute it at one input. -/
def shellChangesWrong : ChangeSpec := { name := "shellChanges", fn := fun _ => fun
  | [d1, d2] => { results := [.lit (.bool false)], args := [d1, d2] }
  | _ => none }
def ShellChangesWrongFalsely : Prop := shellChangesRow.holds Try.pinned (OpenSpec.ofChange shellChangesWrong)

/-- 'fareboxlaw07.ShellTorn': WHATEVER THE INPUT: true; the input reads as it did. -/
def shellTornSpec : ChangeSpec := { name := "shellTorn", fn := fun _ => fun
  | [d] => { results := [.lit (.bool true)], args := [d] }
  | _ => none }
def shellTornRow : OpenClaim := { program := "ytjkpijinpfimiaa", sum := "9f8bda7a6247a0cab3f0c79265217a35241a39b440645ac69c74d4ac6c91ab4a", func := "farebox/fareboxlaw07.ShellTorn", spec := "shellTorn", unfollowed := true, recurses := true, apart := false }
def ShellTornSaid : Prop := shellTornRow.holds Try.pinned (OpenSpec.ofChange shellTornSpec)

/-- ITS FALSE NEIGHBOUR: 'it returns false'. Refute it at one input. -/
def shellTornWrong : ChangeSpec := { name := "shellTorn", fn := fun _ => fun
  | [d] => { results := [.lit (.bool false)], args := [d] }
  | _ => none }
def ShellTornWrongFalsely : Prop := shellTornRow.holds Try.pinned (OpenSpec.ofChange shellTornWrong)

/-- 'fareboxlaw07.ShellKeeps': WHATEVER THE INPUT: true; the input reads as it did. -/
def shellKeepsSpec : ChangeSpec := { name := "shellKeeps", fn := fun _ => fun
  | [d1, d2] => { results := [.lit (.bool true)], args := [d1, d2] }
  | _ => none }
def shellKeepsRow : OpenClaim := { program := "ytjkpijinpfimiaa", sum := "9f8bda7a6247a0cab3f0c79265217a35241a39b440645ac69c74d4ac6c91ab4a", func := "farebox/fareboxlaw07.ShellKeeps", spec := "shellKeeps", unfollowed := true, recurses := true, apart := false }
def ShellKeepsSaid : Prop := shellKeepsRow.holds Try.pinned (OpenSpec.ofChange shellKeepsSpec)

/-- ITS FALSE NEIGHBOUR: 'it returns false'. Refute it at one input. -/
def shellKeepsWrong : ChangeSpec := { name := "shellKeeps", fn := fun _ => fun
  | [d1, d2] => { results := [.lit (.bool false)], args := [d1, d2] }
  | _ => none }
def ShellKeepsWrongFalsely : Prop := shellKeepsRow.holds Try.pinned (OpenSpec.ofChange shellKeepsWrong)

/- THE SECOND FORM. 'bulk': how many values and letters a reading holds, each counted each time it is reached (what is shared counts as often as it is met; a slice's spare places count too). A statement '..UptoSaid' is the law's where the arguments, and the package variables that the reading takes, are together of bulk at most 1048576: NARROWER than '..Said'. Prove '..Said' where nothing that the law and all that it calls make is longer than what came in: it says more and counts as full. Else prove '..UptoSaid'. A law counts once. -/
mutual
def uptoBulk {H : Type} : DataW H → Nat
  | .lit (.string bytes) => bytes.length + 1
  | .lit _ => 1
  | .nil => 1
  | .ptr d => uptoBulk d + 1
  | .slice elems spare => uptoBulkAll elems + uptoBulkAll spare + 1
  | .agg parts => uptoBulkAll parts + 1
  | .iface _ d => uptoBulk d + 1
  | .map entries => uptoBulkEntries entries + 1
  | .held _ => 1
def uptoBulkAll {H : Type} : List (DataW H) → Nat
  | [] => 0
  | d :: r => uptoBulk d + uptoBulkAll r
def uptoBulkEntries {H : Type} : List (Lit × DataW H) → Nat
  | [] => 0
  | x :: r => uptoBulkEntry x + uptoBulkEntries r
def uptoBulkEntry {H : Type} : Lit × DataW H → Nat
  | (.string bytes, d) => bytes.length + uptoBulk d + 1
  | (_, d) => uptoBulk d + 1
 end
def uptoSmall : (H : Type) → List (DataW H) → Bool := fun _ ds => decide (uptoBulkAll ds ≤ 1048576)
def OpenSpec.upto (s : _root_.Go.ChangeSpec) : _root_.Go.OpenSpec := { _root_.Go.OpenSpec.ofChange s with cond := some uptoSmall }

/-- 'fareboxlaw07.ShellReads', WHERE WHAT IT READS IS OF BULK AT MOST 1048576: true; the input reads as it did. -/
def shellReadsUptoRow : OpenClaim := { program := "ytjkpijinpfimiaa", sum := "9f8bda7a6247a0cab3f0c79265217a35241a39b440645ac69c74d4ac6c91ab4a", func := "farebox/fareboxlaw07.ShellReads", spec := "shellReads", unfollowed := true, recurses := true, apart := false, narrowed := true }
def ShellReadsUptoSaid : Prop := shellReadsUptoRow.holds Try.pinned (OpenSpec.upto shellReadsSpec)

/-- 'fareboxlaw07.ShellFormats', WHERE WHAT IT READS IS OF BULK AT MOST 1048576: true; the input reads as it did. -/
def shellFormatsUptoRow : OpenClaim := { program := "ytjkpijinpfimiaa", sum := "9f8bda7a6247a0cab3f0c79265217a35241a39b440645ac69c74d4ac6c91ab4a", func := "farebox/fareboxlaw07.ShellFormats", spec := "shellFormats", unfollowed := true, recurses := true, apart := false, narrowed := true }
def ShellFormatsUptoSaid : Prop := shellFormatsUptoRow.holds Try.pinned (OpenSpec.upto shellFormatsSpec)

/-- 'fareboxlaw07.ShellChanges', WHERE WHAT IT READS IS OF BULK AT MOST 1048576: true; the input reads as it did. -/
def shellChangesUptoRow : OpenClaim := { program := "ytjkpijinpfimiaa", sum := "9f8bda7a6247a0cab3f0c79265217a35241a39b440645ac69c74d4ac6c91ab4a", func := "farebox/fareboxlaw07.ShellChanges", spec := "shellChanges", unfollowed := true, recurses := true, apart := false, narrowed := true }
def ShellChangesUptoSaid : Prop := shellChangesUptoRow.holds Try.pinned (OpenSpec.upto shellChangesSpec)

/-- 'fareboxlaw07.ShellTorn', WHERE WHAT IT READS IS OF BULK AT MOST 1048576: true; the input reads as it did. -/
def shellTornUptoRow : OpenClaim := { program := "ytjkpijinpfimiaa", sum := "9f8bda7a6247a0cab3f0c79265217a35241a39b440645ac69c74d4ac6c91ab4a", func := "farebox/fareboxlaw07.ShellTorn", spec := "shellTorn", unfollowed := true, recurses := true, apart := false, narrowed := true }
def ShellTornUptoSaid : Prop := shellTornUptoRow.holds Try.pinned (OpenSpec.upto shellTornSpec)

/-- 'fareboxlaw07.ShellKeeps', WHERE WHAT IT READS IS OF BULK AT MOST 1048576: true; the input reads as it did. -/
def shellKeepsUptoRow : OpenClaim := { program := "ytjkpijinpfimiaa", sum := "9f8bda7a6247a0cab3f0c79265217a35241a39b440645ac69c74d4ac6c91ab4a", func := "farebox/fareboxlaw07.ShellKeeps", spec := "shellKeeps", unfollowed := true, recurses := true, apart := false, narrowed := true }
def ShellKeepsUptoSaid : Prop := shellKeepsUptoRow.holds Try.pinned (OpenSpec.upto shellKeepsSpec)

end Rows
end Go.Proofs.Ytjkpijinpfimiaa
