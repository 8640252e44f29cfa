/-
  No cell of these rows narrows 'for every input' (looked for: loops, veiled, ifaces, maps, wideKeys, modest, calm, conditions, laid).
  DERIVED. THE GIVEN ROWS OF THIS SEAT. 5 by the template 'for every input the law returns true; each argument reads behind the call as it read before'; 0 by the template 'total and deterministic' (their statements: YtkcokcanakljnaaTotals.lean).
  GIVEN WITH THE SEED: the statements are not yours to turn. If you find one false, say at which input.
  Laid BY PROGRAM, IN A SANDBOX (cutbox-rows.mjs): the forced cells as the released guide's own fill.sh prints them over the translation 77c432860c3890ce… (all of the seat's roots in one cut). By AI agents, Wed Nov 11 2026. No macro, syntax, notation, axiom, sorry.
-/
import Derived.Test.YtkcokcanakljnaaChecked
import GoSem.Claim
import GoSem.ClaimJoined
import GoSem.ClaimMapViews
import Derived.JoinedTies
import Derived.KernelRfl
namespace Go.Proofs.Ytkcokcanakljnaa
/- THE CELL 'sum', in the pinned program and in every row, IS THE sha256 OF THE DUMP (.gsa) THAT YtkcokcanakljnaaProg.lean LOADS. Nothing in Lean hashes anything: it is a label: what it is worth is what the hold of that sum in a sandbox is worth. -/
noncomputable def Try.pinned : Pinned := { name := "ytkcokcanakljnaa", sum := "77c432860c3890ceb42c36b84604f03bc7f147d2f288cef21a51f70a8fd0ee19", checked := Try.checked }
namespace Rows
def none {H : Type} : Left H := { results := [], args := [] }

/-- 'fareboxlaw10.IpeForms': WHATEVER THE INPUT: true; the input reads as it did. -/
def ipeFormsSpec : ChangeSpec := { name := "ipeForms", fn := fun _ => fun
  | [d1, d2] => { results := [.lit (.bool true)], args := [d1, d2] }
  | _ => none }
def ipeFormsRow : OpenClaim := { program := "ytkcokcanakljnaa", sum := "77c432860c3890ceb42c36b84604f03bc7f147d2f288cef21a51f70a8fd0ee19", func := "farebox/fareboxlaw10.IpeForms", spec := "ipeForms", unfollowed := true, recurses := true, plainKeys := false, apart := false }
def IpeFormsSaid : Prop := ipeFormsRow.holds Try.pinned (OpenSpec.ofChange ipeFormsSpec)

/-- ITS FALSE NEIGHBOUR: 'it returns false'. Refute it at one input. -/
def ipeFormsWrong : ChangeSpec := { name := "ipeForms", fn := fun _ => fun
  | [d1, d2] => { results := [.lit (.bool false)], args := [d1, d2] }
  | _ => none }
def IpeFormsWrongFalsely : Prop := ipeFormsRow.holds Try.pinned (OpenSpec.ofChange ipeFormsWrong)

/-- 'fareboxlaw10.IpeReads': WHATEVER THE INPUT: true; the input reads as it did. -/
def ipeReadsSpec : ChangeSpec := { name := "ipeReads", fn := fun _ => fun
  | [d1, d2] => { results := [.lit (.bool true)], args := [d1, d2] }
  | _ => none }
def ipeReadsRow : OpenClaim := { program := "ytkcokcanakljnaa", sum := "77c432860c3890ceb42c36b84604f03bc7f147d2f288cef21a51f70a8fd0ee19", func := "farebox/fareboxlaw10.IpeReads", spec := "ipeReads", unfollowed := true, recurses := true, plainKeys := false, apart := false }
def IpeReadsSaid : Prop := ipeReadsRow.holds Try.pinned (OpenSpec.ofChange ipeReadsSpec)

/-- ITS FALSE NEIGHBOUR: 'it returns false'. Refute it at one input. -/
def ipeReadsWrong : ChangeSpec := { name := "ipeReads", fn := fun _ => fun
  | [d1, d2] => { results := [.lit (.bool false)], args := [d1, d2] }
  | _ => none }
def IpeReadsWrongFalsely : Prop := ipeReadsRow.holds Try.pinned (OpenSpec.ofChange ipeReadsWrong)

/-- 'fareboxlaw11.IsamSealed': WHATEVER THE INPUT: true; the input reads as it did. -/
def isamSealedSpec : ChangeSpec := { name := "isamSealed", fn := fun _ => fun
  | [d1, d2] => { results := [.lit (.bool true)], args := [d1, d2] }
  | _ => none }
def isamSealedRow : OpenClaim := { program := "ytkcokcanakljnaa", sum := "77c432860c3890ceb42c36b84604f03bc7f147d2f288cef21a51f70a8fd0ee19", func := "farebox/fareboxlaw11.IsamSealed", spec := "isamSealed", inPlace := ["internal/bytealg.MakeNoZero"], unfollowed := true, recurses := true, plainKeys := false, apart := false }
def IsamSealedSaid : Prop := isamSealedRow.holds Try.pinned (OpenSpec.ofChange isamSealedSpec)

/-- ITS FALSE NEIGHBOUR: 'it returns false'. Refute it at one input. -/
def isamSealedWrong : ChangeSpec := { name := "isamSealed", fn := fun _ => fun
  | [d1, d2] => { results := [.lit (.bool false)], args := [d1, d2] }
  | _ => none }
def IsamSealedWrongFalsely : Prop := isamSealedRow.holds Try.pinned (OpenSpec.ofChange isamSealedWrong)

/-- 'fareboxlaw11.IsamNumbers': WHATEVER THE INPUT: true; the input reads as it did. -/
def isamNumbersSpec : ChangeSpec := { name := "isamNumbers", fn := fun _ => fun
  | [d1, d2] => { results := [.lit (.bool true)], args := [d1, d2] }
  | _ => none }
def isamNumbersRow : OpenClaim := { program := "ytkcokcanakljnaa", sum := "77c432860c3890ceb42c36b84604f03bc7f147d2f288cef21a51f70a8fd0ee19", func := "farebox/fareboxlaw11.IsamNumbers", spec := "isamNumbers", inPlace := ["internal/bytealg.MakeNoZero"], unfollowed := true, recurses := true, plainKeys := false, apart := false }
def IsamNumbersSaid : Prop := isamNumbersRow.holds Try.pinned (OpenSpec.ofChange isamNumbersSpec)

/-- ITS FALSE NEIGHBOUR: 'it returns false'. Refute it at one input. -/
def isamNumbersWrong : ChangeSpec := { name := "isamNumbers", fn := fun _ => fun
  | [d1, d2] => { results := [.lit (.bool false)], args := [d1, d2] }
  | _ => none }
def IsamNumbersWrongFalsely : Prop := isamNumbersRow.holds Try.pinned (OpenSpec.ofChange isamNumbersWrong)

/-- 'fareboxlaw11.IsamOwners': WHATEVER THE INPUT: true; the input reads as it did. -/
def isamOwnersSpec : ChangeSpec := { name := "isamOwners", fn := fun _ => fun
  | [d1, d2, d3] => { results := [.lit (.bool true)], args := [d1, d2, d3] }
  | _ => none }
def isamOwnersRow : OpenClaim := { program := "ytkcokcanakljnaa", sum := "77c432860c3890ceb42c36b84604f03bc7f147d2f288cef21a51f70a8fd0ee19", func := "farebox/fareboxlaw11.IsamOwners", spec := "isamOwners", inPlace := ["internal/bytealg.MakeNoZero"], unfollowed := true, recurses := true, plainKeys := false, apart := false }
def IsamOwnersSaid : Prop := isamOwnersRow.holds Try.pinned (OpenSpec.ofChange isamOwnersSpec)

/-- ITS FALSE NEIGHBOUR: 'it returns false'. Refute it at one input. -/
def isamOwnersWrong : ChangeSpec := { name := "isamOwners", fn := fun _ => fun
  | [d1, d2, d3] => { results := [.lit (.bool false)], args := [d1, d2, d3] }
  | _ => none }
def IsamOwnersWrongFalsely : Prop := isamOwnersRow.holds Try.pinned (OpenSpec.ofChange isamOwnersWrong)

/- THE SECOND FORM. 'bulk': how many values and letters a reading holds, each counted each time it is reached (what is shared counts as often as it is met; a slice's spare places count too). A statement '..UptoSaid' is the law's where the arguments, and the package variables that the reading takes, are together of bulk at most 1048576: NARROWER than '..Said'. Prove '..Said' where nothing that the law and all that it calls make is longer than what came in: it says more and counts as full. Else prove '..UptoSaid'. A law counts once. -/
mutual
def uptoBulk {H : Type} : DataW H → Nat
  | .lit (.string bytes) => bytes.length + 1
  | .lit _ => 1
  | .nil => 1
  | .ptr d => uptoBulk d + 1
  | .slice elems spare => uptoBulkAll elems + uptoBulkAll spare + 1
  | .agg parts => uptoBulkAll parts + 1
  | .iface _ d => uptoBulk d + 1
  | .map entries => uptoBulkEntries entries + 1
  | .held _ => 1
def uptoBulkAll {H : Type} : List (DataW H) → Nat
  | [] => 0
  | d :: r => uptoBulk d + uptoBulkAll r
def uptoBulkEntries {H : Type} : List (Lit × DataW H) → Nat
  | [] => 0
  | x :: r => uptoBulkEntry x + uptoBulkEntries r
def uptoBulkEntry {H : Type} : Lit × DataW H → Nat
  | (.string bytes, d) => bytes.length + uptoBulk d + 1
  | (_, d) => uptoBulk d + 1
 end
def uptoSmall : (H : Type) → List (DataW H) → Bool := fun _ ds => decide (uptoBulkAll ds ≤ 1048576)
def OpenSpec.upto (s : _root_.Go.ChangeSpec) : _root_.Go.OpenSpec := { _root_.Go.OpenSpec.ofChange s with cond := some uptoSmall }

/-- 'fareboxlaw10.IpeForms', WHERE WHAT IT READS IS OF BULK AT MOST 1048576: true; the input reads as it did. -/
def ipeFormsUptoRow : OpenClaim := { program := "ytkcokcanakljnaa", sum := "77c432860c3890ceb42c36b84604f03bc7f147d2f288cef21a51f70a8fd0ee19", func := "farebox/fareboxlaw10.IpeForms", spec := "ipeForms", unfollowed := true, recurses := true, plainKeys := false, apart := false, narrowed := true }
def IpeFormsUptoSaid : Prop := ipeFormsUptoRow.holds Try.pinned (OpenSpec.upto ipeFormsSpec)

/-- 'fareboxlaw10.IpeReads', WHERE WHAT IT READS IS OF BULK AT MOST 1048576: true; the input reads as it did. -/
def ipeReadsUptoRow : OpenClaim := { program := "ytkcokcanakljnaa", sum := "77c432860c3890ceb42c36b84604f03bc7f147d2f288cef21a51f70a8fd0ee19", func := "farebox/fareboxlaw10.IpeReads", spec := "ipeReads", unfollowed := true, recurses := true, plainKeys := false, apart := false, narrowed := true }
def IpeReadsUptoSaid : Prop := ipeReadsUptoRow.holds Try.pinned (OpenSpec.upto ipeReadsSpec)

/-- 'fareboxlaw11.IsamSealed', WHERE WHAT IT READS IS OF BULK AT MOST 1048576: true; the input reads as it did. -/
def isamSealedUptoRow : OpenClaim := { program := "ytkcokcanakljnaa", sum := "77c432860c3890ceb42c36b84604f03bc7f147d2f288cef21a51f70a8fd0ee19", func := "farebox/fareboxlaw11.IsamSealed", spec := "isamSealed", inPlace := ["internal/bytealg.MakeNoZero"], unfollowed := true, recurses := true, plainKeys := false, apart := false, narrowed := true }
def IsamSealedUptoSaid : Prop := isamSealedUptoRow.holds Try.pinned (OpenSpec.upto isamSealedSpec)

/-- 'fareboxlaw11.IsamNumbers', WHERE WHAT IT READS IS OF BULK AT MOST 1048576: true; the input reads as it did. -/
def isamNumbersUptoRow : OpenClaim := { program := "ytkcokcanakljnaa", sum := "77c432860c3890ceb42c36b84604f03bc7f147d2f288cef21a51f70a8fd0ee19", func := "farebox/fareboxlaw11.IsamNumbers", spec := "isamNumbers", inPlace := ["internal/bytealg.MakeNoZero"], unfollowed := true, recurses := true, plainKeys := false, apart := false, narrowed := true }
def IsamNumbersUptoSaid : Prop := isamNumbersUptoRow.holds Try.pinned (OpenSpec.upto isamNumbersSpec)

/-- 'fareboxlaw11.IsamOwners', WHERE WHAT IT READS IS OF BULK AT MOST 1048576: true; the input reads as it did. -/
def isamOwnersUptoRow : OpenClaim := { program := "ytkcokcanakljnaa", sum := "77c432860c3890ceb42c36b84604f03bc7f147d2f288cef21a51f70a8fd0ee19", func := "farebox/fareboxlaw11.IsamOwners", spec := "isamOwners", inPlace := ["internal/bytealg.MakeNoZero"], unfollowed := true, recurses := true, plainKeys := false, apart := false, narrowed := true }
def IsamOwnersUptoSaid : Prop := isamOwnersUptoRow.holds Try.pinned (OpenSpec.upto isamOwnersSpec)

end Rows
end Go.Proofs.Ytkcokcanakljnaa
