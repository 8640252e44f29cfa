/-
  No cell of these rows narrows 'for every input' (looked for: loops, veiled, ifaces, maps, wideKeys, modest, calm, conditions, laid).
  DERIVED. THE GIVEN ROWS OF THIS SEAT. 5 by the template 'for every input the law returns true; each argument reads behind the call as it read before'; 0 by the template 'total and deterministic' (their statements: YtkegafkmcdkphaaTotals.lean).
  GIVEN WITH THE SEED: the statements are not yours to turn. If you find one false, say at which input.
  Laid BY PROGRAM, IN A SANDBOX (cutbox-rows.mjs): the forced cells as the released guide's own fill.sh prints them over the translation b84fe2acf7e8c69b… (all of the seat's roots in one cut). By AI agents, Wed Nov 11 2026. No macro, syntax, notation, axiom, sorry.
-/
import Derived.Test.YtkegafkmcdkphaaChecked
import GoSem.Claim
import GoSem.ClaimJoined
import GoSem.ClaimMapViews
import Derived.JoinedTies
import Derived.KernelRfl
namespace Go.Proofs.Ytkegafkmcdkphaa
/- THE CELL 'sum', in the pinned program and in every row, IS THE sha256 OF THE DUMP (.gsa) THAT YtkegafkmcdkphaaProg.lean LOADS. Nothing in Lean hashes anything: it is a label: what it is worth is what the hold of that sum in a sandbox is worth. -/
noncomputable def Try.pinned : Pinned := { name := "ytkegafkmcdkphaa", sum := "b84fe2acf7e8c69b9d633e5c540c4475f47fcb22a875576d4856d77f7507bbf3", checked := Try.checked }
namespace Rows
def none {H : Type} : Left H := { results := [], args := [] }

/-- 'fareboxlaw09.KeysAsks': WHATEVER THE INPUT: true; the input reads as it did. -/
def keysAsksSpec : ChangeSpec := { name := "keysAsks", fn := fun _ => fun
  | [d1, d2, d3] => { results := [.lit (.bool true)], args := [d1, d2, d3] }
  | _ => none }
def keysAsksRow : OpenClaim := { program := "ytkegafkmcdkphaa", sum := "b84fe2acf7e8c69b9d633e5c540c4475f47fcb22a875576d4856d77f7507bbf3", func := "farebox/fareboxlaw09.KeysAsks", spec := "keysAsks", apart := false }
def KeysAsksSaid : Prop := keysAsksRow.holds Try.pinned (OpenSpec.ofChange keysAsksSpec)

/-- ITS FALSE NEIGHBOUR: 'it returns false'. Refute it at one input. -/
def keysAsksWrong : ChangeSpec := { name := "keysAsks", fn := fun _ => fun
  | [d1, d2, d3] => { results := [.lit (.bool false)], args := [d1, d2, d3] }
  | _ => none }
def KeysAsksWrongFalsely : Prop := keysAsksRow.holds Try.pinned (OpenSpec.ofChange keysAsksWrong)

/-- 'fareboxlaw09.KeysRolls': WHATEVER THE INPUT: true; the input reads as it did. -/
def keysRollsSpec : ChangeSpec := { name := "keysRolls", fn := fun _ => fun
  | [d1, d2] => { results := [.lit (.bool true)], args := [d1, d2] }
  | _ => none }
def keysRollsRow : OpenClaim := { program := "ytkegafkmcdkphaa", sum := "b84fe2acf7e8c69b9d633e5c540c4475f47fcb22a875576d4856d77f7507bbf3", func := "farebox/fareboxlaw09.KeysRolls", spec := "keysRolls", apart := false }
def KeysRollsSaid : Prop := keysRollsRow.holds Try.pinned (OpenSpec.ofChange keysRollsSpec)

/-- ITS FALSE NEIGHBOUR: 'it returns false'. Refute it at one input. -/
def keysRollsWrong : ChangeSpec := { name := "keysRolls", fn := fun _ => fun
  | [d1, d2] => { results := [.lit (.bool false)], args := [d1, d2] }
  | _ => none }
def KeysRollsWrongFalsely : Prop := keysRollsRow.holds Try.pinned (OpenSpec.ofChange keysRollsWrong)

/-- 'fareboxlaw09.KeysDown': WHATEVER THE INPUT: true; the input reads as it did. -/
def keysDownSpec : ChangeSpec := { name := "keysDown", fn := fun _ => fun
  | [d1, d2] => { results := [.lit (.bool true)], args := [d1, d2] }
  | _ => none }
def keysDownRow : OpenClaim := { program := "ytkegafkmcdkphaa", sum := "b84fe2acf7e8c69b9d633e5c540c4475f47fcb22a875576d4856d77f7507bbf3", func := "farebox/fareboxlaw09.KeysDown", spec := "keysDown", apart := false }
def KeysDownSaid : Prop := keysDownRow.holds Try.pinned (OpenSpec.ofChange keysDownSpec)

/-- ITS FALSE NEIGHBOUR: 'it returns false'. Refute it at one input. -/
def keysDownWrong : ChangeSpec := { name := "keysDown", fn := fun _ => fun
  | [d1, d2] => { results := [.lit (.bool false)], args := [d1, d2] }
  | _ => none }
def KeysDownWrongFalsely : Prop := keysDownRow.holds Try.pinned (OpenSpec.ofChange keysDownWrong)

/-- 'fareboxlaw09.KeysApart': WHATEVER THE INPUT: true; the input reads as it did. -/
def keysApartSpec : ChangeSpec := { name := "keysApart", fn := fun _ => fun
  | [d1, d2] => { results := [.lit (.bool true)], args := [d1, d2] }
  | _ => none }
def keysApartRow : OpenClaim := { program := "ytkegafkmcdkphaa", sum := "b84fe2acf7e8c69b9d633e5c540c4475f47fcb22a875576d4856d77f7507bbf3", func := "farebox/fareboxlaw09.KeysApart", spec := "keysApart", apart := false }
def KeysApartSaid : Prop := keysApartRow.holds Try.pinned (OpenSpec.ofChange keysApartSpec)

/-- ITS FALSE NEIGHBOUR: 'it returns false'. Refute it at one input. -/
def keysApartWrong : ChangeSpec := { name := "keysApart", fn := fun _ => fun
  | [d1, d2] => { results := [.lit (.bool false)], args := [d1, d2] }
  | _ => none }
def KeysApartWrongFalsely : Prop := keysApartRow.holds Try.pinned (OpenSpec.ofChange keysApartWrong)

/-- 'fareboxlaw09.KeysProducts': WHATEVER THE INPUT: true; the input reads as it did. -/
def keysProductsSpec : ChangeSpec := { name := "keysProducts", fn := fun _ => fun
  | [d1, d2, d3] => { results := [.lit (.bool true)], args := [d1, d2, d3] }
  | _ => none }
def keysProductsRow : OpenClaim := { program := "ytkegafkmcdkphaa", sum := "b84fe2acf7e8c69b9d633e5c540c4475f47fcb22a875576d4856d77f7507bbf3", func := "farebox/fareboxlaw09.KeysProducts", spec := "keysProducts", apart := false }
def KeysProductsSaid : Prop := keysProductsRow.holds Try.pinned (OpenSpec.ofChange keysProductsSpec)

/-- ITS FALSE NEIGHBOUR: 'it returns false'. Refute it at one input. -/
def keysProductsWrong : ChangeSpec := { name := "keysProducts", fn := fun _ => fun
  | [d1, d2, d3] => { results := [.lit (.bool false)], args := [d1, d2, d3] }
  | _ => none }
def KeysProductsWrongFalsely : Prop := keysProductsRow.holds Try.pinned (OpenSpec.ofChange keysProductsWrong)

/- THE SECOND FORM. 'bulk': how many values and letters a reading holds, each counted each time it is reached (what is shared counts as often as it is met; a slice's spare places count too). A statement '..UptoSaid' is the law's where the arguments, and the package variables that the reading takes, are together of bulk at most 1048576: NARROWER than '..Said'. Prove '..Said' where nothing that the law and all that it calls make is longer than what came in: it says more and counts as full. Else prove '..UptoSaid'. A law counts once. -/
mutual
def uptoBulk {H : Type} : DataW H → Nat
  | .lit (.string bytes) => bytes.length + 1
  | .lit _ => 1
  | .nil => 1
  | .ptr d => uptoBulk d + 1
  | .slice elems spare => uptoBulkAll elems + uptoBulkAll spare + 1
  | .agg parts => uptoBulkAll parts + 1
  | .iface _ d => uptoBulk d + 1
  | .map entries => uptoBulkEntries entries + 1
  | .held _ => 1
def uptoBulkAll {H : Type} : List (DataW H) → Nat
  | [] => 0
  | d :: r => uptoBulk d + uptoBulkAll r
def uptoBulkEntries {H : Type} : List (Lit × DataW H) → Nat
  | [] => 0
  | x :: r => uptoBulkEntry x + uptoBulkEntries r
def uptoBulkEntry {H : Type} : Lit × DataW H → Nat
  | (.string bytes, d) => bytes.length + uptoBulk d + 1
  | (_, d) => uptoBulk d + 1
 end
def uptoSmall : (H : Type) → List (DataW H) → Bool := fun _ ds => decide (uptoBulkAll ds ≤ 1048576)
def OpenSpec.upto (s : _root_.Go.ChangeSpec) : _root_.Go.OpenSpec := { _root_.Go.OpenSpec.ofChange s with cond := some uptoSmall }

/-- 'fareboxlaw09.KeysAsks', WHERE WHAT IT READS IS OF BULK AT MOST 1048576: true; the input reads as it did. -/
def keysAsksUptoRow : OpenClaim := { program := "ytkegafkmcdkphaa", sum := "b84fe2acf7e8c69b9d633e5c540c4475f47fcb22a875576d4856d77f7507bbf3", func := "farebox/fareboxlaw09.KeysAsks", spec := "keysAsks", apart := false, narrowed := true }
def KeysAsksUptoSaid : Prop := keysAsksUptoRow.holds Try.pinned (OpenSpec.upto keysAsksSpec)

/-- 'fareboxlaw09.KeysRolls', WHERE WHAT IT READS IS OF BULK AT MOST 1048576: true; the input reads as it did. -/
def keysRollsUptoRow : OpenClaim := { program := "ytkegafkmcdkphaa", sum := "b84fe2acf7e8c69b9d633e5c540c4475f47fcb22a875576d4856d77f7507bbf3", func := "farebox/fareboxlaw09.KeysRolls", spec := "keysRolls", apart := false, narrowed := true }
def KeysRollsUptoSaid : Prop := keysRollsUptoRow.holds Try.pinned (OpenSpec.upto keysRollsSpec)

/-- 'fareboxlaw09.KeysDown', WHERE WHAT IT READS IS OF BULK AT MOST 1048576: true; the input reads as it did. -/
def keysDownUptoRow : OpenClaim := { program := "ytkegafkmcdkphaa", sum := "b84fe2acf7e8c69b9d633e5c540c4475f47fcb22a875576d4856d77f7507bbf3", func := "farebox/fareboxlaw09.KeysDown", spec := "keysDown", apart := false, narrowed := true }
def KeysDownUptoSaid : Prop := keysDownUptoRow.holds Try.pinned (OpenSpec.upto keysDownSpec)

/-- 'fareboxlaw09.KeysApart', WHERE WHAT IT READS IS OF BULK AT MOST 1048576: true; the input reads as it did. -/
def keysApartUptoRow : OpenClaim := { program := "ytkegafkmcdkphaa", sum := "b84fe2acf7e8c69b9d633e5c540c4475f47fcb22a875576d4856d77f7507bbf3", func := "farebox/fareboxlaw09.KeysApart", spec := "keysApart", apart := false, narrowed := true }
def KeysApartUptoSaid : Prop := keysApartUptoRow.holds Try.pinned (OpenSpec.upto keysApartSpec)

/-- 'fareboxlaw09.KeysProducts', WHERE WHAT IT READS IS OF BULK AT MOST 1048576: true; the input reads as it did. -/
def keysProductsUptoRow : OpenClaim := { program := "ytkegafkmcdkphaa", sum := "b84fe2acf7e8c69b9d633e5c540c4475f47fcb22a875576d4856d77f7507bbf3", func := "farebox/fareboxlaw09.KeysProducts", spec := "keysProducts", apart := false, narrowed := true }
def KeysProductsUptoSaid : Prop := keysProductsUptoRow.holds Try.pinned (OpenSpec.upto keysProductsSpec)

end Rows
end Go.Proofs.Ytkegafkmcdkphaa
