/-
  No cell of these rows narrows 'for every input' (looked for: loops, veiled, ifaces, maps, wideKeys, modest, calm, conditions, laid).
  DERIVED. THE GIVEN ROWS OF THIS SEAT. 4 by the template 'for every input the law returns true; each argument reads behind the call as it read before'; 0 by the template 'total and deterministic' (their statements: YtnbkcdhblmfopaaTotals.lean).
  GIVEN WITH THE SEED: the statements are not yours to turn. If you find one false, say at which input.
  Laid BY PROGRAM, IN A SANDBOX (cutbox-rows.mjs): the forced cells as the released guide's own fill.sh prints them over the translation 99d1d96ff22e6cfb… (all of the seat's roots in one cut). By AI agents, Wed Nov 11 2026. No macro, syntax, notation, axiom, sorry.
-/
import Derived.Test.YtnbkcdhblmfopaaChecked
import GoSem.Claim
import GoSem.ClaimJoined
import GoSem.ClaimMapViews
import Derived.JoinedTies
import Derived.KernelRfl
namespace Go.Proofs.Ytnbkcdhblmfopaa
/- THE CELL 'sum', in the pinned program and in every row, IS THE sha256 OF THE DUMP (.gsa) THAT YtnbkcdhblmfopaaProg.lean LOADS. Nothing in Lean hashes anything: it is a label: what it is worth is what the hold of that sum in a sandbox is worth. -/
noncomputable def Try.pinned : Pinned := { name := "ytnbkcdhblmfopaa", sum := "99d1d96ff22e6cfb649291f0a2bc6be6f634e052dc055688a9ee7eb6fd4861b0", checked := Try.checked }
namespace Rows
def none {H : Type} : Left H := { results := [], args := [] }

/-- 'teasellaw18.MovesOrder': WHATEVER THE INPUT: true; the input reads as it did. -/
def movesOrderSpec : ChangeSpec := { name := "movesOrder", fn := fun _ => fun
  | [d1, d2] => { results := [.lit (.bool true)], args := [d1, d2] }
  | _ => none }
def movesOrderRow : OpenClaim := { program := "ytnbkcdhblmfopaa", sum := "99d1d96ff22e6cfb649291f0a2bc6be6f634e052dc055688a9ee7eb6fd4861b0", func := "teasel/teasellaw18.MovesOrder", spec := "movesOrder", apart := false }
def MovesOrderSaid : Prop := movesOrderRow.holds Try.pinned (OpenSpec.ofChange movesOrderSpec)

/-- ITS FALSE NEIGHBOUR: 'it returns false'. Refute it at one input. -/
def movesOrderWrong : ChangeSpec := { name := "movesOrder", fn := fun _ => fun
  | [d1, d2] => { results := [.lit (.bool false)], args := [d1, d2] }
  | _ => none }
def MovesOrderWrongFalsely : Prop := movesOrderRow.holds Try.pinned (OpenSpec.ofChange movesOrderWrong)

/-- 'teasellaw18.MovesCircles': WHATEVER THE INPUT: true; the input reads as it did. -/
def movesCirclesSpec : ChangeSpec := { name := "movesCircles", fn := fun _ => fun
  | [d] => { results := [.lit (.bool true)], args := [d] }
  | _ => none }
def movesCirclesRow : OpenClaim := { program := "ytnbkcdhblmfopaa", sum := "99d1d96ff22e6cfb649291f0a2bc6be6f634e052dc055688a9ee7eb6fd4861b0", func := "teasel/teasellaw18.MovesCircles", spec := "movesCircles", apart := false }
def MovesCirclesSaid : Prop := movesCirclesRow.holds Try.pinned (OpenSpec.ofChange movesCirclesSpec)

/-- ITS FALSE NEIGHBOUR: 'it returns false'. Refute it at one input. -/
def movesCirclesWrong : ChangeSpec := { name := "movesCircles", fn := fun _ => fun
  | [d] => { results := [.lit (.bool false)], args := [d] }
  | _ => none }
def MovesCirclesWrongFalsely : Prop := movesCirclesRow.holds Try.pinned (OpenSpec.ofChange movesCirclesWrong)

/-- 'teasellaw18.MovesTurn': WHATEVER THE INPUT: true; the input reads as it did. -/
def movesTurnSpec : ChangeSpec := { name := "movesTurn", fn := fun _ => fun
  | [d] => { results := [.lit (.bool true)], args := [d] }
  | _ => none }
def movesTurnRow : OpenClaim := { program := "ytnbkcdhblmfopaa", sum := "99d1d96ff22e6cfb649291f0a2bc6be6f634e052dc055688a9ee7eb6fd4861b0", func := "teasel/teasellaw18.MovesTurn", spec := "movesTurn", apart := false }
def MovesTurnSaid : Prop := movesTurnRow.holds Try.pinned (OpenSpec.ofChange movesTurnSpec)

/-- ITS FALSE NEIGHBOUR: 'it returns false'. Refute it at one input. -/
def movesTurnWrong : ChangeSpec := { name := "movesTurn", fn := fun _ => fun
  | [d] => { results := [.lit (.bool false)], args := [d] }
  | _ => none }
def MovesTurnWrongFalsely : Prop := movesTurnRow.holds Try.pinned (OpenSpec.ofChange movesTurnWrong)

/-- 'teasellaw18.MovesBack': WHATEVER THE INPUT: true; the input reads as it did. -/
def movesBackSpec : ChangeSpec := { name := "movesBack", fn := fun _ => fun
  | [d1, d2] => { results := [.lit (.bool true)], args := [d1, d2] }
  | _ => none }
def movesBackRow : OpenClaim := { program := "ytnbkcdhblmfopaa", sum := "99d1d96ff22e6cfb649291f0a2bc6be6f634e052dc055688a9ee7eb6fd4861b0", func := "teasel/teasellaw18.MovesBack", spec := "movesBack", apart := false }
def MovesBackSaid : Prop := movesBackRow.holds Try.pinned (OpenSpec.ofChange movesBackSpec)

/-- ITS FALSE NEIGHBOUR: 'it returns false'. Refute it at one input. -/
def movesBackWrong : ChangeSpec := { name := "movesBack", fn := fun _ => fun
  | [d1, d2] => { results := [.lit (.bool false)], args := [d1, d2] }
  | _ => none }
def MovesBackWrongFalsely : Prop := movesBackRow.holds Try.pinned (OpenSpec.ofChange movesBackWrong)

/- THE SECOND FORM. 'bulk': how many values and letters a reading holds, each counted each time it is reached (what is shared counts as often as it is met; a slice's spare places count too). A statement '..UptoSaid' is the law's where the arguments, and the package variables that the reading takes, are together of bulk at most 1048576: NARROWER than '..Said'. Prove '..Said' where nothing that the law and all that it calls make is longer than what came in: it says more and counts as full. Else prove '..UptoSaid'. A law counts once. -/
mutual
def uptoBulk {H : Type} : DataW H → Nat
  | .lit (.string bytes) => bytes.length + 1
  | .lit _ => 1
  | .nil => 1
  | .ptr d => uptoBulk d + 1
  | .slice elems spare => uptoBulkAll elems + uptoBulkAll spare + 1
  | .agg parts => uptoBulkAll parts + 1
  | .iface _ d => uptoBulk d + 1
  | .map entries => uptoBulkEntries entries + 1
  | .held _ => 1
def uptoBulkAll {H : Type} : List (DataW H) → Nat
  | [] => 0
  | d :: r => uptoBulk d + uptoBulkAll r
def uptoBulkEntries {H : Type} : List (Lit × DataW H) → Nat
  | [] => 0
  | x :: r => uptoBulkEntry x + uptoBulkEntries r
def uptoBulkEntry {H : Type} : Lit × DataW H → Nat
  | (.string bytes, d) => bytes.length + uptoBulk d + 1
  | (_, d) => uptoBulk d + 1
 end
def uptoSmall : (H : Type) → List (DataW H) → Bool := fun _ ds => decide (uptoBulkAll ds ≤ 1048576)
def OpenSpec.upto (s : _root_.Go.ChangeSpec) : _root_.Go.OpenSpec := { _root_.Go.OpenSpec.ofChange s with cond := some uptoSmall }

/-- 'teasellaw18.MovesOrder', WHERE WHAT IT READS IS OF BULK AT MOST 1048576: true; the input reads as it did. -/
def movesOrderUptoRow : OpenClaim := { program := "ytnbkcdhblmfopaa", sum := "99d1d96ff22e6cfb649291f0a2bc6be6f634e052dc055688a9ee7eb6fd4861b0", func := "teasel/teasellaw18.MovesOrder", spec := "movesOrder", apart := false, narrowed := true }
def MovesOrderUptoSaid : Prop := movesOrderUptoRow.holds Try.pinned (OpenSpec.upto movesOrderSpec)

/-- 'teasellaw18.MovesCircles', WHERE WHAT IT READS IS OF BULK AT MOST 1048576: true; the input reads as it did. -/
def movesCirclesUptoRow : OpenClaim := { program := "ytnbkcdhblmfopaa", sum := "99d1d96ff22e6cfb649291f0a2bc6be6f634e052dc055688a9ee7eb6fd4861b0", func := "teasel/teasellaw18.MovesCircles", spec := "movesCircles", apart := false, narrowed := true }
def MovesCirclesUptoSaid : Prop := movesCirclesUptoRow.holds Try.pinned (OpenSpec.upto movesCirclesSpec)

/-- 'teasellaw18.MovesTurn', WHERE WHAT IT READS IS OF BULK AT MOST 1048576: true; the input reads as it did. -/
def movesTurnUptoRow : OpenClaim := { program := "ytnbkcdhblmfopaa", sum := "99d1d96ff22e6cfb649291f0a2bc6be6f634e052dc055688a9ee7eb6fd4861b0", func := "teasel/teasellaw18.MovesTurn", spec := "movesTurn", apart := false, narrowed := true }
def MovesTurnUptoSaid : Prop := movesTurnUptoRow.holds Try.pinned (OpenSpec.upto movesTurnSpec)

/-- 'teasellaw18.MovesBack', WHERE WHAT IT READS IS OF BULK AT MOST 1048576: true; the input reads as it did. -/
def movesBackUptoRow : OpenClaim := { program := "ytnbkcdhblmfopaa", sum := "99d1d96ff22e6cfb649291f0a2bc6be6f634e052dc055688a9ee7eb6fd4861b0", func := "teasel/teasellaw18.MovesBack", spec := "movesBack", apart := false, narrowed := true }
def MovesBackUptoSaid : Prop := movesBackUptoRow.holds Try.pinned (OpenSpec.upto movesBackSpec)

end Rows
end Go.Proofs.Ytnbkcdhblmfopaa
