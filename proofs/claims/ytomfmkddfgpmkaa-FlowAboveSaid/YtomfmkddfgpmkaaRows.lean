/-
  No cell of these rows narrows 'for every input' (looked for: loops, veiled, ifaces, maps, wideKeys, modest, calm, conditions, laid).
  DERIVED. THE GIVEN ROWS OF THIS SEAT. 5 by the template 'for every input the law returns true; each argument reads behind the call as it read before'; 0 by the template 'total and deterministic' (their statements: YtomfmkddfgpmkaaTotals.lean).
  GIVEN WITH THE SEED: the statements are not yours to turn. If you find one false, say at which input.
  Laid BY PROGRAM, IN A SANDBOX (cutbox-rows.mjs): the forced cells as the released guide's own fill.sh prints them over the translation 104654d85e833c65… (all of the seat's roots in one cut). By AI agents, Wed Nov 11 2026. No macro, syntax, notation, axiom, sorry.
-/
import Derived.Test.YtomfmkddfgpmkaaChecked
import GoSem.Claim
import GoSem.ClaimJoined
import GoSem.ClaimMapViews
import Derived.JoinedTies
import Derived.KernelRfl
namespace Go.Proofs.Ytomfmkddfgpmkaa
/- THE CELL 'sum', in the pinned program and in every row, IS THE sha256 OF THE DUMP (.gsa) THAT YtomfmkddfgpmkaaProg.lean LOADS. Nothing in Lean hashes anything: it is a label: what it is worth is what the hold of that sum in a sandbox is worth. -/
noncomputable def Try.pinned : Pinned := { name := "ytomfmkddfgpmkaa", sum := "104654d85e833c653b787153847425625ab3f56fb72ac22c1a772cc85f87bc9c", checked := Try.checked }
namespace Rows
def none {H : Type} : Left H := { results := [], args := [] }

/-- 'teasellaw05.FlowOrders': WHATEVER THE INPUT: true; the input reads as it did. -/
def flowOrdersSpec : ChangeSpec := { name := "flowOrders", fn := fun _ => fun
  | [d] => { results := [.lit (.bool true)], args := [d] }
  | _ => none }
def flowOrdersRow : OpenClaim := { program := "ytomfmkddfgpmkaa", sum := "104654d85e833c653b787153847425625ab3f56fb72ac22c1a772cc85f87bc9c", func := "teasel/teasellaw05.FlowOrders", spec := "flowOrders", unfollowed := true, recurses := true, apart := false }
def FlowOrdersSaid : Prop := flowOrdersRow.holds Try.pinned (OpenSpec.ofChange flowOrdersSpec)

/-- ITS FALSE NEIGHBOUR: 'it returns false'. Refute it at one input. -/
def flowOrdersWrong : ChangeSpec := { name := "flowOrders", fn := fun _ => fun
  | [d] => { results := [.lit (.bool false)], args := [d] }
  | _ => none }
def FlowOrdersWrongFalsely : Prop := flowOrdersRow.holds Try.pinned (OpenSpec.ofChange flowOrdersWrong)

/-- 'teasellaw05.FlowAbove': WHATEVER THE INPUT: true; the input reads as it did. -/
def flowAboveSpec : ChangeSpec := { name := "flowAbove", fn := fun _ => fun
  | [d] => { results := [.lit (.bool true)], args := [d] }
  | _ => none }
def flowAboveRow : OpenClaim := { program := "ytomfmkddfgpmkaa", sum := "104654d85e833c653b787153847425625ab3f56fb72ac22c1a772cc85f87bc9c", func := "teasel/teasellaw05.FlowAbove", spec := "flowAbove", unfollowed := true, recurses := true, apart := false }
def FlowAboveSaid : Prop := flowAboveRow.holds Try.pinned (OpenSpec.ofChange flowAboveSpec)

/-- ITS FALSE NEIGHBOUR: 'it returns false'. Refute it at one input. -/
def flowAboveWrong : ChangeSpec := { name := "flowAbove", fn := fun _ => fun
  | [d] => { results := [.lit (.bool false)], args := [d] }
  | _ => none }
def FlowAboveWrongFalsely : Prop := flowAboveRow.holds Try.pinned (OpenSpec.ofChange flowAboveWrong)

/-- 'teasellaw05.FlowLoops': WHATEVER THE INPUT: true; the input reads as it did. -/
def flowLoopsSpec : ChangeSpec := { name := "flowLoops", fn := fun _ => fun
  | [d] => { results := [.lit (.bool true)], args := [d] }
  | _ => none }
def flowLoopsRow : OpenClaim := { program := "ytomfmkddfgpmkaa", sum := "104654d85e833c653b787153847425625ab3f56fb72ac22c1a772cc85f87bc9c", func := "teasel/teasellaw05.FlowLoops", spec := "flowLoops", unfollowed := true, recurses := true, apart := false }
def FlowLoopsSaid : Prop := flowLoopsRow.holds Try.pinned (OpenSpec.ofChange flowLoopsSpec)

/-- ITS FALSE NEIGHBOUR: 'it returns false'. Refute it at one input. -/
def flowLoopsWrong : ChangeSpec := { name := "flowLoops", fn := fun _ => fun
  | [d] => { results := [.lit (.bool false)], args := [d] }
  | _ => none }
def FlowLoopsWrongFalsely : Prop := flowLoopsRow.holds Try.pinned (OpenSpec.ofChange flowLoopsWrong)

/-- 'teasellaw05.FlowTree': WHATEVER THE INPUT: true; the input reads as it did. -/
def flowTreeSpec : ChangeSpec := { name := "flowTree", fn := fun _ => fun
  | [d] => { results := [.lit (.bool true)], args := [d] }
  | _ => none }
def flowTreeRow : OpenClaim := { program := "ytomfmkddfgpmkaa", sum := "104654d85e833c653b787153847425625ab3f56fb72ac22c1a772cc85f87bc9c", func := "teasel/teasellaw05.FlowTree", spec := "flowTree", unfollowed := true, recurses := true, apart := false }
def FlowTreeSaid : Prop := flowTreeRow.holds Try.pinned (OpenSpec.ofChange flowTreeSpec)

/-- ITS FALSE NEIGHBOUR: 'it returns false'. Refute it at one input. -/
def flowTreeWrong : ChangeSpec := { name := "flowTree", fn := fun _ => fun
  | [d] => { results := [.lit (.bool false)], args := [d] }
  | _ => none }
def FlowTreeWrongFalsely : Prop := flowTreeRow.holds Try.pinned (OpenSpec.ofChange flowTreeWrong)

/-- 'teasellaw05.FlowReached': WHATEVER THE INPUT: true; the input reads as it did. -/
def flowReachedSpec : ChangeSpec := { name := "flowReached", fn := fun _ => fun
  | [d] => { results := [.lit (.bool true)], args := [d] }
  | _ => none }
def flowReachedRow : OpenClaim := { program := "ytomfmkddfgpmkaa", sum := "104654d85e833c653b787153847425625ab3f56fb72ac22c1a772cc85f87bc9c", func := "teasel/teasellaw05.FlowReached", spec := "flowReached", unfollowed := true, recurses := true, apart := false }
def FlowReachedSaid : Prop := flowReachedRow.holds Try.pinned (OpenSpec.ofChange flowReachedSpec)

/-- ITS FALSE NEIGHBOUR: 'it returns false'. Refute it at one input. -/
def flowReachedWrong : ChangeSpec := { name := "flowReached", fn := fun _ => fun
  | [d] => { results := [.lit (.bool false)], args := [d] }
  | _ => none }
def FlowReachedWrongFalsely : Prop := flowReachedRow.holds Try.pinned (OpenSpec.ofChange flowReachedWrong)

/- THE SECOND FORM. 'bulk': how many values and letters a reading holds, each counted each time it is reached (what is shared counts as often as it is met; a slice's spare places count too). A statement '..UptoSaid' is the law's where the arguments, and the package variables that the reading takes, are together of bulk at most 1048576: NARROWER than '..Said'. Prove '..Said' where nothing that the law and all that it calls make is longer than what came in: it says more and counts as full. Else prove '..UptoSaid'. A law counts once. -/
mutual
def uptoBulk {H : Type} : DataW H → Nat
  | .lit (.string bytes) => bytes.length + 1
  | .lit _ => 1
  | .nil => 1
  | .ptr d => uptoBulk d + 1
  | .slice elems spare => uptoBulkAll elems + uptoBulkAll spare + 1
  | .agg parts => uptoBulkAll parts + 1
  | .iface _ d => uptoBulk d + 1
  | .map entries => uptoBulkEntries entries + 1
  | .held _ => 1
def uptoBulkAll {H : Type} : List (DataW H) → Nat
  | [] => 0
  | d :: r => uptoBulk d + uptoBulkAll r
def uptoBulkEntries {H : Type} : List (Lit × DataW H) → Nat
  | [] => 0
  | x :: r => uptoBulkEntry x + uptoBulkEntries r
def uptoBulkEntry {H : Type} : Lit × DataW H → Nat
  | (.string bytes, d) => bytes.length + uptoBulk d + 1
  | (_, d) => uptoBulk d + 1
 end
def uptoSmall : (H : Type) → List (DataW H) → Bool := fun _ ds => decide (uptoBulkAll ds ≤ 1048576)
def OpenSpec.upto (s : _root_.Go.ChangeSpec) : _root_.Go.OpenSpec := { _root_.Go.OpenSpec.ofChange s with cond := some uptoSmall }

/-- 'teasellaw05.FlowOrders', WHERE WHAT IT READS IS OF BULK AT MOST 1048576: true; the input reads as it did. -/
def flowOrdersUptoRow : OpenClaim := { program := "ytomfmkddfgpmkaa", sum := "104654d85e833c653b787153847425625ab3f56fb72ac22c1a772cc85f87bc9c", func := "teasel/teasellaw05.FlowOrders", spec := "flowOrders", unfollowed := true, recurses := true, apart := false, narrowed := true }
def FlowOrdersUptoSaid : Prop := flowOrdersUptoRow.holds Try.pinned (OpenSpec.upto flowOrdersSpec)

/-- 'teasellaw05.FlowAbove', WHERE WHAT IT READS IS OF BULK AT MOST 1048576: true; the input reads as it did. -/
def flowAboveUptoRow : OpenClaim := { program := "ytomfmkddfgpmkaa", sum := "104654d85e833c653b787153847425625ab3f56fb72ac22c1a772cc85f87bc9c", func := "teasel/teasellaw05.FlowAbove", spec := "flowAbove", unfollowed := true, recurses := true, apart := false, narrowed := true }
def FlowAboveUptoSaid : Prop := flowAboveUptoRow.holds Try.pinned (OpenSpec.upto flowAboveSpec)

/-- 'teasellaw05.FlowLoops', WHERE WHAT IT READS IS OF BULK AT MOST 1048576: true; the input reads as it did. -/
def flowLoopsUptoRow : OpenClaim := { program := "ytomfmkddfgpmkaa", sum := "104654d85e833c653b787153847425625ab3f56fb72ac22c1a772cc85f87bc9c", func := "teasel/teasellaw05.FlowLoops", spec := "flowLoops", unfollowed := true, recurses := true, apart := false, narrowed := true }
def FlowLoopsUptoSaid : Prop := flowLoopsUptoRow.holds Try.pinned (OpenSpec.upto flowLoopsSpec)

/-- 'teasellaw05.FlowTree', WHERE WHAT IT READS IS OF BULK AT MOST 1048576: true; the input reads as it did. -/
def flowTreeUptoRow : OpenClaim := { program := "ytomfmkddfgpmkaa", sum := "104654d85e833c653b787153847425625ab3f56fb72ac22c1a772cc85f87bc9c", func := "teasel/teasellaw05.FlowTree", spec := "flowTree", unfollowed := true, recurses := true, apart := false, narrowed := true }
def FlowTreeUptoSaid : Prop := flowTreeUptoRow.holds Try.pinned (OpenSpec.upto flowTreeSpec)

/-- 'teasellaw05.FlowReached', WHERE WHAT IT READS IS OF BULK AT MOST 1048576: true; the input reads as it did. -/
def flowReachedUptoRow : OpenClaim := { program := "ytomfmkddfgpmkaa", sum := "104654d85e833c653b787153847425625ab3f56fb72ac22c1a772cc85f87bc9c", func := "teasel/teasellaw05.FlowReached", spec := "flowReached", unfollowed := true, recurses := true, apart := false, narrowed := true }
def FlowReachedUptoSaid : Prop := flowReachedUptoRow.holds Try.pinned (OpenSpec.upto flowReachedSpec)

end Rows
end Go.Proofs.Ytomfmkddfgpmkaa
