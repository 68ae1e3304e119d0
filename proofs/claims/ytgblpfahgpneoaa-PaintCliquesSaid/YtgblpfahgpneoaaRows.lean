/-
  No cell of these rows narrows 'for every input' (looked for: loops, veiled, ifaces, maps, wideKeys, modest, calm, conditions, laid).
  DERIVED. THE GIVEN ROWS OF THIS SEAT. 4 by the template 'for every input the law returns true; each argument reads behind the call as it read before'; 0 by the template 'total and deterministic' (their statements: YtgblpfahgpneoaaTotals.lean).
  GIVEN WITH THE SEED: the statements are not yours to turn. If you find one false, say at which input.
  Laid BY PROGRAM, IN A SANDBOX (cutbox-rows.mjs): the forced cells as the released guide's own fill.sh prints them over the translation aedb7a54792522e8… (all of the seat's roots in one cut). By AI agents, Wed Nov 11 2026. No macro, syntax, notation, axiom, sorry.
-/
import Derived.Test.YtgblpfahgpneoaaChecked
import GoSem.Claim
import GoSem.ClaimJoined
import GoSem.ClaimMapViews
import Derived.JoinedTies
import Derived.KernelRfl
namespace Go.Proofs.Ytgblpfahgpneoaa
/- THE CELL 'sum', in the pinned program and in every row, IS THE sha256 OF THE DUMP (.gsa) THAT YtgblpfahgpneoaaProg.lean LOADS. Nothing in Lean hashes anything: it is a label: what it is worth is what the hold of that sum in a sandbox is worth. -/
noncomputable def Try.pinned : Pinned := { name := "ytgblpfahgpneoaa", sum := "aedb7a54792522e82b1ebf2c4df8b42bbaf452bd75760c91de16e6916a6cad40", checked := Try.checked }
namespace Rows
def none {H : Type} : Left H := { results := [], args := [] }

/-- 'teasellaw17.PaintPaints': WHATEVER THE INPUT: true; the input reads as it did. -/
def paintPaintsSpec : ChangeSpec := { name := "paintPaints", fn := fun _ => fun
  | [d1, d2, d3, d4] => { results := [.lit (.bool true)], args := [d1, d2, d3, d4] }
  | _ => none }
def paintPaintsRow : OpenClaim := { program := "ytgblpfahgpneoaa", sum := "aedb7a54792522e82b1ebf2c4df8b42bbaf452bd75760c91de16e6916a6cad40", func := "teasel/teasellaw17.PaintPaints", spec := "paintPaints", unfollowed := true, recurses := true, apart := false }
def PaintPaintsSaid : Prop := paintPaintsRow.holds Try.pinned (OpenSpec.ofChange paintPaintsSpec)

/-- ITS FALSE NEIGHBOUR: 'it returns false'. Refute it at one input. -/
def paintPaintsWrong : ChangeSpec := { name := "paintPaints", fn := fun _ => fun
  | [d1, d2, d3, d4] => { results := [.lit (.bool false)], args := [d1, d2, d3, d4] }
  | _ => none }
def PaintPaintsWrongFalsely : Prop := paintPaintsRow.holds Try.pinned (OpenSpec.ofChange paintPaintsWrong)

/-- 'teasellaw17.PaintLikes': WHATEVER THE INPUT: true; the input reads as it did. -/
def paintLikesSpec : ChangeSpec := { name := "paintLikes", fn := fun _ => fun
  | [d1, d2, d3] => { results := [.lit (.bool true)], args := [d1, d2, d3] }
  | _ => none }
def paintLikesRow : OpenClaim := { program := "ytgblpfahgpneoaa", sum := "aedb7a54792522e82b1ebf2c4df8b42bbaf452bd75760c91de16e6916a6cad40", func := "teasel/teasellaw17.PaintLikes", spec := "paintLikes", unfollowed := true, recurses := true, apart := false }
def PaintLikesSaid : Prop := paintLikesRow.holds Try.pinned (OpenSpec.ofChange paintLikesSpec)

/-- ITS FALSE NEIGHBOUR: 'it returns false'. Refute it at one input. -/
def paintLikesWrong : ChangeSpec := { name := "paintLikes", fn := fun _ => fun
  | [d1, d2, d3] => { results := [.lit (.bool false)], args := [d1, d2, d3] }
  | _ => none }
def PaintLikesWrongFalsely : Prop := paintLikesRow.holds Try.pinned (OpenSpec.ofChange paintLikesWrong)

/-- 'teasellaw17.PaintRings': WHATEVER THE INPUT: true; the input reads as it did. -/
def paintRingsSpec : ChangeSpec := { name := "paintRings", fn := fun _ => fun
  | [d1, d2] => { results := [.lit (.bool true)], args := [d1, d2] }
  | _ => none }
def paintRingsRow : OpenClaim := { program := "ytgblpfahgpneoaa", sum := "aedb7a54792522e82b1ebf2c4df8b42bbaf452bd75760c91de16e6916a6cad40", func := "teasel/teasellaw17.PaintRings", spec := "paintRings", unfollowed := true, recurses := true, apart := false }
def PaintRingsSaid : Prop := paintRingsRow.holds Try.pinned (OpenSpec.ofChange paintRingsSpec)

/-- ITS FALSE NEIGHBOUR: 'it returns false'. Refute it at one input. -/
def paintRingsWrong : ChangeSpec := { name := "paintRings", fn := fun _ => fun
  | [d1, d2] => { results := [.lit (.bool false)], args := [d1, d2] }
  | _ => none }
def PaintRingsWrongFalsely : Prop := paintRingsRow.holds Try.pinned (OpenSpec.ofChange paintRingsWrong)

/-- 'teasellaw17.PaintCliques': WHATEVER THE INPUT: true; the input reads as it did. -/
def paintCliquesSpec : ChangeSpec := { name := "paintCliques", fn := fun _ => fun
  | [d1, d2] => { results := [.lit (.bool true)], args := [d1, d2] }
  | _ => none }
def paintCliquesRow : OpenClaim := { program := "ytgblpfahgpneoaa", sum := "aedb7a54792522e82b1ebf2c4df8b42bbaf452bd75760c91de16e6916a6cad40", func := "teasel/teasellaw17.PaintCliques", spec := "paintCliques", unfollowed := true, recurses := true, apart := false }
def PaintCliquesSaid : Prop := paintCliquesRow.holds Try.pinned (OpenSpec.ofChange paintCliquesSpec)

/-- ITS FALSE NEIGHBOUR: 'it returns false'. Refute it at one input. -/
def paintCliquesWrong : ChangeSpec := { name := "paintCliques", fn := fun _ => fun
  | [d1, d2] => { results := [.lit (.bool false)], args := [d1, d2] }
  | _ => none }
def PaintCliquesWrongFalsely : Prop := paintCliquesRow.holds Try.pinned (OpenSpec.ofChange paintCliquesWrong)

/- THE SECOND FORM. 'bulk': how many values and letters a reading holds, each counted each time it is reached (what is shared counts as often as it is met; a slice's spare places count too). A statement '..UptoSaid' is the law's where the arguments, and the package variables that the reading takes, are together of bulk at most 1048576: NARROWER than '..Said'. Prove '..Said' where nothing that the law and all that it calls make is longer than what came in: it says more and counts as full. Else prove '..UptoSaid'. A law counts once. -/
mutual
def uptoBulk {H : Type} : DataW H → Nat
  | .lit (.string bytes) => bytes.length + 1
  | .lit _ => 1
  | .nil => 1
  | .ptr d => uptoBulk d + 1
  | .slice elems spare => uptoBulkAll elems + uptoBulkAll spare + 1
  | .agg parts => uptoBulkAll parts + 1
  | .iface _ d => uptoBulk d + 1
  | .map entries => uptoBulkEntries entries + 1
  | .held _ => 1
def uptoBulkAll {H : Type} : List (DataW H) → Nat
  | [] => 0
  | d :: r => uptoBulk d + uptoBulkAll r
def uptoBulkEntries {H : Type} : List (Lit × DataW H) → Nat
  | [] => 0
  | x :: r => uptoBulkEntry x + uptoBulkEntries r
def uptoBulkEntry {H : Type} : Lit × DataW H → Nat
  | (.string bytes, d) => bytes.length + uptoBulk d + 1
  | (_, d) => uptoBulk d + 1
 end
def uptoSmall : (H : Type) → List (DataW H) → Bool := fun _ ds => decide (uptoBulkAll ds ≤ 1048576)
def OpenSpec.upto (s : _root_.Go.ChangeSpec) : _root_.Go.OpenSpec := { _root_.Go.OpenSpec.ofChange s with cond := some uptoSmall }

/-- 'teasellaw17.PaintPaints', WHERE WHAT IT READS IS OF BULK AT MOST 1048576: true; the input reads as it did. -/
def paintPaintsUptoRow : OpenClaim := { program := "ytgblpfahgpneoaa", sum := "aedb7a54792522e82b1ebf2c4df8b42bbaf452bd75760c91de16e6916a6cad40", func := "teasel/teasellaw17.PaintPaints", spec := "paintPaints", unfollowed := true, recurses := true, apart := false, narrowed := true }
def PaintPaintsUptoSaid : Prop := paintPaintsUptoRow.holds Try.pinned (OpenSpec.upto paintPaintsSpec)

/-- 'teasellaw17.PaintLikes', WHERE WHAT IT READS IS OF BULK AT MOST 1048576: true; the input reads as it did. -/
def paintLikesUptoRow : OpenClaim := { program := "ytgblpfahgpneoaa", sum := "aedb7a54792522e82b1ebf2c4df8b42bbaf452bd75760c91de16e6916a6cad40", func := "teasel/teasellaw17.PaintLikes", spec := "paintLikes", unfollowed := true, recurses := true, apart := false, narrowed := true }
def PaintLikesUptoSaid : Prop := paintLikesUptoRow.holds Try.pinned (OpenSpec.upto paintLikesSpec)

/-- 'teasellaw17.PaintRings', WHERE WHAT IT READS IS OF BULK AT MOST 1048576: true; the input reads as it did. -/
def paintRingsUptoRow : OpenClaim := { program := "ytgblpfahgpneoaa", sum := "aedb7a54792522e82b1ebf2c4df8b42bbaf452bd75760c91de16e6916a6cad40", func := "teasel/teasellaw17.PaintRings", spec := "paintRings", unfollowed := true, recurses := true, apart := false, narrowed := true }
def PaintRingsUptoSaid : Prop := paintRingsUptoRow.holds Try.pinned (OpenSpec.upto paintRingsSpec)

/-- 'teasellaw17.PaintCliques', WHERE WHAT IT READS IS OF BULK AT MOST 1048576: true; the input reads as it did. -/
def paintCliquesUptoRow : OpenClaim := { program := "ytgblpfahgpneoaa", sum := "aedb7a54792522e82b1ebf2c4df8b42bbaf452bd75760c91de16e6916a6cad40", func := "teasel/teasellaw17.PaintCliques", spec := "paintCliques", unfollowed := true, recurses := true, apart := false, narrowed := true }
def PaintCliquesUptoSaid : Prop := paintCliquesUptoRow.holds Try.pinned (OpenSpec.upto paintCliquesSpec)

end Rows
end Go.Proofs.Ytgblpfahgpneoaa
