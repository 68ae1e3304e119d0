/-
  NARROWER THAN 'FOR EVERY INPUT', by the rows' own cells (each row's printed sentence says how): InstEncodes: laid · InstDecodes: laid · InstPacks: laid · InstLimits: laid · InstApart: laid · LocsEncodes: laid · LocsDecodes: laid · LocsCut: laid.
  DERIVED. THE GIVEN ROWS OF THIS SEAT. 8 by the template 'for every input the law returns true; each argument reads behind the call as it read before'; 0 by the template 'total and deterministic' (their statements: YtlblmnneikdpgaaDoorTotals.lean).
  GIVEN WITH THE SEED: the statements are not yours to turn. If you find one false, say at which input.
  Laid BY PROGRAM, IN A SANDBOX (cutbox-rows.mjs): the forced cells as the released guide's own fill.sh prints them over the translation fb22d7aa442c1e08… (all of the seat's roots in one cut). By AI agents, Wed Nov 11 2026. No macro, syntax, notation, axiom, sorry.
-/
import Derived.Test.YtlblmnneikdpgaaDoorChecked
import GoSem.Claim
import GoSem.ClaimJoined
import GoSem.ClaimMapViews
import Derived.JoinedTies
import Derived.KernelRfl
namespace Go.Proofs.YtlblmnneikdpgaaDoor
/- THE CELL 'sum', in the pinned program and in every row, IS THE sha256 OF THE DUMP (.gsa) THAT YtlblmnneikdpgaaDoorProg.lean LOADS. Nothing in Lean hashes anything: it is a label: what it is worth is what the hold of that sum in a sandbox is worth. -/
noncomputable def Tryd.pinned : Pinned := { name := "ytlblmnneikdpgaadoor", sum := "fb22d7aa442c1e08cee5be7fe9ceeaf5d911fcc6bb2d717b4db1c23040375d48", checked := Tryd.checked }
namespace Rows
def none {H : Type} : Left H := { results := [], args := [] }

/- WHAT THE LISTED PACKAGE-LEVEL VARIABLES READ AS WHEN THE CALL BEGINS. Each datum BY PROGRAM (the guide's laid-datum.mjs) off the statement by which the dump's own 'gosem.cut.vars' lays the variable. In a bare row this is a premise. The card (YtlblmnneikdpgaaDoorCards.lean) ties it to the program's text. -/
def laid_teasel_packed_Many {H : Type} : DataW H := .iface "*errors.errorString" (.ptr (.agg [.lit (.string [116, 111, 111, 32, 109, 97, 110, 121])]))
def laid_teasel_packed_Wrong {H : Type} : DataW H := .iface "*errors.errorString" (.ptr (.agg [.lit (.string [110, 111, 116, 32, 111, 102, 32, 116, 104, 101, 32, 102, 111, 114, 109])]))

/-- 'teasellaw20.InstEncodes': WHATEVER THE INPUT: true; the input reads as it did. -/
def instEncodesSpec : ChangeSpec := { name := "instEncodes", fn := fun _ => fun
  | [d1, d2] => { results := [.lit (.bool true)], args := [d1, d2] }
  | _ => none }
def instEncodesRow : OpenClaim := { program := "ytlblmnneikdpgaadoor", sum := "fb22d7aa442c1e08cee5be7fe9ceeaf5d911fcc6bb2d717b4db1c23040375d48", func := "teasel/teasellaw20.InstEncodes", spec := "instEncodes", inPlace := ["internal/reflectlite.TypeOf"], unfollowed := true, recurses := true, named := ["teasel/packed.Wrong", "teasel/packed.Many"], plainKeys := false, apart := false, laid := [("teasel/packed.Many", laid_teasel_packed_Many), ("teasel/packed.Wrong", laid_teasel_packed_Wrong)] }
def InstEncodesSaid : Prop := instEncodesRow.holds Tryd.pinned (OpenSpec.ofChange instEncodesSpec)

/-- ITS FALSE NEIGHBOUR: 'it returns false'. Refute it at one input. -/
def instEncodesWrong : ChangeSpec := { name := "instEncodes", fn := fun _ => fun
  | [d1, d2] => { results := [.lit (.bool false)], args := [d1, d2] }
  | _ => none }
def InstEncodesWrongFalsely : Prop := instEncodesRow.holds Tryd.pinned (OpenSpec.ofChange instEncodesWrong)

/-- 'teasellaw20.InstDecodes': WHATEVER THE INPUT: true; the input reads as it did. -/
def instDecodesSpec : ChangeSpec := { name := "instDecodes", fn := fun _ => fun
  | [d] => { results := [.lit (.bool true)], args := [d] }
  | _ => none }
def instDecodesRow : OpenClaim := { program := "ytlblmnneikdpgaadoor", sum := "fb22d7aa442c1e08cee5be7fe9ceeaf5d911fcc6bb2d717b4db1c23040375d48", func := "teasel/teasellaw20.InstDecodes", spec := "instDecodes", inPlace := ["internal/reflectlite.TypeOf"], unfollowed := true, recurses := true, named := ["teasel/packed.Wrong", "teasel/packed.Many"], plainKeys := false, apart := false, laid := [("teasel/packed.Many", laid_teasel_packed_Many), ("teasel/packed.Wrong", laid_teasel_packed_Wrong)] }
def InstDecodesSaid : Prop := instDecodesRow.holds Tryd.pinned (OpenSpec.ofChange instDecodesSpec)

/-- ITS FALSE NEIGHBOUR: 'it returns false'. Refute it at one input. -/
def instDecodesWrong : ChangeSpec := { name := "instDecodes", fn := fun _ => fun
  | [d] => { results := [.lit (.bool false)], args := [d] }
  | _ => none }
def InstDecodesWrongFalsely : Prop := instDecodesRow.holds Tryd.pinned (OpenSpec.ofChange instDecodesWrong)

/-- 'teasellaw20.InstPacks': WHATEVER THE INPUT: true; the input reads as it did. -/
def instPacksSpec : ChangeSpec := { name := "instPacks", fn := fun _ => fun
  | [d1, d2] => { results := [.lit (.bool true)], args := [d1, d2] }
  | _ => none }
def instPacksRow : OpenClaim := { program := "ytlblmnneikdpgaadoor", sum := "fb22d7aa442c1e08cee5be7fe9ceeaf5d911fcc6bb2d717b4db1c23040375d48", func := "teasel/teasellaw20.InstPacks", spec := "instPacks", inPlace := ["internal/reflectlite.TypeOf"], unfollowed := true, recurses := true, named := ["teasel/packed.Wrong", "teasel/packed.Many"], plainKeys := false, apart := false, laid := [("teasel/packed.Many", laid_teasel_packed_Many), ("teasel/packed.Wrong", laid_teasel_packed_Wrong)] }
def InstPacksSaid : Prop := instPacksRow.holds Tryd.pinned (OpenSpec.ofChange instPacksSpec)

/-- ITS FALSE NEIGHBOUR: 'it returns false'. Refute it at one input. -/
def instPacksWrong : ChangeSpec := { name := "instPacks", fn := fun _ => fun
  | [d1, d2] => { results := [.lit (.bool false)], args := [d1, d2] }
  | _ => none }
def InstPacksWrongFalsely : Prop := instPacksRow.holds Tryd.pinned (OpenSpec.ofChange instPacksWrong)

/-- 'teasellaw20.InstLimits': WHATEVER THE INPUT: true; the input reads as it did. -/
def instLimitsSpec : ChangeSpec := { name := "instLimits", fn := fun _ => fun
  | [d] => { results := [.lit (.bool true)], args := [d] }
  | _ => none }
def instLimitsRow : OpenClaim := { program := "ytlblmnneikdpgaadoor", sum := "fb22d7aa442c1e08cee5be7fe9ceeaf5d911fcc6bb2d717b4db1c23040375d48", func := "teasel/teasellaw20.InstLimits", spec := "instLimits", inPlace := ["internal/reflectlite.TypeOf"], unfollowed := true, recurses := true, named := ["teasel/packed.Wrong", "teasel/packed.Many"], plainKeys := false, apart := false, laid := [("teasel/packed.Many", laid_teasel_packed_Many), ("teasel/packed.Wrong", laid_teasel_packed_Wrong)] }
def InstLimitsSaid : Prop := instLimitsRow.holds Tryd.pinned (OpenSpec.ofChange instLimitsSpec)

/-- ITS FALSE NEIGHBOUR: 'it returns false'. Refute it at one input. -/
def instLimitsWrong : ChangeSpec := { name := "instLimits", fn := fun _ => fun
  | [d] => { results := [.lit (.bool false)], args := [d] }
  | _ => none }
def InstLimitsWrongFalsely : Prop := instLimitsRow.holds Tryd.pinned (OpenSpec.ofChange instLimitsWrong)

/-- 'teasellaw20.InstApart': WHATEVER THE INPUT: true; the input reads as it did. -/
def instApartSpec : ChangeSpec := { name := "instApart", fn := fun _ => fun
  | [d1, d2] => { results := [.lit (.bool true)], args := [d1, d2] }
  | _ => none }
def instApartRow : OpenClaim := { program := "ytlblmnneikdpgaadoor", sum := "fb22d7aa442c1e08cee5be7fe9ceeaf5d911fcc6bb2d717b4db1c23040375d48", func := "teasel/teasellaw20.InstApart", spec := "instApart", inPlace := ["internal/reflectlite.TypeOf"], unfollowed := true, recurses := true, named := ["teasel/packed.Wrong", "teasel/packed.Many"], plainKeys := false, apart := false, laid := [("teasel/packed.Many", laid_teasel_packed_Many), ("teasel/packed.Wrong", laid_teasel_packed_Wrong)] }
def InstApartSaid : Prop := instApartRow.holds Tryd.pinned (OpenSpec.ofChange instApartSpec)

/-- ITS FALSE NEIGHBOUR: 'it returns false'. Refute it at one input. -/
def instApartWrong : ChangeSpec := { name := "instApart", fn := fun _ => fun
  | [d1, d2] => { results := [.lit (.bool false)], args := [d1, d2] }
  | _ => none }
def InstApartWrongFalsely : Prop := instApartRow.holds Tryd.pinned (OpenSpec.ofChange instApartWrong)

/-- 'teasellaw21.LocsEncodes': WHATEVER THE INPUT: true; the input reads as it did. -/
def locsEncodesSpec : ChangeSpec := { name := "locsEncodes", fn := fun _ => fun
  | [d] => { results := [.lit (.bool true)], args := [d] }
  | _ => none }
def locsEncodesRow : OpenClaim := { program := "ytlblmnneikdpgaadoor", sum := "fb22d7aa442c1e08cee5be7fe9ceeaf5d911fcc6bb2d717b4db1c23040375d48", func := "teasel/teasellaw21.LocsEncodes", spec := "locsEncodes", inPlace := ["internal/reflectlite.TypeOf"], unfollowed := true, recurses := true, named := ["teasel/packed.Wrong", "teasel/packed.Many"], plainKeys := false, apart := false, laid := [("teasel/packed.Many", laid_teasel_packed_Many), ("teasel/packed.Wrong", laid_teasel_packed_Wrong)] }
def LocsEncodesSaid : Prop := locsEncodesRow.holds Tryd.pinned (OpenSpec.ofChange locsEncodesSpec)

/-- ITS FALSE NEIGHBOUR: 'it returns false'. Refute it at one input. -/
def locsEncodesWrong : ChangeSpec := { name := "locsEncodes", fn := fun _ => fun
  | [d] => { results := [.lit (.bool false)], args := [d] }
  | _ => none }
def LocsEncodesWrongFalsely : Prop := locsEncodesRow.holds Tryd.pinned (OpenSpec.ofChange locsEncodesWrong)

/-- 'teasellaw21.LocsDecodes': WHATEVER THE INPUT: true; the input reads as it did. -/
def locsDecodesSpec : ChangeSpec := { name := "locsDecodes", fn := fun _ => fun
  | [d] => { results := [.lit (.bool true)], args := [d] }
  | _ => none }
def locsDecodesRow : OpenClaim := { program := "ytlblmnneikdpgaadoor", sum := "fb22d7aa442c1e08cee5be7fe9ceeaf5d911fcc6bb2d717b4db1c23040375d48", func := "teasel/teasellaw21.LocsDecodes", spec := "locsDecodes", inPlace := ["internal/reflectlite.TypeOf"], unfollowed := true, recurses := true, named := ["teasel/packed.Wrong", "teasel/packed.Many"], plainKeys := false, apart := false, laid := [("teasel/packed.Many", laid_teasel_packed_Many), ("teasel/packed.Wrong", laid_teasel_packed_Wrong)] }
def LocsDecodesSaid : Prop := locsDecodesRow.holds Tryd.pinned (OpenSpec.ofChange locsDecodesSpec)

/-- ITS FALSE NEIGHBOUR: 'it returns false'. Refute it at one input. -/
def locsDecodesWrong : ChangeSpec := { name := "locsDecodes", fn := fun _ => fun
  | [d] => { results := [.lit (.bool false)], args := [d] }
  | _ => none }
def LocsDecodesWrongFalsely : Prop := locsDecodesRow.holds Tryd.pinned (OpenSpec.ofChange locsDecodesWrong)

/-- 'teasellaw21.LocsCut': WHATEVER THE INPUT: true; the input reads as it did. -/
def locsCutSpec : ChangeSpec := { name := "locsCut", fn := fun _ => fun
  | [d1, d2, d3, d4] => { results := [.lit (.bool true)], args := [d1, d2, d3, d4] }
  | _ => none }
def locsCutRow : OpenClaim := { program := "ytlblmnneikdpgaadoor", sum := "fb22d7aa442c1e08cee5be7fe9ceeaf5d911fcc6bb2d717b4db1c23040375d48", func := "teasel/teasellaw21.LocsCut", spec := "locsCut", inPlace := ["internal/reflectlite.TypeOf"], unfollowed := true, recurses := true, named := ["teasel/packed.Wrong", "teasel/packed.Many"], plainKeys := false, apart := false, laid := [("teasel/packed.Many", laid_teasel_packed_Many), ("teasel/packed.Wrong", laid_teasel_packed_Wrong)] }
def LocsCutSaid : Prop := locsCutRow.holds Tryd.pinned (OpenSpec.ofChange locsCutSpec)

/-- ITS FALSE NEIGHBOUR: 'it returns false'. Refute it at one input. -/
def locsCutWrong : ChangeSpec := { name := "locsCut", fn := fun _ => fun
  | [d1, d2, d3, d4] => { results := [.lit (.bool false)], args := [d1, d2, d3, d4] }
  | _ => none }
def LocsCutWrongFalsely : Prop := locsCutRow.holds Tryd.pinned (OpenSpec.ofChange locsCutWrong)

/- THE SECOND FORM. 'bulk': how many values and letters a reading holds, each counted each time it is reached (what is shared counts as often as it is met; a slice's spare places count too). A statement '..UptoSaid' is the law's where the arguments, and the package variables that the reading takes, are together of bulk at most 1048576: NARROWER than '..Said'. Prove '..Said' where nothing that the law and all that it calls make is longer than what came in: it says more and counts as full. Else prove '..UptoSaid'. A law counts once. -/
mutual
def uptoBulk {H : Type} : DataW H → Nat
  | .lit (.string bytes) => bytes.length + 1
  | .lit _ => 1
  | .nil => 1
  | .ptr d => uptoBulk d + 1
  | .slice elems spare => uptoBulkAll elems + uptoBulkAll spare + 1
  | .agg parts => uptoBulkAll parts + 1
  | .iface _ d => uptoBulk d + 1
  | .map entries => uptoBulkEntries entries + 1
  | .held _ => 1
def uptoBulkAll {H : Type} : List (DataW H) → Nat
  | [] => 0
  | d :: r => uptoBulk d + uptoBulkAll r
def uptoBulkEntries {H : Type} : List (Lit × DataW H) → Nat
  | [] => 0
  | x :: r => uptoBulkEntry x + uptoBulkEntries r
def uptoBulkEntry {H : Type} : Lit × DataW H → Nat
  | (.string bytes, d) => bytes.length + uptoBulk d + 1
  | (_, d) => uptoBulk d + 1
 end
def uptoSmall : (H : Type) → List (DataW H) → Bool := fun _ ds => decide (uptoBulkAll ds ≤ 1048576)
def OpenSpec.upto (s : _root_.Go.ChangeSpec) : _root_.Go.OpenSpec := { _root_.Go.OpenSpec.ofChange s with cond := some uptoSmall }

/-- 'teasellaw20.InstEncodes', WHERE WHAT IT READS IS OF BULK AT MOST 1048576: true; the input reads as it did. -/
def instEncodesUptoRow : OpenClaim := { program := "ytlblmnneikdpgaadoor", sum := "fb22d7aa442c1e08cee5be7fe9ceeaf5d911fcc6bb2d717b4db1c23040375d48", func := "teasel/teasellaw20.InstEncodes", spec := "instEncodes", inPlace := ["internal/reflectlite.TypeOf"], unfollowed := true, recurses := true, named := ["teasel/packed.Wrong", "teasel/packed.Many"], plainKeys := false, apart := false, laid := [("teasel/packed.Many", laid_teasel_packed_Many), ("teasel/packed.Wrong", laid_teasel_packed_Wrong)], narrowed := true }
def InstEncodesUptoSaid : Prop := instEncodesUptoRow.holds Tryd.pinned (OpenSpec.upto instEncodesSpec)

/-- 'teasellaw20.InstDecodes', WHERE WHAT IT READS IS OF BULK AT MOST 1048576: true; the input reads as it did. -/
def instDecodesUptoRow : OpenClaim := { program := "ytlblmnneikdpgaadoor", sum := "fb22d7aa442c1e08cee5be7fe9ceeaf5d911fcc6bb2d717b4db1c23040375d48", func := "teasel/teasellaw20.InstDecodes", spec := "instDecodes", inPlace := ["internal/reflectlite.TypeOf"], unfollowed := true, recurses := true, named := ["teasel/packed.Wrong", "teasel/packed.Many"], plainKeys := false, apart := false, laid := [("teasel/packed.Many", laid_teasel_packed_Many), ("teasel/packed.Wrong", laid_teasel_packed_Wrong)], narrowed := true }
def InstDecodesUptoSaid : Prop := instDecodesUptoRow.holds Tryd.pinned (OpenSpec.upto instDecodesSpec)

/-- 'teasellaw20.InstPacks', WHERE WHAT IT READS IS OF BULK AT MOST 1048576: true; the input reads as it did. -/
def instPacksUptoRow : OpenClaim := { program := "ytlblmnneikdpgaadoor", sum := "fb22d7aa442c1e08cee5be7fe9ceeaf5d911fcc6bb2d717b4db1c23040375d48", func := "teasel/teasellaw20.InstPacks", spec := "instPacks", inPlace := ["internal/reflectlite.TypeOf"], unfollowed := true, recurses := true, named := ["teasel/packed.Wrong", "teasel/packed.Many"], plainKeys := false, apart := false, laid := [("teasel/packed.Many", laid_teasel_packed_Many), ("teasel/packed.Wrong", laid_teasel_packed_Wrong)], narrowed := true }
def InstPacksUptoSaid : Prop := instPacksUptoRow.holds Tryd.pinned (OpenSpec.upto instPacksSpec)

/-- 'teasellaw20.InstLimits', WHERE WHAT IT READS IS OF BULK AT MOST 1048576: true; the input reads as it did. -/
def instLimitsUptoRow : OpenClaim := { program := "ytlblmnneikdpgaadoor", sum := "fb22d7aa442c1e08cee5be7fe9ceeaf5d911fcc6bb2d717b4db1c23040375d48", func := "teasel/teasellaw20.InstLimits", spec := "instLimits", inPlace := ["internal/reflectlite.TypeOf"], unfollowed := true, recurses := true, named := ["teasel/packed.Wrong", "teasel/packed.Many"], plainKeys := false, apart := false, laid := [("teasel/packed.Many", laid_teasel_packed_Many), ("teasel/packed.Wrong", laid_teasel_packed_Wrong)], narrowed := true }
def InstLimitsUptoSaid : Prop := instLimitsUptoRow.holds Tryd.pinned (OpenSpec.upto instLimitsSpec)

/-- 'teasellaw20.InstApart', WHERE WHAT IT READS IS OF BULK AT MOST 1048576: true; the input reads as it did. -/
def instApartUptoRow : OpenClaim := { program := "ytlblmnneikdpgaadoor", sum := "fb22d7aa442c1e08cee5be7fe9ceeaf5d911fcc6bb2d717b4db1c23040375d48", func := "teasel/teasellaw20.InstApart", spec := "instApart", inPlace := ["internal/reflectlite.TypeOf"], unfollowed := true, recurses := true, named := ["teasel/packed.Wrong", "teasel/packed.Many"], plainKeys := false, apart := false, laid := [("teasel/packed.Many", laid_teasel_packed_Many), ("teasel/packed.Wrong", laid_teasel_packed_Wrong)], narrowed := true }
def InstApartUptoSaid : Prop := instApartUptoRow.holds Tryd.pinned (OpenSpec.upto instApartSpec)

/-- 'teasellaw21.LocsEncodes', WHERE WHAT IT READS IS OF BULK AT MOST 1048576: true; the input reads as it did. -/
def locsEncodesUptoRow : OpenClaim := { program := "ytlblmnneikdpgaadoor", sum := "fb22d7aa442c1e08cee5be7fe9ceeaf5d911fcc6bb2d717b4db1c23040375d48", func := "teasel/teasellaw21.LocsEncodes", spec := "locsEncodes", inPlace := ["internal/reflectlite.TypeOf"], unfollowed := true, recurses := true, named := ["teasel/packed.Wrong", "teasel/packed.Many"], plainKeys := false, apart := false, laid := [("teasel/packed.Many", laid_teasel_packed_Many), ("teasel/packed.Wrong", laid_teasel_packed_Wrong)], narrowed := true }
def LocsEncodesUptoSaid : Prop := locsEncodesUptoRow.holds Tryd.pinned (OpenSpec.upto locsEncodesSpec)

/-- 'teasellaw21.LocsDecodes', WHERE WHAT IT READS IS OF BULK AT MOST 1048576: true; the input reads as it did. -/
def locsDecodesUptoRow : OpenClaim := { program := "ytlblmnneikdpgaadoor", sum := "fb22d7aa442c1e08cee5be7fe9ceeaf5d911fcc6bb2d717b4db1c23040375d48", func := "teasel/teasellaw21.LocsDecodes", spec := "locsDecodes", inPlace := ["internal/reflectlite.TypeOf"], unfollowed := true, recurses := true, named := ["teasel/packed.Wrong", "teasel/packed.Many"], plainKeys := false, apart := false, laid := [("teasel/packed.Many", laid_teasel_packed_Many), ("teasel/packed.Wrong", laid_teasel_packed_Wrong)], narrowed := true }
def LocsDecodesUptoSaid : Prop := locsDecodesUptoRow.holds Tryd.pinned (OpenSpec.upto locsDecodesSpec)

/-- 'teasellaw21.LocsCut', WHERE WHAT IT READS IS OF BULK AT MOST 1048576: true; the input reads as it did. -/
def locsCutUptoRow : OpenClaim := { program := "ytlblmnneikdpgaadoor", sum := "fb22d7aa442c1e08cee5be7fe9ceeaf5d911fcc6bb2d717b4db1c23040375d48", func := "teasel/teasellaw21.LocsCut", spec := "locsCut", inPlace := ["internal/reflectlite.TypeOf"], unfollowed := true, recurses := true, named := ["teasel/packed.Wrong", "teasel/packed.Many"], plainKeys := false, apart := false, laid := [("teasel/packed.Many", laid_teasel_packed_Many), ("teasel/packed.Wrong", laid_teasel_packed_Wrong)], narrowed := true }
def LocsCutUptoSaid : Prop := locsCutUptoRow.holds Tryd.pinned (OpenSpec.upto locsCutSpec)

end Rows
end Go.Proofs.YtlblmnneikdpgaaDoor
