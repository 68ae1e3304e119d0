/-
  DERIVED. GIVEN WITH THE SEED: THE CARDS: each row of YtepnjhbolaebmaaDoorRows.lean that lists a variable, with what it lists TIED to the program's text (the seventh form; the later family's looks); each row that meets fmt, with fmt's text TOLD by the authors' own Lean function (tested against real Go, not proved from fmt's source: count such statements apart). THE CARD IS WHAT COUNTS. Prove the row's statement (the work); the ties are given (YtepnjhbolaebmaaDoorTie.lean); close each card by the builder's one call (the guide's Derived/Test/ToyasCard.lean, 'card_holds'). Laid BY PROGRAM, IN A SANDBOX (cutbox-door.mjs). By AI agents, Wed Nov 11 2026. No macro, syntax, notation, axiom, sorry.
-/
import Derived.Test.YtepnjhbolaebmaaDoorRows
import GoSem.ClaimSeven
namespace Go.Proofs.YtepnjhbolaebmaaDoor
namespace Rows

/-- THE TIED CARD OF 'teasellaw22.VmSaves'. -/
def vmSavesCard : Claim7 := { stood := { row := vmSavesRow, standIns := [], harness := (true, "84c2354973788fa30cefacd0d9ecec1e3c4c15c1545c214f64c21f57521d0df2"), looks := true }, kinds := [], alts := [], laidByText := true, laidKinds := [.sentinel], laidTests := true, laidLooks := .later }
def VmSavesCardSaid : Prop := Claim7.holds Tryd.pinned (.plain (OpenSpec.ofChange vmSavesSpec)) vmSavesCard

/-- THE TIED CARD OF 'teasellaw22.VmLoads'. -/
def vmLoadsCard : Claim7 := { stood := { row := vmLoadsRow, standIns := [], harness := (true, "84c2354973788fa30cefacd0d9ecec1e3c4c15c1545c214f64c21f57521d0df2"), looks := true }, kinds := [], alts := [], laidByText := true, laidKinds := [.sentinel], laidTests := true, laidLooks := .later }
def VmLoadsCardSaid : Prop := Claim7.holds Tryd.pinned (.plain (OpenSpec.ofChange vmLoadsSpec)) vmLoadsCard

/-- THE TIED CARD OF 'teasellaw22.VmNil'. -/
def vmNilCard : Claim7 := { stood := { row := vmNilRow, standIns := [], harness := (true, "84c2354973788fa30cefacd0d9ecec1e3c4c15c1545c214f64c21f57521d0df2"), looks := true }, kinds := [], alts := [], laidByText := true, laidKinds := [.sentinel], laidTests := true, laidLooks := .later }
def VmNilCardSaid : Prop := Claim7.holds Tryd.pinned (.plain (OpenSpec.ofChange vmNilSpec)) vmNilCard

/-- THE TIED CARD OF 'teasellaw23.VetChecks'. -/
def vetChecksCard : Claim7 := { stood := { row := vetChecksRow, standIns := [], harness := (true, "84c2354973788fa30cefacd0d9ecec1e3c4c15c1545c214f64c21f57521d0df2"), looks := true }, kinds := [], alts := [], laidByText := true, laidKinds := [.sentinel, .sentinel], laidTests := true, laidLooks := .later }
def VetChecksCardSaid : Prop := Claim7.holds Tryd.pinned (.plain (OpenSpec.ofChange vetChecksSpec)) vetChecksCard

/-- THE TIED CARD OF 'teasellaw23.VetRuns'. -/
def vetRunsCard : Claim7 := { stood := { row := vetRunsRow, standIns := [], harness := (true, "84c2354973788fa30cefacd0d9ecec1e3c4c15c1545c214f64c21f57521d0df2"), looks := true }, kinds := [], alts := [], laidByText := true, laidKinds := [.sentinel, .sentinel], laidTests := true, laidLooks := .later }
def VetRunsCardSaid : Prop := Claim7.holds Tryd.pinned (.plain (OpenSpec.ofChange vetRunsSpec)) vetRunsCard

/-- THE TIED CARD OF 'teasellaw23.VetLimits'. -/
def vetLimitsCard : Claim7 := { stood := { row := vetLimitsRow, standIns := [], harness := (true, "84c2354973788fa30cefacd0d9ecec1e3c4c15c1545c214f64c21f57521d0df2"), looks := true }, kinds := [], alts := [], laidByText := true, laidKinds := [.sentinel, .sentinel], laidTests := true, laidLooks := .later }
def VetLimitsCardSaid : Prop := Claim7.holds Tryd.pinned (.plain (OpenSpec.ofChange vetLimitsSpec)) vetLimitsCard

/-- THE TIED CARD OF 'teasellaw23.VetNames'. -/
def vetNamesCard : Claim7 := { stood := { row := vetNamesRow, standIns := [], harness := (true, "84c2354973788fa30cefacd0d9ecec1e3c4c15c1545c214f64c21f57521d0df2"), looks := true }, kinds := [], alts := [], laidByText := true, laidKinds := [.sentinel, .sentinel], laidTests := true, laidLooks := .later }
def VetNamesCardSaid : Prop := Claim7.holds Tryd.pinned (.plain (OpenSpec.ofChange vetNamesSpec)) vetNamesCard

/-- THE SECOND FORM's CARD OF 'teasellaw22.VmSaves'. -/
def vmSavesUptoCard : Claim7 := { stood := { row := vmSavesUptoRow, standIns := [], harness := (true, "84c2354973788fa30cefacd0d9ecec1e3c4c15c1545c214f64c21f57521d0df2"), looks := true }, kinds := [], alts := [], laidByText := true, laidKinds := [.sentinel], laidTests := true, laidLooks := .later }
def VmSavesUptoCardSaid : Prop := Claim7.holds Tryd.pinned (.plain (OpenSpec.upto vmSavesSpec)) vmSavesUptoCard

/-- THE SECOND FORM's CARD OF 'teasellaw22.VmLoads'. -/
def vmLoadsUptoCard : Claim7 := { stood := { row := vmLoadsUptoRow, standIns := [], harness := (true, "84c2354973788fa30cefacd0d9ecec1e3c4c15c1545c214f64c21f57521d0df2"), looks := true }, kinds := [], alts := [], laidByText := true, laidKinds := [.sentinel], laidTests := true, laidLooks := .later }
def VmLoadsUptoCardSaid : Prop := Claim7.holds Tryd.pinned (.plain (OpenSpec.upto vmLoadsSpec)) vmLoadsUptoCard

/-- THE SECOND FORM's CARD OF 'teasellaw22.VmNil'. -/
def vmNilUptoCard : Claim7 := { stood := { row := vmNilUptoRow, standIns := [], harness := (true, "84c2354973788fa30cefacd0d9ecec1e3c4c15c1545c214f64c21f57521d0df2"), looks := true }, kinds := [], alts := [], laidByText := true, laidKinds := [.sentinel], laidTests := true, laidLooks := .later }
def VmNilUptoCardSaid : Prop := Claim7.holds Tryd.pinned (.plain (OpenSpec.upto vmNilSpec)) vmNilUptoCard

/-- THE SECOND FORM's CARD OF 'teasellaw23.VetChecks'. -/
def vetChecksUptoCard : Claim7 := { stood := { row := vetChecksUptoRow, standIns := [], harness := (true, "84c2354973788fa30cefacd0d9ecec1e3c4c15c1545c214f64c21f57521d0df2"), looks := true }, kinds := [], alts := [], laidByText := true, laidKinds := [.sentinel, .sentinel], laidTests := true, laidLooks := .later }
def VetChecksUptoCardSaid : Prop := Claim7.holds Tryd.pinned (.plain (OpenSpec.upto vetChecksSpec)) vetChecksUptoCard

/-- THE SECOND FORM's CARD OF 'teasellaw23.VetRuns'. -/
def vetRunsUptoCard : Claim7 := { stood := { row := vetRunsUptoRow, standIns := [], harness := (true, "84c2354973788fa30cefacd0d9ecec1e3c4c15c1545c214f64c21f57521d0df2"), looks := true }, kinds := [], alts := [], laidByText := true, laidKinds := [.sentinel, .sentinel], laidTests := true, laidLooks := .later }
def VetRunsUptoCardSaid : Prop := Claim7.holds Tryd.pinned (.plain (OpenSpec.upto vetRunsSpec)) vetRunsUptoCard

/-- THE SECOND FORM's CARD OF 'teasellaw23.VetLimits'. -/
def vetLimitsUptoCard : Claim7 := { stood := { row := vetLimitsUptoRow, standIns := [], harness := (true, "84c2354973788fa30cefacd0d9ecec1e3c4c15c1545c214f64c21f57521d0df2"), looks := true }, kinds := [], alts := [], laidByText := true, laidKinds := [.sentinel, .sentinel], laidTests := true, laidLooks := .later }
def VetLimitsUptoCardSaid : Prop := Claim7.holds Tryd.pinned (.plain (OpenSpec.upto vetLimitsSpec)) vetLimitsUptoCard

/-- THE SECOND FORM's CARD OF 'teasellaw23.VetNames'. -/
def vetNamesUptoCard : Claim7 := { stood := { row := vetNamesUptoRow, standIns := [], harness := (true, "84c2354973788fa30cefacd0d9ecec1e3c4c15c1545c214f64c21f57521d0df2"), looks := true }, kinds := [], alts := [], laidByText := true, laidKinds := [.sentinel, .sentinel], laidTests := true, laidLooks := .later }
def VetNamesUptoCardSaid : Prop := Claim7.holds Tryd.pinned (.plain (OpenSpec.upto vetNamesSpec)) vetNamesUptoCard
end Rows
end Go.Proofs.YtepnjhbolaebmaaDoor
