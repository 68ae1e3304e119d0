/-
  DERIVED. GIVEN WITH THE SEED: THE CARDS: each row of YtlblmnneikdpgaaDoorRows.lean that lists a variable, with what it lists TIED to the program's text (the seventh form; the later family's looks); each row that meets fmt, with fmt's text TOLD by the authors' own Lean function (tested against real Go, not proved from fmt's source: count such statements apart). THE CARD IS WHAT COUNTS. Prove the row's statement (the work); the ties are given (YtlblmnneikdpgaaDoorTie.lean); close each card by the builder's one call (the guide's Derived/Test/ToyasCard.lean, 'card_holds'). Laid BY PROGRAM, IN A SANDBOX (cutbox-door.mjs). By AI agents, Wed Nov 11 2026. No macro, syntax, notation, axiom, sorry.
-/
import Derived.Test.YtlblmnneikdpgaaDoorRows
import GoSem.ClaimSeven
namespace Go.Proofs.YtlblmnneikdpgaaDoor
namespace Rows

/-- THE TIED CARD OF 'teasellaw20.InstEncodes'. -/
def instEncodesCard : Claim7 := { stood := { row := instEncodesRow, standIns := [], harness := (true, "d8f178056d01f59f50450a7e1ee82ee8f3a61fcd05b1a1aa613b1960d6167b21"), looks := true }, kinds := [], alts := [], laidByText := true, laidKinds := [.sentinel, .sentinel], laidTests := true, laidLooks := .later }
def InstEncodesCardSaid : Prop := Claim7.holds Tryd.pinned (.plain (OpenSpec.ofChange instEncodesSpec)) instEncodesCard

/-- THE TIED CARD OF 'teasellaw20.InstDecodes'. -/
def instDecodesCard : Claim7 := { stood := { row := instDecodesRow, standIns := [], harness := (true, "d8f178056d01f59f50450a7e1ee82ee8f3a61fcd05b1a1aa613b1960d6167b21"), looks := true }, kinds := [], alts := [], laidByText := true, laidKinds := [.sentinel, .sentinel], laidTests := true, laidLooks := .later }
def InstDecodesCardSaid : Prop := Claim7.holds Tryd.pinned (.plain (OpenSpec.ofChange instDecodesSpec)) instDecodesCard

/-- THE TIED CARD OF 'teasellaw20.InstPacks'. -/
def instPacksCard : Claim7 := { stood := { row := instPacksRow, standIns := [], harness := (true, "d8f178056d01f59f50450a7e1ee82ee8f3a61fcd05b1a1aa613b1960d6167b21"), looks := true }, kinds := [], alts := [], laidByText := true, laidKinds := [.sentinel, .sentinel], laidTests := true, laidLooks := .later }
def InstPacksCardSaid : Prop := Claim7.holds Tryd.pinned (.plain (OpenSpec.ofChange instPacksSpec)) instPacksCard

/-- THE TIED CARD OF 'teasellaw20.InstLimits'. -/
def instLimitsCard : Claim7 := { stood := { row := instLimitsRow, standIns := [], harness := (true, "d8f178056d01f59f50450a7e1ee82ee8f3a61fcd05b1a1aa613b1960d6167b21"), looks := true }, kinds := [], alts := [], laidByText := true, laidKinds := [.sentinel, .sentinel], laidTests := true, laidLooks := .later }
def InstLimitsCardSaid : Prop := Claim7.holds Tryd.pinned (.plain (OpenSpec.ofChange instLimitsSpec)) instLimitsCard

/-- THE TIED CARD OF 'teasellaw20.InstApart'. -/
def instApartCard : Claim7 := { stood := { row := instApartRow, standIns := [], harness := (true, "d8f178056d01f59f50450a7e1ee82ee8f3a61fcd05b1a1aa613b1960d6167b21"), looks := true }, kinds := [], alts := [], laidByText := true, laidKinds := [.sentinel, .sentinel], laidTests := true, laidLooks := .later }
def InstApartCardSaid : Prop := Claim7.holds Tryd.pinned (.plain (OpenSpec.ofChange instApartSpec)) instApartCard

/-- THE TIED CARD OF 'teasellaw21.LocsEncodes'. -/
def locsEncodesCard : Claim7 := { stood := { row := locsEncodesRow, standIns := [], harness := (true, "d8f178056d01f59f50450a7e1ee82ee8f3a61fcd05b1a1aa613b1960d6167b21"), looks := true }, kinds := [], alts := [], laidByText := true, laidKinds := [.sentinel, .sentinel], laidTests := true, laidLooks := .later }
def LocsEncodesCardSaid : Prop := Claim7.holds Tryd.pinned (.plain (OpenSpec.ofChange locsEncodesSpec)) locsEncodesCard

/-- THE TIED CARD OF 'teasellaw21.LocsDecodes'. -/
def locsDecodesCard : Claim7 := { stood := { row := locsDecodesRow, standIns := [], harness := (true, "d8f178056d01f59f50450a7e1ee82ee8f3a61fcd05b1a1aa613b1960d6167b21"), looks := true }, kinds := [], alts := [], laidByText := true, laidKinds := [.sentinel, .sentinel], laidTests := true, laidLooks := .later }
def LocsDecodesCardSaid : Prop := Claim7.holds Tryd.pinned (.plain (OpenSpec.ofChange locsDecodesSpec)) locsDecodesCard

/-- THE TIED CARD OF 'teasellaw21.LocsCut'. -/
def locsCutCard : Claim7 := { stood := { row := locsCutRow, standIns := [], harness := (true, "d8f178056d01f59f50450a7e1ee82ee8f3a61fcd05b1a1aa613b1960d6167b21"), looks := true }, kinds := [], alts := [], laidByText := true, laidKinds := [.sentinel, .sentinel], laidTests := true, laidLooks := .later }
def LocsCutCardSaid : Prop := Claim7.holds Tryd.pinned (.plain (OpenSpec.ofChange locsCutSpec)) locsCutCard

/-- THE SECOND FORM's CARD OF 'teasellaw20.InstEncodes'. -/
def instEncodesUptoCard : Claim7 := { stood := { row := instEncodesUptoRow, standIns := [], harness := (true, "d8f178056d01f59f50450a7e1ee82ee8f3a61fcd05b1a1aa613b1960d6167b21"), looks := true }, kinds := [], alts := [], laidByText := true, laidKinds := [.sentinel, .sentinel], laidTests := true, laidLooks := .later }
def InstEncodesUptoCardSaid : Prop := Claim7.holds Tryd.pinned (.plain (OpenSpec.upto instEncodesSpec)) instEncodesUptoCard

/-- THE SECOND FORM's CARD OF 'teasellaw20.InstDecodes'. -/
def instDecodesUptoCard : Claim7 := { stood := { row := instDecodesUptoRow, standIns := [], harness := (true, "d8f178056d01f59f50450a7e1ee82ee8f3a61fcd05b1a1aa613b1960d6167b21"), looks := true }, kinds := [], alts := [], laidByText := true, laidKinds := [.sentinel, .sentinel], laidTests := true, laidLooks := .later }
def InstDecodesUptoCardSaid : Prop := Claim7.holds Tryd.pinned (.plain (OpenSpec.upto instDecodesSpec)) instDecodesUptoCard

/-- THE SECOND FORM's CARD OF 'teasellaw20.InstPacks'. -/
def instPacksUptoCard : Claim7 := { stood := { row := instPacksUptoRow, standIns := [], harness := (true, "d8f178056d01f59f50450a7e1ee82ee8f3a61fcd05b1a1aa613b1960d6167b21"), looks := true }, kinds := [], alts := [], laidByText := true, laidKinds := [.sentinel, .sentinel], laidTests := true, laidLooks := .later }
def InstPacksUptoCardSaid : Prop := Claim7.holds Tryd.pinned (.plain (OpenSpec.upto instPacksSpec)) instPacksUptoCard

/-- THE SECOND FORM's CARD OF 'teasellaw20.InstLimits'. -/
def instLimitsUptoCard : Claim7 := { stood := { row := instLimitsUptoRow, standIns := [], harness := (true, "d8f178056d01f59f50450a7e1ee82ee8f3a61fcd05b1a1aa613b1960d6167b21"), looks := true }, kinds := [], alts := [], laidByText := true, laidKinds := [.sentinel, .sentinel], laidTests := true, laidLooks := .later }
def InstLimitsUptoCardSaid : Prop := Claim7.holds Tryd.pinned (.plain (OpenSpec.upto instLimitsSpec)) instLimitsUptoCard

/-- THE SECOND FORM's CARD OF 'teasellaw20.InstApart'. -/
def instApartUptoCard : Claim7 := { stood := { row := instApartUptoRow, standIns := [], harness := (true, "d8f178056d01f59f50450a7e1ee82ee8f3a61fcd05b1a1aa613b1960d6167b21"), looks := true }, kinds := [], alts := [], laidByText := true, laidKinds := [.sentinel, .sentinel], laidTests := true, laidLooks := .later }
def InstApartUptoCardSaid : Prop := Claim7.holds Tryd.pinned (.plain (OpenSpec.upto instApartSpec)) instApartUptoCard

/-- THE SECOND FORM's CARD OF 'teasellaw21.LocsEncodes'. -/
def locsEncodesUptoCard : Claim7 := { stood := { row := locsEncodesUptoRow, standIns := [], harness := (true, "d8f178056d01f59f50450a7e1ee82ee8f3a61fcd05b1a1aa613b1960d6167b21"), looks := true }, kinds := [], alts := [], laidByText := true, laidKinds := [.sentinel, .sentinel], laidTests := true, laidLooks := .later }
def LocsEncodesUptoCardSaid : Prop := Claim7.holds Tryd.pinned (.plain (OpenSpec.upto locsEncodesSpec)) locsEncodesUptoCard

/-- THE SECOND FORM's CARD OF 'teasellaw21.LocsDecodes'. -/
def locsDecodesUptoCard : Claim7 := { stood := { row := locsDecodesUptoRow, standIns := [], harness := (true, "d8f178056d01f59f50450a7e1ee82ee8f3a61fcd05b1a1aa613b1960d6167b21"), looks := true }, kinds := [], alts := [], laidByText := true, laidKinds := [.sentinel, .sentinel], laidTests := true, laidLooks := .later }
def LocsDecodesUptoCardSaid : Prop := Claim7.holds Tryd.pinned (.plain (OpenSpec.upto locsDecodesSpec)) locsDecodesUptoCard

/-- THE SECOND FORM's CARD OF 'teasellaw21.LocsCut'. -/
def locsCutUptoCard : Claim7 := { stood := { row := locsCutUptoRow, standIns := [], harness := (true, "d8f178056d01f59f50450a7e1ee82ee8f3a61fcd05b1a1aa613b1960d6167b21"), looks := true }, kinds := [], alts := [], laidByText := true, laidKinds := [.sentinel, .sentinel], laidTests := true, laidLooks := .later }
def LocsCutUptoCardSaid : Prop := Claim7.holds Tryd.pinned (.plain (OpenSpec.upto locsCutSpec)) locsCutUptoCard
end Rows
end Go.Proofs.YtlblmnneikdpgaaDoor
