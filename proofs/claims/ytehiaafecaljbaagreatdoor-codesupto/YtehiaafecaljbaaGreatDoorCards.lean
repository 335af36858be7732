/-
  DERIVED. GIVEN WITH THE SEED: THE CARDS: each row of YtehiaafecaljbaaGreatDoorRows.lean that lists a variable, with what it lists TIED to the program's text (the seventh form; the later family's looks); each row that meets fmt, with fmt's text TOLD by the authors' own Lean function (tested against real Go, not proved from fmt's source: count such statements apart). THE CARD IS WHAT COUNTS. Prove the row's statement (the work); the ties are given (YtehiaafecaljbaaGreatDoorTie.lean); close each card by the builder's one call (the guide's Derived/Test/ToyasCard.lean, 'card_holds'). Laid BY PROGRAM, IN A SANDBOX (cutbox-door.mjs). By AI agents, Wed Nov 11 2026. No macro, syntax, notation, axiom, sorry.
-/
import Derived.Test.YtehiaafecaljbaaGreatDoorRows
import GoSem.ClaimSeven
namespace Go.Proofs.YtehiaafecaljbaaGreatDoor
namespace Rows

/-- THE TIED CARD OF 'floodgatelaw.Codes'. -/
def codesCard : Claim7 := { stood := { row := codesRow, standIns := [], harness := (true, "65cf68923bbd7c388cd8b37c2935dc64b2a32c01dedd7934a62d2a06945f7390"), looks := false }, kinds := [], alts := [], laidByText := true, laidKinds := [.data, .data, .data, .data, .data], laidTests := true, laidLooks := .later }
def CodesCardSaid : Prop := Claim7.holds Tryz.pinned (.plain (OpenSpec.ofChange codesSpec)) codesCard

/-- THE TIED CARD OF 'floodgatelaw.Blocks'. -/
def blocksCard : Claim7 := { stood := { row := blocksRow, standIns := [], harness := (true, "65cf68923bbd7c388cd8b37c2935dc64b2a32c01dedd7934a62d2a06945f7390"), looks := false }, kinds := [], alts := [], laidByText := true, laidKinds := [.data, .data, .data, .data, .data], laidTests := true, laidLooks := .later }
def BlocksCardSaid : Prop := Claim7.holds Tryz.pinned (.plain (OpenSpec.ofChange blocksSpec)) blocksCard

/-- THE TIED CARD OF 'floodgatekeep.Packed'. -/
def packedCard : Claim7 := { stood := { row := packedRow, standIns := [], harness := (true, "65cf68923bbd7c388cd8b37c2935dc64b2a32c01dedd7934a62d2a06945f7390"), looks := false }, kinds := [], alts := [], laidByText := true, laidKinds := [.data], laidTests := true, laidLooks := .later }
def PackedCardSaid : Prop := Claim7.holds Tryz.pinned (.plain (OpenSpec.ofChange packedSpec)) packedCard

/-- THE TIED CARD OF 'floodgatelaw.Means'. -/
def meansCard : Claim7 := { stood := { row := meansRow, standIns := [], harness := (true, "65cf68923bbd7c388cd8b37c2935dc64b2a32c01dedd7934a62d2a06945f7390"), looks := false }, kinds := [], alts := [], laidByText := true, laidKinds := [.data, .data, .data, .data, .data], laidTests := true, laidLooks := .later }
def MeansCardSaid : Prop := Claim7.holds Tryz.pinned (.plain (OpenSpec.ofChange meansSpec)) meansCard

/-- THE TIED CARD OF 'floodgatekeep.Framed'. -/
def framedCard : Claim7 := { stood := { row := framedRow, standIns := [], harness := (true, "65cf68923bbd7c388cd8b37c2935dc64b2a32c01dedd7934a62d2a06945f7390"), looks := false }, kinds := [], alts := [], laidByText := true, laidKinds := [.data], laidTests := true, laidLooks := .later }
def FramedCardSaid : Prop := Claim7.holds Tryz.pinned (.plain (OpenSpec.ofChange framedSpec)) framedCard

/-- THE SECOND FORM's CARD OF 'floodgatelaw.Codes'. -/
def codesUptoCard : Claim7 := { stood := { row := codesUptoRow, standIns := [], harness := (true, "65cf68923bbd7c388cd8b37c2935dc64b2a32c01dedd7934a62d2a06945f7390"), looks := false }, kinds := [], alts := [], laidByText := true, laidKinds := [.data, .data, .data, .data, .data], laidTests := true, laidLooks := .later }
def CodesUptoCardSaid : Prop := Claim7.holds Tryz.pinned (.plain (OpenSpec.upto codesSpec)) codesUptoCard

/-- THE SECOND FORM's CARD OF 'floodgatelaw.Blocks'. -/
def blocksUptoCard : Claim7 := { stood := { row := blocksUptoRow, standIns := [], harness := (true, "65cf68923bbd7c388cd8b37c2935dc64b2a32c01dedd7934a62d2a06945f7390"), looks := false }, kinds := [], alts := [], laidByText := true, laidKinds := [.data, .data, .data, .data, .data], laidTests := true, laidLooks := .later }
def BlocksUptoCardSaid : Prop := Claim7.holds Tryz.pinned (.plain (OpenSpec.upto blocksSpec)) blocksUptoCard

/-- THE SECOND FORM's CARD OF 'floodgatekeep.Packed'. -/
def packedUptoCard : Claim7 := { stood := { row := packedUptoRow, standIns := [], harness := (true, "65cf68923bbd7c388cd8b37c2935dc64b2a32c01dedd7934a62d2a06945f7390"), looks := false }, kinds := [], alts := [], laidByText := true, laidKinds := [.data], laidTests := true, laidLooks := .later }
def PackedUptoCardSaid : Prop := Claim7.holds Tryz.pinned (.plain (OpenSpec.upto packedSpec)) packedUptoCard

/-- THE SECOND FORM's CARD OF 'floodgatelaw.Means'. -/
def meansUptoCard : Claim7 := { stood := { row := meansUptoRow, standIns := [], harness := (true, "65cf68923bbd7c388cd8b37c2935dc64b2a32c01dedd7934a62d2a06945f7390"), looks := false }, kinds := [], alts := [], laidByText := true, laidKinds := [.data, .data, .data, .data, .data], laidTests := true, laidLooks := .later }
def MeansUptoCardSaid : Prop := Claim7.holds Tryz.pinned (.plain (OpenSpec.upto meansSpec)) meansUptoCard

/-- THE SECOND FORM's CARD OF 'floodgatekeep.Framed'. -/
def framedUptoCard : Claim7 := { stood := { row := framedUptoRow, standIns := [], harness := (true, "65cf68923bbd7c388cd8b37c2935dc64b2a32c01dedd7934a62d2a06945f7390"), looks := false }, kinds := [], alts := [], laidByText := true, laidKinds := [.data], laidTests := true, laidLooks := .later }
def FramedUptoCardSaid : Prop := Claim7.holds Tryz.pinned (.plain (OpenSpec.upto framedSpec)) framedUptoCard
end Rows
end Go.Proofs.YtehiaafecaljbaaGreatDoor
