/-
  DERIVED. GIVEN WITH THE SEED: THE CARDS: each row of YtbcjmakpempkiaaGreatDoorRows.lean that lists a variable, with what it lists TIED to the program's text (the seventh form; the later family's looks); each row that meets fmt, with fmt's text TOLD by the authors' own Lean function (tested against real Go, not proved from fmt's source: count such statements apart). THE CARD IS WHAT COUNTS. Prove the row's statement (the work); the ties are given (YtbcjmakpempkiaaGreatDoorTie.lean); close each card by the builder's one call (the guide's Derived/Test/ToyasCard.lean, 'card_holds'). Laid BY PROGRAM, IN A SANDBOX (cutbox-door.mjs). By AI agents, Wed Nov 11 2026. No macro, syntax, notation, axiom, sorry.
-/
import Derived.Test.YtbcjmakpempkiaaGreatDoorRows
import GoSem.ClaimSeven
namespace Go.Proofs.YtbcjmakpempkiaaGreatDoor
namespace Rows

/-- THE TIED CARD OF 'floodgatelaw.Codes'. -/
def codesCard : Claim7 := { stood := { row := codesRow, standIns := [], harness := (true, "24a846174dbf9c0f180eec57529263610cfd9723dfeb51c67063b632eded3a30"), looks := false }, kinds := [], alts := [], laidByText := true, laidKinds := [.data, .data, .data, .data, .data], laidTests := true, laidLooks := .later }
def CodesCardSaid : Prop := Claim7.holds Tryz.pinned (.plain (OpenSpec.ofChange codesSpec)) codesCard

/-- THE TIED CARD OF 'floodgatelaw.Blocks'. -/
def blocksCard : Claim7 := { stood := { row := blocksRow, standIns := [], harness := (true, "24a846174dbf9c0f180eec57529263610cfd9723dfeb51c67063b632eded3a30"), looks := false }, kinds := [], alts := [], laidByText := true, laidKinds := [.data, .data, .data, .data, .data], laidTests := true, laidLooks := .later }
def BlocksCardSaid : Prop := Claim7.holds Tryz.pinned (.plain (OpenSpec.ofChange blocksSpec)) blocksCard

/-- THE TIED CARD OF 'floodgatekeep.Packed'. -/
def packedCard : Claim7 := { stood := { row := packedRow, standIns := [], harness := (true, "24a846174dbf9c0f180eec57529263610cfd9723dfeb51c67063b632eded3a30"), looks := false }, kinds := [], alts := [], laidByText := true, laidKinds := [.data], laidTests := true, laidLooks := .later }
def PackedCardSaid : Prop := Claim7.holds Tryz.pinned (.plain (OpenSpec.ofChange packedSpec)) packedCard

/-- THE TIED CARD OF 'floodgatelaw.Means'. -/
def meansCard : Claim7 := { stood := { row := meansRow, standIns := [], harness := (true, "24a846174dbf9c0f180eec57529263610cfd9723dfeb51c67063b632eded3a30"), looks := false }, kinds := [], alts := [], laidByText := true, laidKinds := [.data, .data, .data, .data, .data], laidTests := true, laidLooks := .later }
def MeansCardSaid : Prop := Claim7.holds Tryz.pinned (.plain (OpenSpec.ofChange meansSpec)) meansCard

/-- THE TIED CARD OF 'floodgatekeep.Framed'. -/
def framedCard : Claim7 := { stood := { row := framedRow, standIns := [], harness := (true, "24a846174dbf9c0f180eec57529263610cfd9723dfeb51c67063b632eded3a30"), looks := false }, kinds := [], alts := [], laidByText := true, laidKinds := [.data], laidTests := true, laidLooks := .later }
def FramedCardSaid : Prop := Claim7.holds Tryz.pinned (.plain (OpenSpec.ofChange framedSpec)) framedCard

/-- THE TIED CARD OF 'floodgatelaw.Gates'. -/
def gatesCard : Claim7 := { stood := { row := gatesRow, standIns := [], harness := (true, "24a846174dbf9c0f180eec57529263610cfd9723dfeb51c67063b632eded3a30"), looks := false }, kinds := [], alts := [], laidByText := true, laidKinds := [.data, .data, .data, .data, .data], laidTests := true, laidLooks := .later }
def GatesCardSaid : Prop := Claim7.holds Tryz.pinned (.plain (OpenSpec.ofChange gatesSpec)) gatesCard

/-- THE TIED CARD OF 'floodgatekeep.Pieces'. -/
def piecesCard : Claim7 := { stood := { row := piecesRow, standIns := [], harness := (true, "24a846174dbf9c0f180eec57529263610cfd9723dfeb51c67063b632eded3a30"), looks := false }, kinds := [], alts := [], laidByText := true, laidKinds := [.data], laidTests := true, laidLooks := .later }
def PiecesCardSaid : Prop := Claim7.holds Tryz.pinned (.plain (OpenSpec.ofChange piecesSpec)) piecesCard

/-- THE TIED CARD OF 'floodgatekeep.Bounds'. -/
def boundsCard : Claim7 := { stood := { row := boundsRow, standIns := [], harness := (true, "24a846174dbf9c0f180eec57529263610cfd9723dfeb51c67063b632eded3a30"), looks := false }, kinds := [], alts := [], laidByText := true, laidKinds := [.data], laidTests := true, laidLooks := .later }
def BoundsCardSaid : Prop := Claim7.holds Tryz.pinned (.plain (OpenSpec.ofChange boundsSpec)) boundsCard

/-- THE TIED CARD OF 'floodgatelaw.All'. -/
def allCard : Claim7 := { stood := { row := allRow, standIns := [], harness := (true, "24a846174dbf9c0f180eec57529263610cfd9723dfeb51c67063b632eded3a30"), looks := false }, kinds := [], alts := [], laidByText := true, laidKinds := [.data, .data, .data, .data, .data], laidTests := true, laidLooks := .later }
def AllCardSaid : Prop := Claim7.holds Tryz.pinned (.plain (OpenSpec.ofChange allSpec)) allCard

/-- THE SECOND FORM's CARD OF 'floodgatelaw.Codes'. -/
def codesUptoCard : Claim7 := { stood := { row := codesUptoRow, standIns := [], harness := (true, "24a846174dbf9c0f180eec57529263610cfd9723dfeb51c67063b632eded3a30"), looks := false }, kinds := [], alts := [], laidByText := true, laidKinds := [.data, .data, .data, .data, .data], laidTests := true, laidLooks := .later }
def CodesUptoCardSaid : Prop := Claim7.holds Tryz.pinned (.plain (OpenSpec.upto codesSpec)) codesUptoCard

/-- THE SECOND FORM's CARD OF 'floodgatelaw.Blocks'. -/
def blocksUptoCard : Claim7 := { stood := { row := blocksUptoRow, standIns := [], harness := (true, "24a846174dbf9c0f180eec57529263610cfd9723dfeb51c67063b632eded3a30"), looks := false }, kinds := [], alts := [], laidByText := true, laidKinds := [.data, .data, .data, .data, .data], laidTests := true, laidLooks := .later }
def BlocksUptoCardSaid : Prop := Claim7.holds Tryz.pinned (.plain (OpenSpec.upto blocksSpec)) blocksUptoCard

/-- THE SECOND FORM's CARD OF 'floodgatekeep.Packed'. -/
def packedUptoCard : Claim7 := { stood := { row := packedUptoRow, standIns := [], harness := (true, "24a846174dbf9c0f180eec57529263610cfd9723dfeb51c67063b632eded3a30"), looks := false }, kinds := [], alts := [], laidByText := true, laidKinds := [.data], laidTests := true, laidLooks := .later }
def PackedUptoCardSaid : Prop := Claim7.holds Tryz.pinned (.plain (OpenSpec.upto packedSpec)) packedUptoCard

/-- THE SECOND FORM's CARD OF 'floodgatelaw.Means'. -/
def meansUptoCard : Claim7 := { stood := { row := meansUptoRow, standIns := [], harness := (true, "24a846174dbf9c0f180eec57529263610cfd9723dfeb51c67063b632eded3a30"), looks := false }, kinds := [], alts := [], laidByText := true, laidKinds := [.data, .data, .data, .data, .data], laidTests := true, laidLooks := .later }
def MeansUptoCardSaid : Prop := Claim7.holds Tryz.pinned (.plain (OpenSpec.upto meansSpec)) meansUptoCard

/-- THE SECOND FORM's CARD OF 'floodgatekeep.Framed'. -/
def framedUptoCard : Claim7 := { stood := { row := framedUptoRow, standIns := [], harness := (true, "24a846174dbf9c0f180eec57529263610cfd9723dfeb51c67063b632eded3a30"), looks := false }, kinds := [], alts := [], laidByText := true, laidKinds := [.data], laidTests := true, laidLooks := .later }
def FramedUptoCardSaid : Prop := Claim7.holds Tryz.pinned (.plain (OpenSpec.upto framedSpec)) framedUptoCard

/-- THE SECOND FORM's CARD OF 'floodgatelaw.Gates'. -/
def gatesUptoCard : Claim7 := { stood := { row := gatesUptoRow, standIns := [], harness := (true, "24a846174dbf9c0f180eec57529263610cfd9723dfeb51c67063b632eded3a30"), looks := false }, kinds := [], alts := [], laidByText := true, laidKinds := [.data, .data, .data, .data, .data], laidTests := true, laidLooks := .later }
def GatesUptoCardSaid : Prop := Claim7.holds Tryz.pinned (.plain (OpenSpec.upto gatesSpec)) gatesUptoCard

/-- THE SECOND FORM's CARD OF 'floodgatekeep.Pieces'. -/
def piecesUptoCard : Claim7 := { stood := { row := piecesUptoRow, standIns := [], harness := (true, "24a846174dbf9c0f180eec57529263610cfd9723dfeb51c67063b632eded3a30"), looks := false }, kinds := [], alts := [], laidByText := true, laidKinds := [.data], laidTests := true, laidLooks := .later }
def PiecesUptoCardSaid : Prop := Claim7.holds Tryz.pinned (.plain (OpenSpec.upto piecesSpec)) piecesUptoCard

/-- THE SECOND FORM's CARD OF 'floodgatekeep.Bounds'. -/
def boundsUptoCard : Claim7 := { stood := { row := boundsUptoRow, standIns := [], harness := (true, "24a846174dbf9c0f180eec57529263610cfd9723dfeb51c67063b632eded3a30"), looks := false }, kinds := [], alts := [], laidByText := true, laidKinds := [.data], laidTests := true, laidLooks := .later }
def BoundsUptoCardSaid : Prop := Claim7.holds Tryz.pinned (.plain (OpenSpec.upto boundsSpec)) boundsUptoCard

/-- THE SECOND FORM's CARD OF 'floodgatelaw.All'. -/
def allUptoCard : Claim7 := { stood := { row := allUptoRow, standIns := [], harness := (true, "24a846174dbf9c0f180eec57529263610cfd9723dfeb51c67063b632eded3a30"), looks := false }, kinds := [], alts := [], laidByText := true, laidKinds := [.data, .data, .data, .data, .data], laidTests := true, laidLooks := .later }
def AllUptoCardSaid : Prop := Claim7.holds Tryz.pinned (.plain (OpenSpec.upto allSpec)) allUptoCard
end Rows
end Go.Proofs.YtbcjmakpempkiaaGreatDoor
