/-
  DERIVED. GIVEN WITH THE SEED: THE CARDS: each row of YtobjcnjgmllbdaaGreatDoorRows.lean that lists a variable, with what it lists TIED to the program's text (the seventh form; the later family's looks); each row that meets fmt, with fmt's text TOLD by the authors' own Lean function (tested against real Go, not proved from fmt's source: count such statements apart). THE CARD IS WHAT COUNTS. Prove the row's statement (the work); the ties are given (YtobjcnjgmllbdaaGreatDoorTie.lean); close each card by the builder's one call (the guide's Derived/Test/ToyasCard.lean, 'card_holds'). Laid BY PROGRAM, IN A SANDBOX (cutbox-door.mjs). By AI agents, Wed Nov 11 2026. No macro, syntax, notation, axiom, sorry.
-/
import Derived.Test.YtobjcnjgmllbdaaGreatDoorRows
import GoSem.ClaimSeven
namespace Go.Proofs.YtobjcnjgmllbdaaGreatDoor
namespace Rows

/-- THE TIED CARD OF 'floodgatelaw.Codes'. -/
def codesCard : Claim7 := { stood := { row := codesRow, standIns := [], harness := (true, "150871af3af854e6331d327153ac0b3e89544a6b8e70de5d628facc05e23a5a6"), looks := false }, kinds := [], alts := [], laidByText := true, laidKinds := [.data, .data, .data, .data, .data], laidTests := true, laidLooks := .later }
def CodesCardSaid : Prop := Claim7.holds Tryz.pinned (.plain (OpenSpec.ofChange codesSpec)) codesCard

/-- THE TIED CARD OF 'floodgatelaw.Blocks'. -/
def blocksCard : Claim7 := { stood := { row := blocksRow, standIns := [], harness := (true, "150871af3af854e6331d327153ac0b3e89544a6b8e70de5d628facc05e23a5a6"), looks := false }, kinds := [], alts := [], laidByText := true, laidKinds := [.data, .data, .data, .data, .data], laidTests := true, laidLooks := .later }
def BlocksCardSaid : Prop := Claim7.holds Tryz.pinned (.plain (OpenSpec.ofChange blocksSpec)) blocksCard

/-- THE SECOND FORM's CARD OF 'floodgatelaw.Codes'. -/
def codesUptoCard : Claim7 := { stood := { row := codesUptoRow, standIns := [], harness := (true, "150871af3af854e6331d327153ac0b3e89544a6b8e70de5d628facc05e23a5a6"), looks := false }, kinds := [], alts := [], laidByText := true, laidKinds := [.data, .data, .data, .data, .data], laidTests := true, laidLooks := .later }
def CodesUptoCardSaid : Prop := Claim7.holds Tryz.pinned (.plain (OpenSpec.upto codesSpec)) codesUptoCard

/-- THE SECOND FORM's CARD OF 'floodgatelaw.Blocks'. -/
def blocksUptoCard : Claim7 := { stood := { row := blocksUptoRow, standIns := [], harness := (true, "150871af3af854e6331d327153ac0b3e89544a6b8e70de5d628facc05e23a5a6"), looks := false }, kinds := [], alts := [], laidByText := true, laidKinds := [.data, .data, .data, .data, .data], laidTests := true, laidLooks := .later }
def BlocksUptoCardSaid : Prop := Claim7.holds Tryz.pinned (.plain (OpenSpec.upto blocksSpec)) blocksUptoCard
end Rows
end Go.Proofs.YtobjcnjgmllbdaaGreatDoor
