/-
  DERIVED. GIVEN WITH THE SEED: THE CARDS: each row of YthpmnomplhhfgabGreatDoorRows.lean that lists a variable, with what it lists TIED to the program's text (the seventh form; the later family's looks); each row that meets fmt, with fmt's text TOLD by the authors' own Lean function (tested against real Go, not proved from fmt's source: count such statements apart). THE CARD IS WHAT COUNTS. Prove the row's statement (the work); the ties are given (YthpmnomplhhfgabGreatDoorTie.lean); close each card by the builder's one call (the guide's Derived/Test/ToyasCard.lean, 'card_holds'). Laid BY PROGRAM, IN A SANDBOX (cutbox-door.mjs). By AI agents, Wed Nov 11 2026. No macro, syntax, notation, axiom, sorry.
-/
import Derived.Test.YthpmnomplhhfgabGreatDoorRows
import GoSem.ClaimSeven
namespace Go.Proofs.YthpmnomplhhfgabGreatDoor
namespace Rows

/-- THE TIED CARD OF 'whelklaw5.ReadCounts'. -/
def readCountsCard : Claim7 := { stood := { row := readCountsRow, standIns := [], harness := (true, "5d7900e9dcece30a7c38269b06571601f0116db71a054369ea73f3294413a5dd"), looks := true }, kinds := [], alts := [], laidByText := true, laidKinds := [.data, .data, .data, .handle], laidTests := true, laidLooks := .later }
def ReadCountsCardSaid : Prop := Claim7.holds Tryz.pinned (.plain (OpenSpec.ofChange readCountsSpec)) readCountsCard

/-- THE SECOND FORM's CARD OF 'whelklaw5.ReadCounts'. -/
def readCountsUptoCard : Claim7 := { stood := { row := readCountsUptoRow, standIns := [], harness := (true, "5d7900e9dcece30a7c38269b06571601f0116db71a054369ea73f3294413a5dd"), looks := true }, kinds := [], alts := [], laidByText := true, laidKinds := [.data, .data, .data, .handle], laidTests := true, laidLooks := .later }
def ReadCountsUptoCardSaid : Prop := Claim7.holds Tryz.pinned (.plain (OpenSpec.upto readCountsSpec)) readCountsUptoCard
end Rows
end Go.Proofs.YthpmnomplhhfgabGreatDoor
