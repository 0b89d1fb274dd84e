/-
  DERIVED. GIVEN WITH THE SEED: THE CARDS: each row of YtlnkeebfaninfaaGreatDoorRows.lean that lists a variable, with what it lists TIED to the program's text (the seventh form; the later family's looks); each row that meets fmt, with fmt's text TOLD by the authors' own Lean function (tested against real Go, not proved from fmt's source: count such statements apart). THE CARD IS WHAT COUNTS. Prove the row's statement (the work); the ties are given (YtlnkeebfaninfaaGreatDoorTie.lean); close each card by the builder's one call (the guide's Derived/Test/ToyasCard.lean, 'card_holds'). Laid BY PROGRAM, IN A SANDBOX (cutbox-door.mjs). By AI agents, Wed Nov 11 2026. No macro, syntax, notation, axiom, sorry.
-/
import Derived.Test.YtlnkeebfaninfaaGreatDoorRows
import GoSem.ClaimSeven
namespace Go.Proofs.YtlnkeebfaninfaaGreatDoor
namespace Rows

/-- THE TIED CARD OF 'whelklaw4.LexBytes'. -/
def lexBytesCard : Claim7 := { stood := { row := lexBytesRow, standIns := [], harness := (true, "d66a54c297dcfbeb2b1246e7b3cf346f0cbcd69f08b90dff3b43f556398963d8"), looks := true }, kinds := [], alts := [], laidByText := true, laidKinds := [.data, .data, .data, .handle], laidTests := true, laidLooks := .later }
def LexBytesCardSaid : Prop := Claim7.holds Tryz.pinned (.plain (OpenSpec.ofChange lexBytesSpec)) lexBytesCard

/-- THE TIED CARD OF 'whelklaw4.LexBack'. -/
def lexBackCard : Claim7 := { stood := { row := lexBackRow, standIns := [], harness := (true, "d66a54c297dcfbeb2b1246e7b3cf346f0cbcd69f08b90dff3b43f556398963d8"), looks := true }, kinds := [], alts := [], laidByText := true, laidKinds := [.data, .data, .data, .handle], laidTests := true, laidLooks := .later }
def LexBackCardSaid : Prop := Claim7.holds Tryz.pinned (.plain (OpenSpec.ofChange lexBackSpec)) lexBackCard

/-- THE TIED CARD OF 'whelklaw4.LexLengths'. -/
def lexLengthsCard : Claim7 := { stood := { row := lexLengthsRow, standIns := [], harness := (true, "d66a54c297dcfbeb2b1246e7b3cf346f0cbcd69f08b90dff3b43f556398963d8"), looks := true }, kinds := [], alts := [], laidByText := true, laidKinds := [.data, .data, .data, .handle], laidTests := true, laidLooks := .later }
def LexLengthsCardSaid : Prop := Claim7.holds Tryz.pinned (.plain (OpenSpec.ofChange lexLengthsSpec)) lexLengthsCard

/-- THE SECOND FORM's CARD OF 'whelklaw4.LexBytes'. -/
def lexBytesUptoCard : Claim7 := { stood := { row := lexBytesUptoRow, standIns := [], harness := (true, "d66a54c297dcfbeb2b1246e7b3cf346f0cbcd69f08b90dff3b43f556398963d8"), looks := true }, kinds := [], alts := [], laidByText := true, laidKinds := [.data, .data, .data, .handle], laidTests := true, laidLooks := .later }
def LexBytesUptoCardSaid : Prop := Claim7.holds Tryz.pinned (.plain (OpenSpec.upto lexBytesSpec)) lexBytesUptoCard

/-- THE SECOND FORM's CARD OF 'whelklaw4.LexBack'. -/
def lexBackUptoCard : Claim7 := { stood := { row := lexBackUptoRow, standIns := [], harness := (true, "d66a54c297dcfbeb2b1246e7b3cf346f0cbcd69f08b90dff3b43f556398963d8"), looks := true }, kinds := [], alts := [], laidByText := true, laidKinds := [.data, .data, .data, .handle], laidTests := true, laidLooks := .later }
def LexBackUptoCardSaid : Prop := Claim7.holds Tryz.pinned (.plain (OpenSpec.upto lexBackSpec)) lexBackUptoCard

/-- THE SECOND FORM's CARD OF 'whelklaw4.LexLengths'. -/
def lexLengthsUptoCard : Claim7 := { stood := { row := lexLengthsUptoRow, standIns := [], harness := (true, "d66a54c297dcfbeb2b1246e7b3cf346f0cbcd69f08b90dff3b43f556398963d8"), looks := true }, kinds := [], alts := [], laidByText := true, laidKinds := [.data, .data, .data, .handle], laidTests := true, laidLooks := .later }
def LexLengthsUptoCardSaid : Prop := Claim7.holds Tryz.pinned (.plain (OpenSpec.upto lexLengthsSpec)) lexLengthsUptoCard
end Rows
end Go.Proofs.YtlnkeebfaninfaaGreatDoor
