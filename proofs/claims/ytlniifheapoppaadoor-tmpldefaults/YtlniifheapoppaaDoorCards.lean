/-
  DERIVED. GIVEN WITH THE SEED: THE CARDS: each row of YtlniifheapoppaaDoorRows.lean that lists a variable, with what it lists TIED to the program's text (the seventh form; the later family's looks); each row that meets fmt, with fmt's text TOLD by the authors' own Lean function (tested against real Go, not proved from fmt's source: count such statements apart). THE CARD IS WHAT COUNTS. Prove the row's statement (the work); the ties are given (YtlniifheapoppaaDoorTie.lean); close each card by the builder's one call (the guide's Derived/Test/ToyasCard.lean, 'card_holds'). Laid BY PROGRAM, IN A SANDBOX (cutbox-door.mjs). By AI agents, Wed Nov 11 2026. No macro, syntax, notation, axiom, sorry.
-/
import Derived.Test.YtlniifheapoppaaDoorRows
import GoSem.ClaimSeven
namespace Go.Proofs.YtlniifheapoppaaDoor
namespace Rows

/-- THE TIED CARD OF 'whelklaw9.TmplDefaults'. -/
def tmplDefaultsCard : Claim7 := { stood := { row := tmplDefaultsRow, standIns := [], harness := (true, "f4d0ed0cdbccf4d0b208fd826bd059c82d537f3e6b6a68668b90ad199111ef69"), looks := false }, kinds := [], alts := [], laidByText := true, laidKinds := [.data, .data, .data], laidTests := true, laidLooks := .later }
def TmplDefaultsCardSaid : Prop := Claim7.holds Tryd.pinned (.plain (OpenSpec.ofChange tmplDefaultsSpec)) tmplDefaultsCard

/-- THE SECOND FORM's CARD OF 'whelklaw9.TmplDefaults'. -/
def tmplDefaultsUptoCard : Claim7 := { stood := { row := tmplDefaultsUptoRow, standIns := [], harness := (true, "f4d0ed0cdbccf4d0b208fd826bd059c82d537f3e6b6a68668b90ad199111ef69"), looks := false }, kinds := [], alts := [], laidByText := true, laidKinds := [.data, .data, .data], laidTests := true, laidLooks := .later }
def TmplDefaultsUptoCardSaid : Prop := Claim7.holds Tryd.pinned (.plain (OpenSpec.upto tmplDefaultsSpec)) tmplDefaultsUptoCard
end Rows
end Go.Proofs.YtlniifheapoppaaDoor
