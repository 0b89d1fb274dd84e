/- The reference's Name, Slot, slot. -/
import Derived.Deep.QuietTactic
import Derived.BigQuiet
import Derived.Test.YtlniifheapoppaaDoorG23
namespace Go.Proofs.YtlniifheapoppaaDoor
open Go.RowKit

def rplaceI (l : List Sl) (n : ByteArray) : Int := match placeS l n with
  | some p => (p : Int)
  | none => -1

def RslR (Q : Sl × Bool) (e : Ending) : Prop := ∃ s, e = .returned (.tuple #[slV s, .bool Q.2]) ∧ (Q.2 = true → s = Q.1)

end Go.Proofs.YtlniifheapoppaaDoor
