/- The reference's reader: a Not. -/
import Derived.Test.YtlniifheapoppaaDoorG11
namespace Go.Proofs.YtlniifheapoppaaDoor
open Go.RowKit

end Go.Proofs.YtlniifheapoppaaDoor
/- The reference's reader: a list. -/
namespace Go.Proofs.YtlniifheapoppaaDoor
open Go.RowKit

/-- Where the reader is. -/
def atN (w : World) (R : Nat) : Nat := match w.cell? ⟨R, 1, none⟩ with
  | some (.int _ i) => i.toNat
  | _ => 0
end Go.Proofs.YtlniifheapoppaaDoor
/- The reference's reader, whole, and its Read. -/
namespace Go.Proofs.YtlniifheapoppaaDoor
open Go.RowKit

/-- What the reference's Read tells: the nodes, or an error of one part. -/
structure RReadR (w w' : World) (e : Ending) (r : OutN) : Prop where
  bel : Below w.heap.size w w'
  res : (r.e = 0 ∧ ∃ ao cap, e = .returned (.tuple #[.slice ao r.l.length cap, .agg #[.slice none 0 0, .int .i64 0]]) ∧ r.l.length ≤ cap ∧ IsNds w' (geB w.heap.size) ao r.l) ∨
    (r.e ≠ 0 ∧ ∃ b, w.heap.size ≤ b ∧ e = .returned (.tuple #[.slice none 0 0, .agg #[.slice (some ⟨b, 0, none⟩) 1 1, .int .i64 r.e]]) ∧ PtAt w' b r.a)
end Go.Proofs.YtlniifheapoppaaDoor
