/- strings.Builder at this program, whose copyCheck has a way that the loader refuses (a builder copied behind a write): the ways that a builder of the call's own takes. -/
import Derived.Test.YtgjnnahflaaagaaDoorShelf
import Derived.WalkKit
import Derived.Lib.Builder
namespace Go.Proofs.YtgjnnahflaaagaaDoor
open Go.RowKit

theorem inU : (Tryd.prog.info? 5).map (fun i => (i.zero, i.size, i.bytes)) = some (some (.int .u8 0), 1, 1) := by kernel_rfl
theorem inU' : ∃ i, Tryd.prog.info? 5 = some i ∧ i.zero = some (.int .u8 0) ∧ i.size = 1 ∧ i.bytes = 1 := by
  obtain ⟨i, h, e⟩ := Option.map_eq_some_iff.1 inU
  simp only [Prod.mk.injEq] at e
  exact ⟨i, h, e.1, e.2.1, e.2.2⟩

theorem cells_snoc (l : List UInt8) (c : UInt8) : Lib.byteCells (l ++ [c]) = Lib.byteCells l ++ [.int .u8 (c.toNat : Int)] := by unfold Lib.byteCells; rw [List.map_append]; rfl
theorem cells_len (l : List UInt8) : (Lib.byteCells l).length = l.length := by unfold Lib.byteCells; rw [List.length_map]

end Go.Proofs.YtgjnnahflaaagaaDoor
