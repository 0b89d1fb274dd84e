/- The contract of package num's Parse: what it answers at any text of at most 100,000 bytes. -/
import Derived.Test.YtgjnnahflaaagaaDoorNumParse
namespace Go.Proofs.YtgjnnahflaaagaaDoor
open Go.RowKit

/-- Is a text a number's? What is it worth? -/
def shapeL (l : List UInt8) : Bool := allD (bodyL l) && !(bodyL l).isEmpty
def valL (l : List UInt8) : Int := if negL l = true then -(dval (bodyL l) : Int) else (dval (bodyL l) : Int)
def parV (l : List UInt8) : Int := if shapeL l = true then resV (valL l) else 0
def parE (l : List UInt8) : Int := if shapeL l = true then resE (valL l) else 2
theorem parE_bd (l : List UInt8) : 0 ≤ parE l ∧ parE l ≤ 11 := by
  have := resE_bd (valL l)
  unfold parE; split <;> omega

theorem ret_ii {a b c : Int} (h : a = b) : Ending.returned (.tuple #[.int .i64 a, .int .i64 c]) = .returned (.tuple #[.int .i64 b, .int .i64 c]) := by rw [h]
theorem neg_wrap (D : Nat) (h : D ≤ 9223372036854775808) : wrap64 (IntKind.u64.wrap (-(D : Int))) = -(D : Int) := by
  rw [IntKind.wrap_u64]; unfold wrap64; omega

theorem body_len (l : List UInt8) : (bodyL l).length ≤ l.length := by
  cases l with
  | nil => exact Nat.le_refl _
  | cons c r => show (if c.toNat = 45 ∨ c.toNat = 43 then r else c :: r).length ≤ (c :: r).length; split <;> simp
theorem isEmpty_mk (l : List UInt8) : (⟨l.toArray⟩ : ByteArray).toList.isEmpty = l.isEmpty := by rw [Lib.toList_data]
theorem size_mk (l : List UInt8) : (⟨l.toArray⟩ : ByteArray).size = l.length := rfl

end Go.Proofs.YtgjnnahflaaagaaDoor
