/- Plain facts on the texts of numbers: signs, digits, what they are worth. -/
import Derived.WalkKit
import Derived.Lib.Strings
import Derived.Lib.IndexBytes
import Derived.Lib.ItoaNum
import Derived.Test.YtgjnnahflaaagaaDoorNumMath
namespace Go.Proofs.YtgjnnahflaaagaaDoor
open Go.RowKit

/-- Does a text open with a minus sign? What lies behind its sign, if it has one? -/
def negL : List UInt8 → Bool
  | [] => false
  | c :: _ => c.toNat == 45
def bodyL : List UInt8 → List UInt8
  | [] => []
  | c :: r => if c.toNat = 45 ∨ c.toNat = 43 then r else c :: r
/-- Is a byte a decimal digit? -/
def digB (c : UInt8) : Bool := decide (48 ≤ c.toNat ∧ c.toNat ≤ 57)
/-- What digits are worth. -/
def dval (l : List UInt8) : Nat := l.foldl (fun n c => n * 10 + (c.toNat - 48)) 0
theorem dval_snoc (l : List UInt8) (c : UInt8) : dval (l ++ [c]) = dval l * 10 + (c.toNat - 48) := by unfold dval; rw [List.foldl_append]; rfl
theorem foldl_mono (l : List UInt8) : ∀ n : Nat, n ≤ l.foldl (fun n c => n * 10 + (c.toNat - 48)) n := by
  induction l with
  | nil => intro n; exact Nat.le_refl _
  | cons c r ih => intro n; exact Nat.le_trans (by omega) (ih (n * 10 + (c.toNat - 48)))
theorem dval_mono (l r : List UInt8) : dval l ≤ dval (l ++ r) := by unfold dval; rw [List.foldl_append]; exact foldl_mono r _
theorem dval_take (l : List UInt8) (k : Nat) : dval (l.take k) ≤ dval l := by
  have h := dval_mono (l.take k) (l.drop k)
  rwa [List.take_append_drop] at h
theorem take_snoc (s : ByteArray) (k : Nat) (h : k < s.size) : s.data.toList.take (k + 1) = s.data.toList.take k ++ [s[k]] := by
  rw [List.take_succ_eq_append_getElem (by simpa using h)]; rfl
theorem list_cons (s : ByteArray) (h : 0 < s.size) : ∃ r, s.data.toList = s[0] :: r ∧ s.extract 1 s.size = ⟨r.toArray⟩ := by
  obtain ⟨⟨l⟩⟩ := s
  cases l with
  | nil => exact absurd h (by decide)
  | cons c r =>
    refine ⟨r, rfl, ?_⟩
    rw [Lib.extract_eq]
    have e : (ByteArray.mk (c :: r).toArray).size - 1 = r.length := by
      show (c :: r).length - 1 = r.length
      simp
    rw [e]
    simp
theorem size_nil (s : ByteArray) (h : s.size = 0) : s = ⟨#[]⟩ := by
  obtain ⟨⟨l⟩⟩ := s
  cases l with
  | nil => rfl
  | cons c r => exact absurd h (by show ¬ (c :: r).length = 0; simp)
theorem not_empty (s : ByteArray) (h : 0 < s.size) : s.toList.isEmpty = false := by
  rw [Lib.toList_data]
  obtain ⟨⟨l⟩⟩ := s
  cases l with
  | nil => exact absurd h (by decide)
  | cons c r => rfl
end Go.Proofs.YtgjnnahflaaagaaDoor
