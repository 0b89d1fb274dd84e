/- Contracts of package num's Parse and of what it calls: any text of at most 100,000 bytes. -/
import Derived.Test.YtgjnnahflaaagaaDoorProg
import Derived.Test.YtgjnnahflaaagaaDoorNumText
import Derived.Deep.QuietTactic
import Derived.BigQuiet
namespace Go.Proofs.YtgjnnahflaaagaaDoor
open Go.RowKit

theorem ret_bs {b : Bool} {s t : ByteArray} (h : s = t) : Ending.returned (.tuple #[.bool b, .string s]) = .returned (.tuple #[.bool b, .string t]) := by rw [h]

/-- Are these digits alone? -/
def allD (l : List UInt8) : Bool := l.all digB
theorem allD_snoc (l : List UInt8) (c : UInt8) : allD (l ++ [c]) = (allD l && digB c) := by unfold allD; rw [List.all_append]; simp
theorem allD_take {l : List UInt8} (k : Nat) (h : allD l = true) : allD (l.take k) = true := by
  unfold allD at *
  rw [List.all_eq_true] at *
  exact fun x hx => h x (List.mem_of_mem_take hx)
theorem allD_no {l : List UInt8} {k : Nat} (h : allD (l.take k) = false) : allD l = false := by
  cases e : allD l
  · rfl
  · rw [allD_take k e] at h; exact absurd h (by decide)

theorem digB_yes {c : UInt8} (h1 : 48 ≤ (c.toNat : Int)) (h2 : (c.toNat : Int) ≤ 57) : digB c = true := by unfold digB; simp; omega
theorem digB_lo {c : UInt8} (h1 : (c.toNat : Int) < 48) : digB c = false := by unfold digB; simp; omega
theorem digB_hi {c : UInt8} (h1 : 57 < (c.toNat : Int)) : digB c = false := by unfold digB; simp; omega
theorem digB_bd {c : UInt8} (h : digB c = true) : 48 ≤ c.toNat ∧ c.toNat ≤ 57 := by unfold digB at h; simpa using h
theorem ret_bool {a b : Bool} (h : a = b) : Ending.returned (.bool a) = .returned (.bool b) := by rw [h]

theorem ret_ui {a b c d : Int} (h : a = b) (h2 : c = d) : Ending.returned (.tuple #[.int .u64 a, .int .i64 c]) = .returned (.tuple #[.int .u64 b, .int .i64 d]) := by rw [h, h2]

/-- What sizeOf answers: what the digits are worth, unless it is above m. -/
def sizV (l : List UInt8) (m : Nat) : Int := if dval l ≤ m then (dval l : Int) else 0
def sizE (l : List UInt8) (m : Nat) : Int := if dval l ≤ m then 0 else 11

end Go.Proofs.YtgjnnahflaaagaaDoor
