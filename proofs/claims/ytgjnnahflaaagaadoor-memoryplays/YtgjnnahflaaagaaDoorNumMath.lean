/- Plain facts on whole numbers that an int64 holds: no program in sight. -/
import Derived.WalkKit
namespace Go.Proofs.YtgjnnahflaaagaaDoor
open Go.RowKit

def inB (n : Int) : Bool := decide (-9223372036854775808 ≤ n ∧ n ≤ 9223372036854775807)
theorem inB_iff (n : Int) : inB n = true ↔ (-9223372036854775808 ≤ n ∧ n ≤ 9223372036854775807) := by unfold inB; simp
theorem inB_not (n : Int) : inB n = false ↔ (n < -9223372036854775808 ∨ 9223372036854775807 < n) := by unfold inB; simp; omega
theorem wrap_hi (n : Int) (h : 9223372036854775807 < n) (h2 : n ≤ 18446744073709551616) : wrap64 n = n - 18446744073709551616 := by unfold wrap64; omega
theorem wrap_lo (n : Int) (h : n < -9223372036854775808) (h2 : -18446744073709551616 ≤ n) : wrap64 n = n + 18446744073709551616 := by unfold wrap64; omega
theorem wrap_bd (n : Int) : -9223372036854775808 ≤ wrap64 n ∧ wrap64 n ≤ 9223372036854775807 := by unfold wrap64; omega

/-- What an operation answers, where n is its true outcome: the number, and 0; or 0, and 11. -/
def resV (n : Int) : Int := if inB n = true then n else 0
def resE (n : Int) : Int := if inB n = true then 0 else 11
theorem resV_in {n : Int} (h : inB n = true) : resV n = n := by unfold resV; rw [if_pos h]
theorem resE_in {n : Int} (h : inB n = true) : resE n = 0 := by unfold resE; rw [if_pos h]
theorem resV_out {n : Int} (h : inB n = false) : resV n = 0 := by unfold resV; rw [if_neg (by rw [h]; decide)]
theorem resE_out {n : Int} (h : inB n = false) : resE n = 11 := by unfold resE; rw [if_neg (by rw [h]; decide)]
theorem resE_bd (n : Int) : 0 ≤ resE n ∧ resE n ≤ 11 := by unfold resE; split <;> omega
theorem resV_bd (n : Int) : inB (resV n) = true := by
  unfold resV; split
  · assumption
  · decide

/-- The quotient, cut off towards nought, and what is left. -/
theorem tdiv_parts (p b : Int) : b * p.tdiv b + p.tmod b = p := Int.mul_tdiv_add_tmod p b
theorem tmod_lt (p b : Int) (hb : b ≠ 0) : (p.tmod b).natAbs < b.natAbs := by
  rw [Int.natAbs_tmod]; exact Nat.mod_lt _ (by omega)

theorem mul_back (a b : Int) (hb : b ≠ 0) : (a * b).tdiv b = a := Int.mul_tdiv_cancel a hb

/-- A product that wrapped round does not divide back. -/
theorem mul_out_ne (a b : Int) (hb : b ≠ 0) (hb1 : -9223372036854775808 ≤ b) (hb2 : b ≤ 9223372036854775807) (h : inB (a * b) = false) : (wrap64 (a * b)).tdiv b ≠ a := by
  intro e
  have h1 := tdiv_parts (wrap64 (a * b)) b
  have h2 := tmod_lt (wrap64 (a * b)) b hb
  rw [e, Int.mul_comm] at h1
  rw [inB_not] at h
  generalize hm : (wrap64 (a * b)).tmod b = m at *
  generalize a * b = p at *
  have hp : ∃ k : Int, wrap64 p = p - 18446744073709551616 * k := ⟨(p + 9223372036854775808) / 18446744073709551616, by unfold wrap64; omega⟩
  have hw := wrap_bd p
  obtain ⟨k, hk⟩ := hp
  omega

/-- The one quotient that no int64 holds: the least number by -1. -/
theorem tdiv_bd (p b : Int) (hb : b ≠ 0) (hp1 : -9223372036854775808 ≤ p) (hp2 : p ≤ 9223372036854775807) (hx : ¬ (p = -9223372036854775808 ∧ b = -1)) : -9223372036854775808 ≤ p.tdiv b ∧ p.tdiv b ≤ 9223372036854775807 := by
  have h1 : (p.tdiv b).natAbs = p.natAbs / b.natAbs := Int.natAbs_tdiv p b
  have h2 : p.natAbs / b.natAbs ≤ p.natAbs := Nat.div_le_self _ _
  by_cases e1 : b.natAbs = 1
  · have hb' : b = 1 ∨ b = -1 := by omega
    rcases hb' with rfl | rfl
    · rw [Int.tdiv_one]; omega
    · have : p.tdiv (-1) = -p := by rw [Int.tdiv_neg, Int.tdiv_one]
      omega
  · have h3 : p.natAbs / b.natAbs ≤ p.natAbs / 2 := Nat.div_le_div_left (by omega) (by omega)
    omega

/-- The sign and size of a product. -/
theorem mul_natAbs (a b : Int) : (a * b).natAbs = a.natAbs * b.natAbs := Int.natAbs_mul a b
theorem mul_sign (a b : Int) : a * b = if (a < 0) ≠ (b < 0) then -((a.natAbs * b.natAbs : Nat) : Int) else ((a.natAbs * b.natAbs : Nat) : Int) := by
  have hn := mul_natAbs a b
  by_cases ha : a < 0 <;> by_cases hb : b < 0
  · have : 0 < a * b := Int.mul_pos_of_neg_of_neg ha hb
    simp [ha, hb]; omega
  · have : a * b ≤ 0 := Int.mul_nonpos_of_nonpos_of_nonneg (by omega) (by omega)
    simp [ha, hb]; omega
  · have : a * b ≤ 0 := Int.mul_nonpos_of_nonneg_of_nonpos (by omega) (by omega)
    simp [ha, hb]; omega
  · have : 0 ≤ a * b := Int.mul_nonneg (by omega) (by omega)
    simp [ha, hb]; omega

/-- A number is above a quotient just if the product is above the dividend. -/
theorem gt_div (x y top : Nat) (hx : x ≠ 0) : top / x < y ↔ top < x * y := by
  rw [Nat.div_lt_iff_lt_mul (by omega), Nat.mul_comm]
end Go.Proofs.YtgjnnahflaaagaaDoor
