/- Plain facts on a text behind its sign, read a byte at a time. -/
import Derived.Test.YtgjnnahflaaagaaDoorNumParseAny
namespace Go.Proofs.YtgjnnahflaaagaaDoor
open Go.RowKit

/-- Behind F bytes, the bytes ahead of place k. -/
def part (l : List UInt8) (F k : Nat) : List UInt8 := (l.drop F).take (k - F)
theorem part_snoc (s : ByteArray) (F k : Nat) (hF : F ≤ k) (h : k < s.size) : part s.data.toList F (k + 1) = part s.data.toList F k ++ [s[k]] := by
  unfold part
  have hl : k - F < (s.data.toList.drop F).length := by
    rw [List.length_drop, ← Lib.size_eq]; omega
  rw [show k + 1 - F = k - F + 1 by omega, List.take_succ_eq_append_getElem hl]
  congr 2
  rw [List.getElem_drop]
  have e : F + (k - F) = k := by omega
  simp only [e]
  rfl
theorem part_short (l : List UInt8) (F k : Nat) (h : k ≤ F) : part l F k = [] := by unfold part; rw [show k - F = 0 by omega]; rfl
theorem part_whole (s : ByteArray) (F k : Nat) (h : s.size ≤ k) : part s.data.toList F k = s.data.toList.drop F := by
  unfold part
  rw [List.take_of_length_le (by rw [List.length_drop, ← Lib.size_eq]; omega)]
theorem part_allD (s : ByteArray) (F k : Nat) (h : allD (s.data.toList.drop F) = true) : allD (part s.data.toList F k) = true := allD_take _ h
theorem part_dig (s : ByteArray) (F k : Nat) (hF : F ≤ k) (hk : k < s.size) (h : allD (s.data.toList.drop F) = true) : digB s[k] = true := by
  have h1 := part_allD s F (k + 1) h
  rw [part_snoc s F k hF hk, allD_snoc, Bool.and_eq_true] at h1
  exact h1.2
theorem part_dval (s : ByteArray) (F k : Nat) : dval (part s.data.toList F k) ≤ dval (s.data.toList.drop F) := dval_take _ _

/-- A text that opens with a sign; one that does not. -/
theorem body_sign (s : ByteArray) (h : 0 < s.size) (hc : s[0].toNat = 45 ∨ s[0].toNat = 43) : bodyL s.data.toList = s.data.toList.drop 1 := by
  obtain ⟨r, hr, _⟩ := list_cons s h
  rw [hr]
  show (if s[0].toNat = 45 ∨ s[0].toNat = 43 then r else s[0] :: r) = r
  rw [if_pos hc]
theorem body_none (s : ByteArray) (h : 0 < s.size) (hc : ¬ (s[0].toNat = 45 ∨ s[0].toNat = 43)) : bodyL s.data.toList = s.data.toList.drop 0 := by
  obtain ⟨r, hr, _⟩ := list_cons s h
  rw [hr]
  show (if s[0].toNat = 45 ∨ s[0].toNat = 43 then r else s[0] :: r) = s[0] :: r
  rw [if_neg hc]
theorem neg_is (s : ByteArray) (h : 0 < s.size) : negL s.data.toList = (s[0].toNat == 45) := by
  obtain ⟨r, hr, _⟩ := list_cons s h
  rw [hr]; rfl
theorem drop_empty (s : ByteArray) (F : Nat) : (s.data.toList.drop F).isEmpty = !decide (F < s.size) := by
  have e : (s.data.toList.drop F).length = s.size - F := by rw [List.length_drop, ← Lib.size_eq]
  cases h : s.data.toList.drop F with
  | nil => rw [h] at e; simp at e; simp; omega
  | cons c r => rw [h] at e; simp at e; simp; omega
end Go.Proofs.YtgjnnahflaaagaaDoor
