/- The names that the law SymbolFull makes: all are names, no two alike. -/
import Derived.Test.YthkkgjoegcbaaaaKnown
namespace Go.Proofs.Ythkkgjoegcbaaaa
open Go.RowKit Go.Maps

def nameOf (i : Nat) : ByteArray := ⟨#[110, UInt8.ofNat (97 + i / 676 % 26), UInt8.ofNat (97 + i / 26 % 26), UInt8.ofNat (97 + i % 26)]⟩
theorem u8_toNat (n : Nat) (h : n < 26) : (UInt8.ofNat (97 + n)).toNat = 97 + n := by
  rw [UInt8.toNat_ofNat']
  exact Nat.mod_eq_of_lt (by omega)
theorem ltr_of (n : Nat) (h : n < 26) : ltrI ((UInt8.ofNat (97 + n)).toNat : Int) = true := by
  rw [u8_toNat n h]
  simp [ltrI]
  omega
theorem good4 (x y z : UInt8) (hx : letB x = true) (hy : letB y = true) (hz : letB z = true) : goodB ⟨#[110, x, y, z]⟩ = true := by
  have d : letB 110 = true := by decide
  simp [goodB, goodL, okL, d, partB_of_let hx, partB_of_let hy, partB_of_let hz]
theorem good_name (i : Nat) : goodB (nameOf i) = true :=
  good4 _ _ _ (ltr_of (i / 676 % 26) (Nat.mod_lt _ (by decide))) (ltr_of (i / 26 % 26) (Nat.mod_lt _ (by decide))) (ltr_of (i % 26) (Nat.mod_lt _ (by decide)))
theorem name_inj {i j : Nat} (hi : i < 17576) (hj : j < 17576) (h : nameOf i = nameOf j) : i = j := by
  unfold nameOf at h
  injection h with h
  have h' := congrArg Array.toList h
  simp only [List.cons.injEq] at h'
  obtain ⟨_, h1, h2, h3, _⟩ := h'
  have e1 := congrArg UInt8.toNat h1
  have e2 := congrArg UInt8.toNat h2
  have e3 := congrArg UInt8.toNat h3
  rw [u8_toNat _ (Nat.mod_lt _ (by decide)), u8_toNat _ (Nat.mod_lt _ (by decide))] at e1 e2 e3
  omega
def names (k : Nat) : List ByteArray := (List.range k).map nameOf
theorem names_length (k : Nat) : (names k).length = k := by simp [names]
theorem names_succ (k : Nat) : names (k + 1) = names k ++ [nameOf k] := by simp [names, List.range_succ]
theorem pos_absent (L : List ByteArray) (s : ByteArray) (h : ∀ (j : Nat), L[j]? ≠ some s) : pos L s = 0 := by
  apply Classical.byContradiction
  intro e
  exact h _ (pos_some L s e)
theorem pos_names (k i : Nat) (hk : k ≤ i) (hi : i < 17576) : pos (names k) (nameOf i) = 0 := by
  apply pos_absent
  intro j e
  simp only [names, List.getElem?_map] at e
  by_cases hj : j < k
  · rw [List.getElem?_range hj] at e
    simp only [Option.map_some, Option.some.injEq] at e
    have := name_inj (by omega) hi e
    omega
  · rw [List.getElem?_eq_none (by simp; omega)] at e
    cases e
theorem pos_first (k : Nat) (hk : 0 < k) : pos (names k) (nameOf 0) = 1 := by
  obtain ⟨n, rfl⟩ : ∃ n, k = n + 1 := ⟨k - 1, by omega⟩
  have e : names (n + 1) = nameOf 0 :: (List.range n).map (fun i => nameOf (i + 1)) := by
    simp [names, List.range_succ_eq_map]
  rw [e]
  simp [pos]

end Go.Proofs.Ythkkgjoegcbaaaa
