/- The contracts of New, Find, Name and Len over a table as it lies in memory. -/
import Derived.Test.YthkkgjoegcbaaaaTab
namespace Go.Proofs.Ythkkgjoegcbaaaa
open Go.RowKit Go.Maps

set_option maxHeartbeats 1000000 in
theorem new_any (w : World) :
    Calls Try.prog 7 #[] w fun e w' => e = .returned (.pointer (some ⟨w.heap.size, 0, none⟩)) ∧ Tab w' w.heap.size (.slice none 0 0) (.map none) [] ∧ Below w.heap.size w w' := by
  go_enter Try.func7, Try.ntmps7
  go_wp2
  go_ret
  refine ⟨rfl, ⟨by simp, by simp, by simp, by simp, World.ownsRow_nil _ _ _ _, .inl ⟨rfl, rfl⟩, once_nil, Nat.zero_le _⟩, (Below.refl _ _).alloc (Nat.le_refl _) _⟩

set_option maxHeartbeats 1000000 in
theorem len_any (w : World) (b : Nat) (v m : Value) (L : List ByteArray) (T : Tab w b v m L) :
    Calls Try.prog 13 #[.pointer (some ⟨b, 0, none⟩)] w fun e w' => e = .returned (.int .i64 L.length) ∧ w' = w := by
  have c0 := T.c0
  rcases T.row.2 with ⟨rfl, h0⟩ | ⟨g, cap, cur, rfl, _⟩
  · go_enter Try.func13, Try.ntmps13
    go_wp2
    go_ret
    exact ⟨by rw [h0]; rfl, rfl⟩
  · go_enter Try.func13, Try.ntmps13
    go_wp2
    go_ret
    exact ⟨rfl, rfl⟩

set_option maxHeartbeats 1000000 in
theorem find_any (w : World) (b : Nat) (v m : Value) (L : List ByteArray) (T : Tab w b v m L) (s : ByteArray) (hs : s.size ≤ maxLen) :
    Calls Try.prog 11 #[.pointer (some ⟨b, 0, none⟩), .string s] w fun e w' => e = .returned (.tuple #[.int .i64 (pos L s), .bool (decide (pos L s ≠ 0))]) ∧ w' = w := by
  have c1 := T.c1
  have hkey : keyOf Try.prog 9 (.string s) = some (keyS s) := Go.WideMaps.keyOf_string_mk Try.underlying9 hs
  rcases T.map with ⟨rfl, rfl⟩ | ⟨bm, rfl, hb, D, hown, hD⟩
  · have hrun := look_nil (w := w) true law9 Try.underlying38 (zero3 _) hkey
    go_enter Try.func11, Try.ntmps11
    go_wp2
    go_ret2
    exact ⟨rfl, rfl⟩
  · obtain ⟨hh, ha⟩ := hD s
    have HH : Hid _ := hh
    have HA : Hid _ := ha
    clear hh ha hD
    go_enter Try.func11, Try.ntmps11
    go_wp2_with (first
      | (at_lookup; refine wpList_lookup_own_ok_int _ rfl _ _ 38 rfl 9 3 .i64 law9 Try.underlying38 Try.underlying3 (zero3 _) bm L.length D rfl hown _ _ rfl hkey ?_; intro c hat hwc; have HT : Hid _ := hat; clear hat)
      | go_in)
    go_ret2
    refine ⟨?_, rfl⟩
    have e := HA.out.symm.trans HT.out
    injection e with e
    injection e with _ e
    rw [← e, ← HH.out]
    rfl

theorem len_nat {L : List ByteArray} {n : Nat} {cur : Array Value} (h : cur.toList.take (L.length * 1) = L.map Value.string) (hn : n < L.length) : cur[n]? = some (.string L[n]) := by
  have e : (cur.toList.take (L.length * 1))[n]? = (L.map Value.string)[n]? := by rw [h]
  rw [List.getElem?_take] at e
  rw [if_pos (by omega)] at e
  simp only [List.getElem?_map, List.getElem?_eq_getElem hn, Option.map_some] at e
  rw [← Array.getElem?_toList]
  exact e

set_option maxHeartbeats 1000000 in
theorem name_no (w : World) (b : Nat) (v m : Value) (L : List ByteArray) (T : Tab w b v m L) (n : Int) (hn : n < 1 ∨ (L.length : Int) < n) :
    Calls Try.prog 12 #[.pointer (some ⟨b, 0, none⟩), .int .i64 n] w fun e w' => e = .returned (.tuple #[.string ⟨#[]⟩, .bool false]) ∧ w' = w := by
  have c0 := T.c0
  have hle := T.le
  by_cases h1 : n < 1
  · have d1 : decide (n < 1) = true := decide_eq_true h1
    go_enter Try.func12, Try.ntmps12
    go_wp2
    go_ret2
    exact ⟨rfl, rfl⟩
  · have d1 : decide (n < 1) = false := decide_eq_false h1
    have h2 : (L.length : Int) < n := by omega
    rcases T.row.2 with ⟨rfl, h0⟩ | ⟨g, cap, cur, rfl, _⟩
    · have d2 : decide ((0 : Int) < n) = true := by simp; omega
      go_enter Try.func12, Try.ntmps12
      go_wp2
      go_ret2
      exact ⟨rfl, rfl⟩
    · have d2 : decide ((L.length : Int) < n) = true := decide_eq_true h2
      go_enter Try.func12, Try.ntmps12
      go_wp2
      go_ret2
      exact ⟨rfl, rfl⟩

set_option maxHeartbeats 1000000 in
theorem name_yes (w : World) (b : Nat) (v m : Value) (L : List ByteArray) (T : Tab w b v m L) (n : Int) (h1 : 1 ≤ n) (h2 : n ≤ (L.length : Int)) (t : ByteArray) (ht : L[(n - 1).toNat]? = some t) :
    Calls Try.prog 12 #[.pointer (some ⟨b, 0, none⟩), .int .i64 n] w fun e w' => e = .returned (.tuple #[.string t, .bool true]) ∧ w' = w := by
  have c0 := T.c0
  have hle := T.le
  have d1 : decide (n < 1) = false := decide_eq_false (by omega)
  have d2 : decide ((L.length : Int) < n) = false := decide_eq_false (by omega)
  rcases T.row.2 with ⟨rfl, h0⟩ | ⟨g, cap, cur, rfl, hb, hg, hn, hc, hcs, htake⟩
  · omega
  · have hlt : (n - 1).toNat < L.length := by omega
    have e1 := len_nat htake hlt
    have e2 : L[(n - 1).toNat] = t := by rw [List.getElem?_eq_getElem hlt] at ht; exact Option.some.inj ht
    rw [e2] at e1
    have hcell : w.cell? ⟨g, (n - 1).toNat, none⟩ = some (.string t) := by rw [cell_of_row w g _ cur 9 (0, 0) hg]; exact e1
    clear e1 e2 ht hg htake
    obtain ⟨k, hk⟩ : ∃ k : Nat, (n - 1).toNat = k := ⟨_, rfl⟩
    have hn1 : n = (k : Int) + 1 := by omega
    rw [hk] at hcell hlt
    subst hn1
    clear hk
    have i1 : (k : Int) < (L.length : Int) := by omega
    go_enter Try.func12, Try.ntmps12
    go_wp2
    go_ret2
    exact ⟨rfl, rfl⟩

end Go.Proofs.Ythkkgjoegcbaaaa
