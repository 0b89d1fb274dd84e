/- The contracts of package val's Compare and True: regions that draw their order. -/
import Derived.Test.YtinbnhjpgjagoaaDoorValCmp
import Derived.Deep.RegionHeld3
namespace Go.Proofs.YtinbnhjpgjagoaaDoor
open Go.RowKit

theorem new_cell {w : World} {b : Nat} (cs : Array Value) (T j : Nat) (v : Value) (hb : b = w.heap.size) (h : cs[j]? = some v) : (w.alloc (.cells cs T)).cell? ⟨b, j, none⟩ = some v := by
  subst hb
  simp [h]
theorem or3_cmp (k i : Int) (s : ByteArray) (k' i' : Int) (s' : ByteArray) : or3 (Lib.compareInt k k') (Lib.compareInt i i') (Lib.compareBytes s.data.toList s'.data.toList) = cmpV k i s k' i' s' := rfl

set_option maxHeartbeats 4000000 in
theorem compare_any (k i : Int) (s : ByteArray) (k' i' : Int) (s' : ByteArray) (w : World) :
    Calls Tryd.prog 16 #[.agg #[.int .i64 (k), .int .i64 (i), .string (s)], .agg #[.int .i64 (k'), .int .i64 (i'), .string (s')]] w fun e w' => e = .returned (.int .i64 (cmpV k i s k' i' s')) ∧ Below w.heap.size w w' := by
  go_enter Tryd.func16, Tryd.ntmps16
  go_wp2
  have hc0 : ∀ (j : Nat) (v : Value), (#[.int .i64 (Lib.compareInt k k'), .int .i64 (Lib.compareInt i i'), .int .i64 (Lib.compareBytes s.data.toList s'.data.toList)] : Array Value)[j]? = some v →
      (((w.alloc (.cells #[.int .i64 k, .int .i64 i, .string s] 23)).alloc (.cells #[.int .i64 k', .int .i64 i', .string s'] 23)).alloc (.cells #[.int .i64 (Lib.compareInt k k'), .int .i64 (Lib.compareInt i i'), .int .i64 (Lib.compareBytes s.data.toList s'.data.toList)] 3)).drew.cell? ⟨w.heap.size + 1 + 1, j, none⟩ = some v :=
    fun j v h => new_cell _ _ j v (by simp) h
  go_region_held3 (fun w' => w'.cell? ⟨w.heap.size, 0, none⟩ = some (.int .i64 k) ∧ w'.cell? ⟨w.heap.size, 1, none⟩ = some (.int .i64 i) ∧ w'.cell? ⟨w.heap.size, 2, none⟩ = some (.string s) ∧ w'.cell? ⟨w.heap.size + 1, 0, none⟩ = some (.int .i64 k') ∧ w'.cell? ⟨w.heap.size + 1, 1, none⟩ = some (.int .i64 i') ∧ w'.cell? ⟨w.heap.size + 1, 2, none⟩ = some (.string s')) (go_keep)
    (first
      | (go_at_call 37; refine (Tryd.cmp_Compare_int _ _ _).mono ?_; rintro e w' ⟨rfl, rfl⟩)
      | (go_at_call 38; refine (cmp64 _ _ _).mono ?_; rintro e w' ⟨rfl, rfl⟩)
      | (go_at_call 39; refine (Tryd.strings_Compare _ _ _).mono ?_; rintro e w' ⟨rfl, rfl⟩)
      | (go_at_call 36; refine (or_three (w.heap.size + 1 + 1) 3 (Lib.compareInt k k') (Lib.compareInt i i') (Lib.compareBytes s.data.toList s'.data.toList) _ (hc0 0 _ rfl) (hc0 1 _ rfl) (hc0 2 _ rfl)).mono ?_; rintro e w' ⟨rfl, rfl⟩))
  go_wp2
  go_ret
  exact ⟨ret_i (or3_cmp k i s k' i' s'), ((((Below.refl _ _).alloc (Nat.le_refl _) _).alloc (by simp) _).alloc (by simp; omega) _).drew⟩

set_option maxHeartbeats 4000000 in
theorem true_any (k i : Int) (s : ByteArray) (w : World) :
    Calls Tryd.prog 26 #[.agg #[.int .i64 (k), .int .i64 (i), .string (s)]] w fun e w' => e = .returned (.bool (trueB k i s)) ∧ Below w.heap.size w w' := by
  go_enter Tryd.func26, Tryd.ntmps26
  go_wp2
  have s0 : Below w.heap.size w (w.alloc (.cells #[.int .i64 k, .int .i64 i, .string s] 23)).drew := ((Below.refl _ _).alloc (Nat.le_refl _) _).drew
  go_region_held3 (fun w' => w'.cell? ⟨w.heap.size, 0, none⟩ = some (.int .i64 k) ∧ w'.cell? ⟨w.heap.size, 1, none⟩ = some (.int .i64 i) ∧ w'.cell? ⟨w.heap.size, 2, none⟩ = some (.string s) ∧ Below w.heap.size w w' ∧ w.heap.size ≤ w'.heap.size)
    (((try dsimp only); go_split_ands; refine ⟨?_, ?_, ?_, ?_, ?_⟩ <;> first | assumption | (go_keep; done) | exact keep_cell (by assumption) (by assumption) | exact below_next (by assumption) (by assumption) (by assumption) | exact Nat.le_trans (by assumption) (Below.size (by assumption))))
    (first
      | (go_at_call 20; refine (of_bool _ _).mono ?_; rintro e w' ⟨rfl, hb⟩)
      | (go_at_call 28; refine (same_any _ _ _ _ _ _ _).mono ?_; rintro e w' ⟨rfl, hb⟩))
  go_wp2
  go_ret
  refine ⟨rfl, ?_⟩
  go_split_ands
  assumption
end Go.Proofs.YtinbnhjpgjagoaaDoor
