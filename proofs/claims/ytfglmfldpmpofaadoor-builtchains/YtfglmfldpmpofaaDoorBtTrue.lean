/- Contracts of True: package val's, the reference's. -/
import Derived.Test.YtfglmfldpmpofaaDoorKeep
import Derived.Test.YtfglmfldpmpofaaDoorValOf
import Derived.Deep.RegionHeld3
namespace Go.Proofs.YtfglmfldpmpofaaDoor
open Go.RowKit

theorem btrue_any (k i : Int) (s : ByteArray) (w : World) :
    Calls Tryd.prog 34 #[.agg #[.int .i64 (k), .int .i64 (i), .string (s)]] w fun e w' => e = .returned (.bool (trueB k i s)) ∧ Below w.heap.size w w' := by
  go_enter Tryd.func34, Tryd.ntmps34
  go_wp2
  have s0 : Below w.heap.size w (w.alloc (.cells #[.int .i64 k, .int .i64 i, .string s] 26)).drew := ((Below.refl _ _).alloc (Nat.le_refl _) _).drew
  go_region_held3 (fun w' => w'.cell? ⟨w.heap.size, 0, none⟩ = some (.int .i64 k) ∧ w'.cell? ⟨w.heap.size, 1, none⟩ = some (.int .i64 i) ∧ w'.cell? ⟨w.heap.size, 2, none⟩ = some (.string s) ∧ Below w.heap.size w w' ∧ w.heap.size ≤ w'.heap.size)
    (((try dsimp only); go_split_ands; refine ⟨?_, ?_, ?_, ?_, ?_⟩ <;> first | assumption | (go_keep; done) | exact keep_cell (by assumption) (by assumption) | exact below_next (by assumption) (by assumption) (by assumption) | exact Nat.le_trans (by assumption) (Below.size (by assumption))))
    (first
      | (go_at_call 32; refine (of_bool _ _).mono ?_; rintro e w' ⟨rfl, hb⟩)
      | (go_at_call 33; refine (same_any _ _ _ _ _ _ _).mono ?_; rintro e w' ⟨rfl, hb⟩))
  go_wp2
  go_ret
  refine ⟨rfl, ?_⟩
  go_split_ands
  assumption
theorem rtrue_any (k i : Int) (s : ByteArray) (w : World) :
    Calls Tryd.prog 29 #[.agg #[.int .i64 (k), .int .i64 (i), .string (s)]] w fun e w' => e = .returned (.bool (trueB k i s)) ∧ Below w.heap.size w w' := by
  go_enter Tryd.func29, Tryd.ntmps29
  go_wp2
  have s0 : Below w.heap.size w (w.alloc (.cells #[.int .i64 k, .int .i64 i, .string s] 26)).drew := ((Below.refl _ _).alloc (Nat.le_refl _) _).drew
  go_region_held3 (fun w' => w'.cell? ⟨w.heap.size, 0, none⟩ = some (.int .i64 k) ∧ w'.cell? ⟨w.heap.size, 1, none⟩ = some (.int .i64 i) ∧ w'.cell? ⟨w.heap.size, 2, none⟩ = some (.string s) ∧ Below w.heap.size w w' ∧ w.heap.size ≤ w'.heap.size)
    (((try dsimp only); go_split_ands; refine ⟨?_, ?_, ?_, ?_, ?_⟩ <;> first | assumption | (go_keep; done) | exact keep_cell (by assumption) (by assumption) | exact below_next (by assumption) (by assumption) (by assumption) | exact Nat.le_trans (by assumption) (Below.size (by assumption))))
    (first
      | (go_at_call 24; refine (rsym_any _ _).mono ?_; rintro e w' ⟨rfl, hb⟩)
      | (go_at_call 15; refine (rsame_any _ _ _ _ _ _ _).mono ?_; rintro e w' ⟨rfl, hb⟩))
  go_wp2
  go_ret
  refine ⟨rfl, ?_⟩
  go_split_ands
  assumption
end Go.Proofs.YtfglmfldpmpofaaDoor
