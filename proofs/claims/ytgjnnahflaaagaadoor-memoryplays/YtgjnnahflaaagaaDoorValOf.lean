/- Contracts of package val's small makers and of the reference's: each makes memory alone. -/
import Derived.Test.YtgjnnahflaaagaaDoorValMath
import Derived.Test.YtgjnnahflaaagaaDoorProg
import Derived.WalkKit
import Derived.Deep.QuietTactic
import Derived.BigQuiet
import Derived.Deep.RegionHeld3
namespace Go.Proofs.YtgjnnahflaaagaaDoor
open Go.RowKit

theorem ret_b {a b : Bool} (h : a = b) : Ending.returned (.bool a) = .returned (.bool b) := by rw [h]
theorem beq_ba (a b : ByteArray) : (a.toList == b.toList) = decide (a = b) := by rw [Bool.eq_iff_iff, beq_iff_eq, decide_eq_true_iff]; exact list_ba
/-- What lay there lies there still, behind a call that makes memory alone. -/
theorem keep_cell {w1 w2 : World} {p : Addr} {v : Value} (hb : Below w1.heap.size w1 w2) (h : w1.cell? p = some v) : w2.cell? p = some v := by
  have hl := World.block_lt_of_cell? w1 p h
  rw [hb.cell hl]; exact h
theorem keep_froz {w1 w2 : World} {p : Addr} {v : Value} {b : Bool} (hb : Below w1.heap.size w1 w2) (h : w1.cell? p = some v) (hf : w1.frozen? p = b) : w2.frozen? p = b := by
  have hl := World.block_lt_of_cell? w1 p h
  rw [hb.frozen hl]; exact hf
theorem below_next {w0 w1 w2 : World} {B : Nat} (h : Below B w0 w1) (h2 : Below w1.heap.size w1 w2) (hB : B ≤ w1.heap.size) : Below B w0 w2 := h.trans (h2.mono hB)

theorem of_str (s : ByteArray) (w : World) :
    Calls Tryd.prog 33 #[.string s] w fun e w' => e = .returned (.agg #[.int .i64 (3), .int .i64 (0), .string (s)]) ∧ Below w.heap.size w w' := by
  go_enter Tryd.func33, Tryd.ntmps33
  go_wp2
  exact bodyPost_ret (v := .agg #[.int .i64 (3), .int .i64 (0), .string (s)]) (by simp [results, Tryd.results33, go_sem]) rfl ⟨rfl, (Below.refl _ _).alloc (Nat.le_refl _) _⟩
theorem rint_any (i : Int) (w : World) :
    Calls Tryd.prog 16 #[.int .i64 i] w fun e w' => e = .returned (.agg #[.int .i64 (1), .int .i64 (i), .string (⟨#[]⟩)]) ∧ Below w.heap.size w w' := by
  go_enter Tryd.func16, Tryd.ntmps16
  go_wp2
  exact bodyPost_ret (v := .agg #[.int .i64 (1), .int .i64 (i), .string (⟨#[]⟩)]) (by simp [results, Tryd.results16, go_sem]) rfl ⟨rfl, (Below.refl _ _).alloc (Nat.le_refl _) _⟩
/-- A symbol's maker behind a result's own cell. -/
theorem bcells {W w1 : World} (hb : Below W.heap.size W w1) : (∀ b o, b < W.heap.size → w1.cell? ⟨b, o, none⟩ = W.cell? ⟨b, o, none⟩) ∧ (∀ b o, b < W.heap.size → w1.frozen? ⟨b, o, none⟩ = W.frozen? ⟨b, o, none⟩) :=
  ⟨fun b o h => hb.cell (p := ⟨b, o, none⟩) h, fun b o h => hb.frozen (p := ⟨b, o, none⟩) h⟩
theorem rsame_any (k i k' i' : Int) (s s' : ByteArray) (w : World) :
    Calls Tryd.prog 25 #[.agg #[.int .i64 (k), .int .i64 (i), .string (s)], .agg #[.int .i64 (k'), .int .i64 (i'), .string (s')]] w fun e w' => e = .returned (.bool (sameB k i s k' i' s')) ∧ Below w.heap.size w w' := by
  go_enter Tryd.func25, Tryd.ntmps25
  go_wp2
  all_goals
    go_ret
    refine ⟨ret_b ?_, ((Below.refl _ _).alloc (Nat.le_refl _) _).alloc (by simp) _⟩
    first
      | (symm; refine sameB_no fun h => ?_; obtain ⟨h1, h2, h3⟩ := h; contradiction)
      | (rw [beq_ba]; unfold sameB; simp [*])
end Go.Proofs.YtgjnnahflaaagaaDoor
