/- Contracts of package val's small makers and of the reference's: each makes memory alone. -/
import Derived.Test.YtlnkeebfaninfaaGreatDoorValMath
import Derived.Test.YtlnkeebfaninfaaGreatDoorProg
import Derived.WalkKit
import Derived.Deep.QuietTactic
import Derived.BigQuiet
import Derived.Deep.RegionHeld3
namespace Go.Proofs.YtlnkeebfaninfaaGreatDoor
open Go.RowKit

theorem ret_b {a b : Bool} (h : a = b) : Ending.returned (.bool a) = .returned (.bool b) := by rw [h]
theorem beq_ba (a b : ByteArray) : (a.toList == b.toList) = decide (a = b) := by rw [Bool.eq_iff_iff, beq_iff_eq, decide_eq_true_iff]; exact list_ba
/-- What lay there lies there still, behind a call that makes memory alone. -/
theorem keep_cell {w1 w2 : World} {p : Addr} {v : Value} (hb : Below w1.heap.size w1 w2) (h : w1.cell? p = some v) : w2.cell? p = some v := by
  have hl := World.block_lt_of_cell? w1 p h
  rw [hb.cell hl]; exact h
theorem keep_froz {w1 w2 : World} {p : Addr} {v : Value} {b : Bool} (hb : Below w1.heap.size w1 w2) (h : w1.cell? p = some v) (hf : w1.frozen? p = b) : w2.frozen? p = b := by
  have hl := World.block_lt_of_cell? w1 p h
  rw [hb.frozen hl]; exact hf
theorem below_next {w0 w1 w2 : World} {B : Nat} (h : Below B w0 w1) (h2 : Below w1.heap.size w1 w2) (hB : B ≤ w1.heap.size) : Below B w0 w2 := h.trans (h2.mono hB)

theorem of_sym (s : ByteArray) (w : World) :
    Calls Tryz.prog 63 #[.string s] w fun e w' => e = .returned (.agg #[.int .i64 (2), .int .i64 (0), .string (s)]) ∧ Below w.heap.size w w' := by
  go_enter Tryz.func63, Tryz.ntmps63
  go_wp2
  exact bodyPost_ret (v := .agg #[.int .i64 (2), .int .i64 (0), .string (s)]) (by simp [results, Tryz.results63, go_sem]) rfl ⟨rfl, (Below.refl _ _).alloc (Nat.le_refl _) _⟩
theorem of_str (s : ByteArray) (w : World) :
    Calls Tryz.prog 59 #[.string s] w fun e w' => e = .returned (.agg #[.int .i64 (3), .int .i64 (0), .string (s)]) ∧ Below w.heap.size w w' := by
  go_enter Tryz.func59, Tryz.ntmps59
  go_wp2
  exact bodyPost_ret (v := .agg #[.int .i64 (3), .int .i64 (0), .string (s)]) (by simp [results, Tryz.results59, go_sem]) rfl ⟨rfl, (Below.refl _ _).alloc (Nat.le_refl _) _⟩
/-- A symbol's maker behind a result's own cell. -/
theorem bcells {W w1 : World} (hb : Below W.heap.size W w1) : (∀ b o, b < W.heap.size → w1.cell? ⟨b, o, none⟩ = W.cell? ⟨b, o, none⟩) ∧ (∀ b o, b < W.heap.size → w1.frozen? ⟨b, o, none⟩ = W.frozen? ⟨b, o, none⟩) :=
  ⟨fun b o h => hb.cell (p := ⟨b, o, none⟩) h, fun b o h => hb.frozen (p := ⟨b, o, none⟩) h⟩
end Go.Proofs.YtlnkeebfaninfaaGreatDoor
