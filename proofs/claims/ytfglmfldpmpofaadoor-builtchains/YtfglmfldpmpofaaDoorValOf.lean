/- Contracts of package val's small makers and of the reference's: each makes memory alone. -/
import Derived.Test.YtfglmfldpmpofaaDoorValMath
import Derived.Test.YtfglmfldpmpofaaDoorProg
import Derived.WalkKit
import Derived.Deep.QuietTactic
import Derived.BigQuiet
import Derived.Deep.RegionHeld3
namespace Go.Proofs.YtfglmfldpmpofaaDoor
open Go.RowKit

theorem ret_b {a b : Bool} (h : a = b) : Ending.returned (.bool a) = .returned (.bool b) := by rw [h]
theorem beq_ba (a b : ByteArray) : (a.toList == b.toList) = decide (a = b) := by rw [Bool.eq_iff_iff, beq_iff_eq, decide_eq_true_iff]; exact list_ba
/-- What lay there lies there still, behind a call that makes memory alone. -/
theorem keep_cell {w1 w2 : World} {p : Addr} {v : Value} (hb : Below w1.heap.size w1 w2) (h : w1.cell? p = some v) : w2.cell? p = some v := by
  have hl := World.block_lt_of_cell? w1 p h
  rw [hb.cell hl]; exact h
theorem keep_froz {w1 w2 : World} {p : Addr} {v : Value} {b : Bool} (hb : Below w1.heap.size w1 w2) (h : w1.cell? p = some v) (hf : w1.frozen? p = b) : w2.frozen? p = b := by
  have hl := World.block_lt_of_cell? w1 p h
  rw [hb.frozen hl]; exact hf
theorem below_next {w0 w1 w2 : World} {B : Nat} (h : Below B w0 w1) (h2 : Below w1.heap.size w1 w2) (hB : B ≤ w1.heap.size) : Below B w0 w2 := h.trans (h2.mono hB)

theorem of_int (i : Int) (w : World) :
    Calls Tryd.prog 48 #[.int .i64 i] w fun e w' => e = .returned (.agg #[.int .i64 (1), .int .i64 (i), .string (⟨#[]⟩)]) ∧ Below w.heap.size w w' := by
  go_enter Tryd.func48, Tryd.ntmps48
  go_wp2
  exact bodyPost_ret (v := .agg #[.int .i64 (1), .int .i64 (i), .string (⟨#[]⟩)]) (by simp [results, Tryd.results48, go_sem]) rfl ⟨rfl, (Below.refl _ _).alloc (Nat.le_refl _) _⟩
theorem of_sym (s : ByteArray) (w : World) :
    Calls Tryd.prog 44 #[.string s] w fun e w' => e = .returned (.agg #[.int .i64 (2), .int .i64 (0), .string (s)]) ∧ Below w.heap.size w w' := by
  go_enter Tryd.func44, Tryd.ntmps44
  go_wp2
  exact bodyPost_ret (v := .agg #[.int .i64 (2), .int .i64 (0), .string (s)]) (by simp [results, Tryd.results44, go_sem]) rfl ⟨rfl, (Below.refl _ _).alloc (Nat.le_refl _) _⟩
theorem of_str (s : ByteArray) (w : World) :
    Calls Tryd.prog 47 #[.string s] w fun e w' => e = .returned (.agg #[.int .i64 (3), .int .i64 (0), .string (s)]) ∧ Below w.heap.size w w' := by
  go_enter Tryd.func47, Tryd.ntmps47
  go_wp2
  exact bodyPost_ret (v := .agg #[.int .i64 (3), .int .i64 (0), .string (s)]) (by simp [results, Tryd.results47, go_sem]) rfl ⟨rfl, (Below.refl _ _).alloc (Nat.le_refl _) _⟩
theorem rint_any (i : Int) (w : World) :
    Calls Tryd.prog 20 #[.int .i64 i] w fun e w' => e = .returned (.agg #[.int .i64 (1), .int .i64 (i), .string (⟨#[]⟩)]) ∧ Below w.heap.size w w' := by
  go_enter Tryd.func20, Tryd.ntmps20
  go_wp2
  exact bodyPost_ret (v := .agg #[.int .i64 (1), .int .i64 (i), .string (⟨#[]⟩)]) (by simp [results, Tryd.results20, go_sem]) rfl ⟨rfl, (Below.refl _ _).alloc (Nat.le_refl _) _⟩
theorem rsym_any (s : ByteArray) (w : World) :
    Calls Tryd.prog 24 #[.string s] w fun e w' => e = .returned (.agg #[.int .i64 (2), .int .i64 (0), .string (s)]) ∧ Below w.heap.size w w' := by
  go_enter Tryd.func24, Tryd.ntmps24
  go_wp2
  exact bodyPost_ret (v := .agg #[.int .i64 (2), .int .i64 (0), .string (s)]) (by simp [results, Tryd.results24, go_sem]) rfl ⟨rfl, (Below.refl _ _).alloc (Nat.le_refl _) _⟩
theorem rstr_any (s : ByteArray) (w : World) :
    Calls Tryd.prog 23 #[.string s] w fun e w' => e = .returned (.agg #[.int .i64 (3), .int .i64 (0), .string (s)]) ∧ Below w.heap.size w w' := by
  go_enter Tryd.func23, Tryd.ntmps23
  go_wp2
  exact bodyPost_ret (v := .agg #[.int .i64 (3), .int .i64 (0), .string (s)]) (by simp [results, Tryd.results23, go_sem]) rfl ⟨rfl, (Below.refl _ _).alloc (Nat.le_refl _) _⟩

/-- A symbol's maker behind a result's own cell. -/
theorem bcells {W w1 : World} (hb : Below W.heap.size W w1) : (∀ b o, b < W.heap.size → w1.cell? ⟨b, o, none⟩ = W.cell? ⟨b, o, none⟩) ∧ (∀ b o, b < W.heap.size → w1.frozen? ⟨b, o, none⟩ = W.frozen? ⟨b, o, none⟩) :=
  ⟨fun b o h => hb.cell (p := ⟨b, o, none⟩) h, fun b o h => hb.frozen (p := ⟨b, o, none⟩) h⟩
theorem of_bool (b : Bool) (w : World) :
    Calls Tryd.prog 32 #[.bool b] w fun e w' => e = .returned (.agg #[.int .i64 (2), .int .i64 (0), .string (boolS b)]) ∧ Below w.heap.size w w' := by
  cases b
  · go_enter Tryd.func32, Tryd.ntmps32
    go_wp2_with (go_at_call 44; refine (of_sym _ _).mono ?_; rintro e w1 ⟨rfl, hb⟩; obtain ⟨hc, hf⟩ := bcells hb)
    refine bodyPost_ret (v := .agg #[.int .i64 (2), .int .i64 (0), .string (boolS false)]) (by simp [results, Tryd.results32, go_sem, hc, boolS]) rfl ⟨rfl, ?_⟩
    exact (((below_next ((Below.refl _ _).alloc (Nat.le_refl _) _) hb (by simp)).setCell (p := ⟨w.heap.size, 0, none⟩) (Nat.le_refl _) _).setCell (p := ⟨w.heap.size, 1, none⟩) (Nat.le_refl _) _).setCell (p := ⟨w.heap.size, 2, none⟩) (Nat.le_refl _) _
  · go_enter Tryd.func32, Tryd.ntmps32
    go_wp2_with (go_at_call 44; refine (of_sym _ _).mono ?_; rintro e w1 ⟨rfl, hb⟩; obtain ⟨hc, hf⟩ := bcells hb)
    refine bodyPost_ret (v := .agg #[.int .i64 (2), .int .i64 (0), .string (boolS true)]) (by simp [results, Tryd.results32, go_sem, hc, boolS]) rfl ⟨rfl, ?_⟩
    exact (((below_next ((Below.refl _ _).alloc (Nat.le_refl _) _) hb (by simp)).setCell (p := ⟨w.heap.size, 0, none⟩) (Nat.le_refl _) _).setCell (p := ⟨w.heap.size, 1, none⟩) (Nat.le_refl _) _).setCell (p := ⟨w.heap.size, 2, none⟩) (Nat.le_refl _) _
theorem rbool_any (b : Bool) (w : World) :
    Calls Tryd.prog 21 #[.bool b] w fun e w' => e = .returned (.agg #[.int .i64 (2), .int .i64 (0), .string (boolS b)]) ∧ Below w.heap.size w w' := by
  cases b
  · go_enter Tryd.func21, Tryd.ntmps21
    go_wp2_with (go_at_call 24; refine (rsym_any _ _).mono ?_; rintro e w1 ⟨rfl, hb⟩; obtain ⟨hc, hf⟩ := bcells hb)
    refine bodyPost_ret (v := .agg #[.int .i64 (2), .int .i64 (0), .string (boolS false)]) (by simp [results, Tryd.results21, go_sem, hc, boolS]) rfl ⟨rfl, ?_⟩
    exact (((below_next ((Below.refl _ _).alloc (Nat.le_refl _) _) hb (by simp)).setCell (p := ⟨w.heap.size, 0, none⟩) (Nat.le_refl _) _).setCell (p := ⟨w.heap.size, 1, none⟩) (Nat.le_refl _) _).setCell (p := ⟨w.heap.size, 2, none⟩) (Nat.le_refl _) _
  · go_enter Tryd.func21, Tryd.ntmps21
    go_wp2_with (go_at_call 24; refine (rsym_any _ _).mono ?_; rintro e w1 ⟨rfl, hb⟩; obtain ⟨hc, hf⟩ := bcells hb)
    refine bodyPost_ret (v := .agg #[.int .i64 (2), .int .i64 (0), .string (boolS true)]) (by simp [results, Tryd.results21, go_sem, hc, boolS]) rfl ⟨rfl, ?_⟩
    exact (((below_next ((Below.refl _ _).alloc (Nat.le_refl _) _) hb (by simp)).setCell (p := ⟨w.heap.size, 0, none⟩) (Nat.le_refl _) _).setCell (p := ⟨w.heap.size, 1, none⟩) (Nat.le_refl _) _).setCell (p := ⟨w.heap.size, 2, none⟩) (Nat.le_refl _) _
theorem same_any (k i k' i' : Int) (s s' : ByteArray) (w : World) :
    Calls Tryd.prog 33 #[.agg #[.int .i64 (k), .int .i64 (i), .string (s)], .agg #[.int .i64 (k'), .int .i64 (i'), .string (s')]] w fun e w' => e = .returned (.bool (sameB k i s k' i' s')) ∧ Below w.heap.size w w' := by
  go_enter Tryd.func33, Tryd.ntmps33
  go_wp2
  all_goals
    go_ret
    refine ⟨ret_b ?_, ((Below.refl _ _).alloc (Nat.le_refl _) _).alloc (by simp) _⟩
    first
      | (symm; rw [sameB_iff]; exact ⟨by first | rfl | assumption, by first | rfl | assumption, by first | rfl | exact list_ba.1 ‹_›⟩)
      | (symm; refine sameB_no fun h => ?_; obtain ⟨h1, h2, h3⟩ := h; simp_all)
theorem rsame_any (k i k' i' : Int) (s s' : ByteArray) (w : World) :
    Calls Tryd.prog 15 #[.agg #[.int .i64 (k), .int .i64 (i), .string (s)], .agg #[.int .i64 (k'), .int .i64 (i'), .string (s')]] w fun e w' => e = .returned (.bool (sameB k i s k' i' s')) ∧ Below w.heap.size w w' := by
  go_enter Tryd.func15, Tryd.ntmps15
  go_wp2
  all_goals
    go_ret
    refine ⟨ret_b ?_, ((Below.refl _ _).alloc (Nat.le_refl _) _).alloc (by simp) _⟩
    first
      | (symm; refine sameB_no fun h => ?_; obtain ⟨h1, h2, h3⟩ := h; contradiction)
      | (rw [beq_ba]; unfold sameB; simp [*])
end Go.Proofs.YtfglmfldpmpofaaDoor
