/- The reference's reader. -/
import Derived.Deep.QuietTactic
import Derived.BigQuiet
import Derived.Test.YtlniifheapoppaaDoorG10
import Derived.Test.YtlniifheapoppaaDoorG7
namespace Go.Proofs.YtlniifheapoppaaDoor
open Go.RowKit

/-- A block of three cells. -/
def Three (w : World) (R T : Nat) (x y z : Value) : Prop := w.heap[R]? = some (.cells #[x, y, z] T (0, 0))
theorem Three.lt {w : World} {R T : Nat} {x y z : Value} (h : Three w R T x y z) : R < w.heap.size := by
  rcases Nat.lt_or_ge R w.heap.size with h1 | h1
  · exact h1
  · unfold Three at h; rw [Array.getElem?_eq_none h1] at h; exact absurd h (by simp)
theorem Three.cells {w : World} {R T : Nat} {x y z : Value} (h : Three w R T x y z) : w.cell? ⟨R, 0, none⟩ = some x ∧ w.cell? ⟨R, 1, none⟩ = some y ∧ w.cell? ⟨R, 2, none⟩ = some z ∧ ∀ j, w.frozen? ⟨R, j, none⟩ = false := by
  refine ⟨?_, ?_, ?_, fun j => Lib.frozen_of_heap h j⟩ <;> (unfold Three at h; unfold World.cell?; rw [h]; rfl)
theorem Three.set1 {w : World} {R T : Nat} {x y z : Value} (h : Three w R T x y z) (u : Value) : Three (w.setCell ⟨R, 1, none⟩ u) R T x u z := by
  unfold Three at h ⊢
  simp [World.setCell, Array.getElem?_modify, h]
theorem Three.set2 {w : World} {R T : Nat} {x y z : Value} (h : Three w R T x y z) (u : Value) : Three (w.setCell ⟨R, 2, none⟩ u) R T x y u := by
  unfold Three at h ⊢
  simp [World.setCell, Array.getElem?_modify, h]
/-- An error of one part, char. -/
def WrIs (w : World) (B : Nat) (v : Value) (a : Int) (f : Int) : Prop := ∃ b, B ≤ b ∧ v = .agg #[.slice (some ⟨b, 0, none⟩) 1 1, .int .i64 f] ∧ w.cell? ⟨b, 0, none⟩ = some (.string ⟨#[99, 104, 97, 114]⟩) ∧ w.cell? ⟨b, 1, none⟩ = some (.int .i64 a)
theorem WrIs.keep {w w' : World} {B B' : Nat} {v : Value} {a f : Int} (h : WrIs w B v a f) (hB : B' ≤ B) (hw : ∀ k, B ≤ k → k < w.heap.size → w'.heap[k]? = w.heap[k]?) : WrIs w' B' v a f := by
  obtain ⟨b, h1, h2, h3, h4⟩ := h
  have hb := hw b h1 (World.block_lt_of_cell? w ⟨b, 0, none⟩ h3)
  exact ⟨b, by omega, h2, by rw [World.cell?_of_block (a := ⟨b, 0, none⟩) hb]; exact h3, by rw [World.cell?_of_block (a := ⟨b, 1, none⟩) hb]; exact h4⟩
/-- One part, char, at a block. -/
def PtAt (w : World) (b : Nat) (a : Int) : Prop := w.cell? ⟨b, 0, none⟩ = some (.string ⟨#[99, 104, 97, 114]⟩) ∧ w.cell? ⟨b, 1, none⟩ = some (.int .i64 a)
theorem PtAt.keep {w w' : World} {b : Nat} {a : Int} (h : PtAt w b a) (hw : w'.heap[b]? = w.heap[b]?) : PtAt w' b a :=
  ⟨by rw [World.cell?_of_block (a := ⟨b, 0, none⟩) hw]; exact h.1, by rw [World.cell?_of_block (a := ⟨b, 1, none⟩) hw]; exact h.2⟩
/-- A fault of the reference's, told by the results' boxes. -/
def errW (w w3 : World) (b3 : Nat) (f : Int) : World := ((set5 w3 w.heap.size (.int .i64 0) (.int .i64 0) (.int .i64 0) (.string ⟨#[]⟩) (.slice none 0 0)).setCell ⟨w.heap.size + 1, 0, none⟩ (.slice (some ⟨b3, 0, none⟩) 1 1)).setCell ⟨w.heap.size + 1, 1, none⟩ (.int .i64 f)
def set7 (w : World) (b : Nat) (v0 v1 v2 v3 v4 x0 x1 : Value) : World := ((set5 w b v0 v1 v2 v3 v4).setCell ⟨b + 1, 0, none⟩ x0).setCell ⟨b + 1, 1, none⟩ x1
theorem set7_block {w : World} {b k : Nat} (v0 v1 v2 v3 v4 x0 x1 : Value) (h : k ≠ b) (h2 : k ≠ b + 1) : (set7 w b v0 v1 v2 v3 v4 x0 x1).heap[k]? = w.heap[k]? := by
  unfold set7
  rw [Below.heap_setCell _ _ _ _ (by exact h2), Below.heap_setCell _ _ _ _ (by exact h2), set5_block _ _ _ _ _ h]
theorem set7_tch {R b : Nat} {w w1 : World} (v0 v1 v2 v3 v4 x0 x1 : Value) (h : Tch R w w1) (hb : w.heap.size ≤ b) : Tch R w (set7 w1 b v0 v1 v2 v3 v4 x0 x1) := ((set5_tch _ _ _ _ _ h hb).set' (by omega)).set' (by omega)
theorem Tch.drew {R : Nat} {w w1 : World} (h : Tch R w w1) : Tch R w w1.drew := ⟨h.os, h.tape, h.output, h.size, h.block⟩
theorem Tch.drewN {R : Nat} {w w1 : World} (h : Tch R w w1) (q : Nat) : Tch R w (w1.drewN q) := ⟨h.os, h.tape, h.output, h.size, h.block⟩
theorem ret_inj {a b c d e : Value} {f g a' b' c' d' e' f' g' : Value} (h : Ending.returned (.tuple #[.agg #[a, b, c, d, e], .agg #[f, g]]) = .returned (.tuple #[.agg #[a', b', c', d', e'], .agg #[f', g']])) : a = a' ∧ b = b' ∧ c = c' ∧ d = d' ∧ e = e' ∧ f = f' ∧ g = g' := by
  injection h with h
  injection h with h
  simp only [Array.mk.injEq, List.cons.injEq, Value.agg.injEq, and_true] at h
  obtain ⟨⟨h1, h2, h3, h4, h5⟩, h6, h7⟩ := h
  exact ⟨h1, h2, h3, h4, h5, h6, h7⟩
end Go.Proofs.YtlniifheapoppaaDoor
/- The reference's reader: a Close, a node too many. -/
namespace Go.Proofs.YtlniifheapoppaaDoor
open Go.RowKit

end Go.Proofs.YtlniifheapoppaaDoor
/- The reference's reader: a token by itself. -/
namespace Go.Proofs.YtlniifheapoppaaDoor
open Go.RowKit

end Go.Proofs.YtlniifheapoppaaDoor
