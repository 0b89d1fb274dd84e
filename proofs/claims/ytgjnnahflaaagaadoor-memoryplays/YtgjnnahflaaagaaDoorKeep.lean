/- What lies still: small laws for regions that draw their order. -/
import Derived.Test.YtgjnnahflaaagaaDoorNumWords
import Derived.Test.YtgjnnahflaaagaaDoorValOf
namespace Go.Proofs.YtgjnnahflaaagaaDoor
open Go.RowKit

theorem alloc_cell {w : World} {p : Addr} {v : Value} {o : Obj} (h : w.cell? p = some v) : (w.alloc o).cell? p = some v := keep_cell ((Below.refl _ _).alloc (Nat.le_refl _) _) h
theorem box_cell {w : World} {b j : Nat} {cs : Array Value} {T : Nat} {v : Value} (hb : b = w.heap.size) (h : cs[j]? = some v) : (w.alloc (.cells cs T)).cell? ⟨b, j, none⟩ = some v := by
  subst hb
  simp [h]
theorem below_alloc {w0 w : World} {B : Nat} {o : Obj} (h : Below B w0 w) (hB : B ≤ w.heap.size) : Below B w0 (w.alloc o) := h.alloc hB o
theorem le_alloc {w : World} {B : Nat} {o : Obj} (hB : B ≤ w.heap.size) : B ≤ (w.alloc o).heap.size := by simp; omega
theorem le_next {w w' : World} {B : Nat} (hB : B ≤ w.heap.size) (h : Below w.heap.size w w') : B ≤ w'.heap.size := Nat.le_trans hB h.size
theorem tab_alloc {w : World} {o : Obj} (h : TabW w) : TabW (w.alloc o) := tab_next h ((Below.refl _ _).alloc (Nat.le_refl _) _)
theorem box0 {w : World} {j : Nat} {cs : Array Value} {T : Nat} {v : Value} (h : cs[j]? = some v) : (w.alloc (.cells cs T)).cell? ⟨w.heap.size, j, none⟩ = some v := box_cell rfl h
theorem box1 {w : World} {j : Nat} {cs : Array Value} {T : Nat} {v : Value} {o : Obj} (h : cs[j]? = some v) : ((w.alloc o).alloc (.cells cs T)).cell? ⟨w.heap.size + 1, j, none⟩ = some v := box_cell (by simp) h
end Go.Proofs.YtgjnnahflaaagaaDoor
