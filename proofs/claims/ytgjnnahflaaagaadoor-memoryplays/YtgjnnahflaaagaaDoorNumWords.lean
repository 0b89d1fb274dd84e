/- The contract of package num's Text; the library's table of powers of ten. -/
import Derived.Test.YtgjnnahflaaagaaDoorNumParseAny
import Derived.Test.YtgjnnahflaaagaaDoorShelf
import Derived.WalkSmall
namespace Go.Proofs.YtgjnnahflaaagaaDoor
open Go.RowKit

/-- The library's table of powers of ten lies as its text lays it. -/
def TabW (w : World) : Prop := Lib.TabIs Tryd.prog w "internal/strconv.uint64pow10" .u64 Lib.pow10Tab
theorem gPow : Tryd.prog.globalNamed "internal/strconv.uint64pow10" = some 0 := by kernel_rfl
theorem grow_below (w : World) (k : Nat) (os : Array Obj) : Below w.heap.size w (Sort.grow (w.drewN k) os) := by
  refine ⟨rfl, rfl, rfl, ?_, fun b hb => ?_⟩
  · show w.heap.size ≤ (w.heap ++ os).size
    simp
  · show (w.heap ++ os)[b]? = w.heap[b]?
    rw [Array.getElem?_append_left hb]
theorem tab_pos {w : World} (h : TabW w) : 0 < w.heap.size := World.block_lt_of_cell? _ _ (Lib.TabIs.cell h gPow 0 (by decide))
theorem tab_below {w w' : World} {B : Nat} (h : TabW w) (hb : Below B w w') (hB : 0 < B) : TabW w' := var?_below hb gPow hB h
theorem tab_from {w w' : World} {B : Nat} (h : TabW w) (hb : Below B w w') (hB : w.heap.size ≤ B) : TabW w' := tab_below h hb (Nat.lt_of_lt_of_le (tab_pos h) hB)
theorem tab_next {w w' : World} (h : TabW w) (hb : Below w.heap.size w w') : TabW w' := tab_from h hb (Nat.le_refl _)

/-- A call that only computes: the world is as it was, but for draws. -/
def SameW (w w' : World) : Prop := ∃ n, w' = w.drewN n
theorem SameW.refl (w : World) : SameW w w := ⟨0, rfl⟩
theorem SameW.size {w w' : World} (h : SameW w w') : w'.heap.size = w.heap.size := by obtain ⟨n, rfl⟩ := h; rfl
theorem SameW.below {w w' : World} (B : Nat) (h : SameW w w') : Below B w w' := by obtain ⟨n, rfl⟩ := h; exact below_drewN (Below.refl _ _) n
theorem bcell {W w1 : World} (hb : Below W.heap.size W w1) : (∀ b o, b < W.heap.size → w1.cell? ⟨b, o, none⟩ = W.cell? ⟨b, o, none⟩) ∧ (∀ b o, b < W.heap.size → w1.frozen? ⟨b, o, none⟩ = W.frozen? ⟨b, o, none⟩) :=
  ⟨fun b o h => hb.cell (p := ⟨b, o, none⟩) h, fun b o h => hb.frozen (p := ⟨b, o, none⟩) h⟩

end Go.Proofs.YtgjnnahflaaagaaDoor
