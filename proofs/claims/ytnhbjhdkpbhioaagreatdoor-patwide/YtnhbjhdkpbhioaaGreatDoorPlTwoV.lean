/- The law's two values, its fact. -/
import Derived.Test.YtnhbjhdkpbhioaaGreatDoorPlKnM
import Derived.Test.YtnhbjhdkpbhioaaGreatDoorG2
namespace Go.Proofs.YtnhbjhdkpbhioaaGreatDoor
open Go.RowKit

set_option maxHeartbeats 4000000 in
set_option maxRecDepth 8000 in
theorem twov_any (a b : Int) (w : World) :
    Calls Tryz.prog 35 #[.int .i64 a, .int .i64 b] w fun e w' => (∃ ao cap, e = .returned (.slice ao 2 cap) ∧ IsVals w' ao [vI a, vI b]) ∧ Below w.heap.size w w' := by
  go_enter Tryz.func35, Tryz.ntmps35
  go_wp2_with (go_at_call 74; refine (rint_any a _).mono ?_; rintro e w1 ⟨rfl, hb1⟩)
  go_wp2_with (go_at_call 74; refine (rint_any b _).mono ?_; rintro e w2 ⟨rfl, hb2⟩)
  obtain ⟨W, HW⟩ : ∃ W, Hid (w2.alloc (.cells #[.int .i64 1, .int .i64 a, .string ⟨#[]⟩, .int .i64 1, .int .i64 b, .string ⟨#[]⟩] 71) = W) := ⟨_, rfl⟩
  have X : Hid (Bx W w2.heap.size #[.int .i64 1, .int .i64 a, .string ⟨#[]⟩, .int .i64 1, .int .i64 b, .string ⟨#[]⟩]) := Bx.made' HW.out rfl
  have HB : Hid (Below w.heap.size w W) := by rw [← HW.out]; exact next_trans (next_trans hb1 hb2) (alloc_below _ _)
  rw [HW.out]
  go_ret
  refine ⟨⟨_, _, rfl, fun j t hj => ?_⟩, HB.out⟩
  match j, hj with
  | 0, hj => simp at hj; subst hj; exact ⟨_, _, rfl, X.out.cell 0, X.out.cell 1, X.out.cell 2⟩
  | 1, hj => simp at hj; subst hj; exact ⟨_, _, rfl, X.out.cell 3, X.out.cell 4, X.out.cell 5⟩
  | j + 2, hj => simp at hj
end Go.Proofs.YtnhbjhdkpbhioaaGreatDoor
