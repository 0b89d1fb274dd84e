/- Contracts of package val's Right and of what it calls, and of the reference's. -/
import Derived.Test.YtgjnnahflaaagaaDoorValOf
import Derived.Test.YtgjnnahflaaagaaDoorRefShape
import Derived.Test.YtgjnnahflaaagaaDoorNumWords
namespace Go.Proofs.YtgjnnahflaaagaaDoor
open Go.RowKit

theorem sign_any (c : UInt8) (w : World) :
    Calls Tryd.prog 24 #[.int .u8 (c.toNat : Int)] w fun e w' => e = .returned (.bool (signB c)) ∧ w' = w := by
  have HS : Hid (signB c = decide (33 ≤ (c.toNat : Int) ∧ (c.toNat : Int) ≤ 126 ∧ (c.toNat : Int) ≠ 40 ∧ (c.toNat : Int) ≠ 41 ∧ (c.toNat : Int) ≠ 34 ∧ (c.toNat : Int) ≠ 59 ∧ (c.toNat : Int) ≠ 63 ∧ (c.toNat : Int) ≠ 126)) := by
    unfold Hid signB; rw [decide_eq_decide]; omega
  go_enter Tryd.func24, Tryd.ntmps24
  go_wp2
  all_goals
    go_ret
    refine ⟨ret_b ?_, rfl⟩
    rw [HS.out]
    clear HS
    rw [Bool.eq_iff_iff]
    simp only [Bool.and_eq_true, bne_iff_ne, ne_eq, decide_eq_true_iff, Bool.false_eq_true, false_iff]
    omega

end Go.Proofs.YtgjnnahflaaagaaDoor
