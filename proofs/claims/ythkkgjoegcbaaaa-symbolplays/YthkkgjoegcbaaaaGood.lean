/- The contracts of sym.Good and of the reference's Good: any text. -/
import Derived.Test.YthkkgjoegcbaaaaProg
import Derived.Test.YthkkgjoegcbaaaaMath
import Derived.WalkLawsBesides
import Derived.WalkSpells
import Derived.Outline
namespace Go.Proofs.Ythkkgjoegcbaaaa
open Go.RowKit

theorem ret_bool {a b : Bool} (h : a = b) : Ending.returned (.bool a) = .returned (.bool b) := by rw [h]
theorem fitF_t {c : Int} (h : (97 ≤ c ∧ c ≤ 122) ∨ (65 ≤ c ∧ c ≤ 90) ∨ c = 45 ∨ c = 95 ∨ (48 ≤ c ∧ c ≤ 57)) : true = fitB c false := by
  rw [fitB_behind]; simp [partI, ltrI, othI]; omega
theorem fitF_f {c : Int} (h : ¬ ((97 ≤ c ∧ c ≤ 122) ∨ (65 ≤ c ∧ c ≤ 90) ∨ c = 45 ∨ c = 95 ∨ (48 ≤ c ∧ c ≤ 57))) : false = fitB c false := by
  rw [fitB_behind]; simp [partI, ltrI, othI]; omega
theorem fitT_t {c : Int} (h : (97 ≤ c ∧ c ≤ 122) ∨ (65 ≤ c ∧ c ≤ 90)) : true = fitB c true := by
  rw [fitB_first]; simp [ltrI]; omega
theorem fitT_f {c : Int} (h : ¬ ((97 ≤ c ∧ c ≤ 122) ∨ (65 ≤ c ∧ c ≤ 90))) : false = fitB c true := by
  rw [fitB_first]; simp [ltrI]; omega

set_option maxHeartbeats 1000000 in
theorem fits_any (c : Int) (f : Bool) (w : World) :
    Calls Try.prog 17 #[.int .u8 c, .bool f] w fun e w' => e = .returned (.bool (fitB c f)) ∧ w' = w := by
  by_cases h1 : (97 ≤ c ∧ c ≤ 122)
  · cases f
    all_goals
      go_enter Try.func17, Try.ntmps17
      go_wp2
      all_goals
        go_ret
        first
          | exact ⟨ret_bool (fitF_t (by omega)), rfl⟩
          | exact ⟨ret_bool (fitT_t (by omega)), rfl⟩
  · by_cases h2 : (65 ≤ c ∧ c ≤ 90)
    · cases f
      all_goals
        go_enter Try.func17, Try.ntmps17
        go_wp2
        all_goals
          go_ret
          first
            | exact ⟨ret_bool (fitF_t (by omega)), rfl⟩
            | exact ⟨ret_bool (fitT_t (by omega)), rfl⟩
    · cases f
      all_goals
        go_enter Try.func17, Try.ntmps17
        go_wp2
        all_goals
          go_ret
          first
            | exact ⟨ret_bool (fitF_t (by simp at *; omega)), rfl⟩
            | exact ⟨ret_bool (fitT_t (by simp at *; omega)), rfl⟩
            | exact ⟨ret_bool (fitF_f (by simp at *; omega)), rfl⟩
            | exact ⟨ret_bool (fitT_f (by simp at *; omega)), rfl⟩

end Go.Proofs.Ythkkgjoegcbaaaa
