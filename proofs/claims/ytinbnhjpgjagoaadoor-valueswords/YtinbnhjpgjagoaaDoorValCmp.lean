/- The contract of package val's Compare, of cmp.Compare at int64, of cmp.Or at int; of True. -/
import Derived.Test.YtinbnhjpgjagoaaDoorValOf
import Derived.Test.YtinbnhjpgjagoaaDoorShelf
namespace Go.Proofs.YtinbnhjpgjagoaaDoor
open Go.RowKit

theorem nan64 (x : Int) (w : World) : Calls Tryd.prog 46 #[.int .i64 x] w fun e w' => e = .returned (.bool false) ∧ w' = w := by
  go_enter Tryd.func46, Tryd.ntmps46
  go_wp2
  go_ret
  exact ⟨ret_b (by simp), rfl⟩
theorem ret_i {a b : Int} (h : a = b) : Ending.returned (.int .i64 a) = .returned (.int .i64 b) := by rw [h]
theorem cmp64 (x y : Int) (w : World) : Calls Tryd.prog 38 #[.int .i64 x, .int .i64 y] w fun e w' => e = .returned (.int .i64 (Lib.compareInt x y)) ∧ w' = w := by
  go_enter Tryd.func38, Tryd.ntmps38
  go_wp2_with (go_at_call 46; refine (nan64 _ _).mono ?_; rintro e w ⟨rfl, rfl⟩)
  all_goals
    go_ret
    refine ⟨ret_i ?_, rfl⟩
    unfold Lib.compareInt
    first
      | (rw [if_pos (by omega)])
      | (rw [if_neg (by omega), if_pos (by omega)])
      | (rw [if_neg (by omega), if_neg (by omega)])

/-- The first of three that is not nought. -/
def or3 (x y z : Int) : Int := if x ≠ 0 then x else if y ≠ 0 then y else z
set_option maxHeartbeats 1000000 in
theorem or_three (b cap : Nat) (x y z : Int) (w : World) (h0 : w.cell? ⟨b, 0, none⟩ = some (.int .i64 x)) (h1 : w.cell? ⟨b, 1, none⟩ = some (.int .i64 y)) (h2 : w.cell? ⟨b, 2, none⟩ = some (.int .i64 z)) :
    Calls Tryd.prog 36 #[.slice (some ⟨b, 0, none⟩) 3 cap] w fun e w' => e = .returned (.int .i64 (or3 x y z)) ∧ w' = w := by
  by_cases c1 : x = 0
  · subst c1
    by_cases c2 : y = 0
    · subst c2
      by_cases c3 : z = 0
      · subst c3
        go_enter Tryd.func36, Tryd.ntmps36
        go_wp2
        refine wp_loop_rounds 4 ?_
        rw [rounds_succ]
        go_wp2
        rw [rounds_succ]
        go_wp2
        rw [rounds_succ]
        go_wp2
        rw [rounds_succ]
        go_wp2
        go_ret
        exact ⟨rfl, rfl⟩
      · have d3 : (z != 0) = true := by simpa using c3
        have HE : Hid (or3 0 0 z = z) := rfl
        clear c3
        go_enter Tryd.func36, Tryd.ntmps36
        go_wp2
        refine wp_loop_rounds 3 ?_
        rw [rounds_succ]
        go_wp2
        rw [rounds_succ]
        go_wp2
        rw [rounds_succ]
        go_wp2
        go_ret
        exact ⟨ret_i HE.out.symm, rfl⟩
    · have HE : Hid (or3 0 y z = y) := by unfold Hid or3; rw [if_neg (by decide), if_pos c2]
      have d3 : (y != 0) = true := by simpa using c2
      clear c2
      go_enter Tryd.func36, Tryd.ntmps36
      go_wp2
      refine wp_loop_rounds 2 ?_
      rw [rounds_succ]
      go_wp2
      rw [rounds_succ]
      go_wp2
      go_ret
      exact ⟨ret_i HE.out.symm, rfl⟩
  · have HE : Hid (or3 x y z = x) := by unfold Hid or3; rw [if_pos c1]
    have d3 : (x != 0) = true := by simpa using c1
    clear c1
    go_enter Tryd.func36, Tryd.ntmps36
    go_wp2
    refine wp_loop_rounds 1 ?_
    rw [rounds_succ]
    go_wp2
    go_ret
    exact ⟨ret_i HE.out.symm, rfl⟩
end Go.Proofs.YtinbnhjpgjagoaaDoor
