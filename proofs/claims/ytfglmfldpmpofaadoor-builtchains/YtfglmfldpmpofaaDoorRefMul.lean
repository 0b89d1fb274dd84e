/- The contracts of the reference's Add, size and Mul. -/
import Derived.Test.YtfglmfldpmpofaaDoorRefShape
namespace Go.Proofs.YtfglmfldpmpofaaDoor
open Go.RowKit

theorem ret_two {k j : IntKind} {a b c : Int} (h : a = b) : Ending.returned (.tuple #[.int k a, .int j c]) = .returned (.tuple #[.int k b, .int j c]) := by rw [h]

theorem radd_any (a b : Int) (w : World) (ha : inB a = true) (hb : inB b = true) :
    Calls Tryd.prog 52 #[.int .i64 a, .int .i64 b] w fun e w' => e = .returned (.tuple #[.int .i64 (resV (a + b)), .int .i64 (resE (a + b))]) ∧ w' = w := by
  rw [inB_iff] at ha hb
  obtain ⟨ha1, ha2⟩ := ha
  obtain ⟨hb1, hb2⟩ := hb
  by_cases c : 0 < b
  · by_cases c2 : 9223372036854775807 - b < a
    · have h : inB (a + b) = false := by rw [inB_not]; omega
      rw [resV_out h, resE_out h]; clear h
      go_enter Tryd.func52, Tryd.ntmps52
      go_wp2
      go_ret2
      exact ⟨rfl, rfl⟩
    · have h : inB (a + b) = true := by rw [inB_iff]; omega
      rw [resV_in h, resE_in h]; clear h
      go_enter Tryd.func52, Tryd.ntmps52
      go_wp2
      go_ret2
      exact ⟨rfl, rfl⟩
  · by_cases d : b < 0
    · by_cases c2 : a < -9223372036854775808 - b
      · have h : inB (a + b) = false := by rw [inB_not]; omega
        rw [resV_out h, resE_out h]; clear h
        go_enter Tryd.func52, Tryd.ntmps52
        go_wp2
        go_ret2
        exact ⟨rfl, rfl⟩
      · have h : inB (a + b) = true := by rw [inB_iff]; omega
        rw [resV_in h, resE_in h]; clear h
        go_enter Tryd.func52, Tryd.ntmps52
        go_wp2
        go_ret2
        exact ⟨rfl, rfl⟩
    · have h : inB (a + b) = true := by rw [inB_iff]; omega
      rw [resV_in h, resE_in h]; clear h
      go_enter Tryd.func52, Tryd.ntmps52
      go_wp2
      go_ret2
      exact ⟨rfl, rfl⟩

/-- A number without its sign. -/
theorem msize_any (v : Int) (w : World) (hv : inB v = true) :
    Calls Tryd.prog 57 #[.int .i64 v] w fun e w' => e = .returned (.int .u64 (v.natAbs : Int)) ∧ w' = w := by
  rw [inB_iff] at hv
  obtain ⟨hv1, hv2⟩ := hv
  by_cases c : v < 0
  · have e : (v.natAbs : Int) = -(v + 1) + 1 := by omega
    rw [e]; clear e
    go_enter Tryd.func57, Tryd.ntmps57
    go_wp2
    go_ret
    exact ⟨rfl, rfl⟩
  · have e : (v.natAbs : Int) = v := by omega
    rw [e]; clear e
    go_enter Tryd.func57, Tryd.ntmps57
    go_wp2
    go_ret
    exact ⟨rfl, rfl⟩

/-- The two tests of the reference's Mul, and what they say of the product. -/
theorem mul_test_same (a b : Int) (hs : (a < 0 ∧ b < 0) ∨ (¬ a < 0 ∧ ¬ b < 0)) : inB (a * b) = decide (a.natAbs * b.natAbs ≤ 9223372036854775807) := by
  have h := mul_sign a b
  rw [if_neg (by rcases hs with ⟨h1, h2⟩ | ⟨h1, h2⟩ <;> simp [h1, h2])] at h
  unfold inB
  rw [decide_eq_decide]
  omega
theorem mul_test_other (a b : Int) (hs : (a < 0 ∧ ¬ b < 0) ∨ (¬ a < 0 ∧ b < 0)) : inB (a * b) = decide (a.natAbs * b.natAbs ≤ 9223372036854775808) := by
  have h := mul_sign a b
  rw [if_pos (by rcases hs with ⟨h1, h2⟩ | ⟨h1, h2⟩ <;> simp [h1, h2])] at h
  unfold inB
  rw [decide_eq_decide]
  omega
theorem mul_nought (b : Int) : inB (0 * b) = true := by rw [Int.zero_mul]; decide
/-- The test on the quotient, as the walk writes it. -/
theorem gt_div_int (a b T : Int) (top : Nat) (hT : T = (top : Int)) (ha : a ≠ 0) : (T / (a.natAbs : Int) < (b.natAbs : Int)) ↔ ¬ a.natAbs * b.natAbs ≤ top := by
  rw [hT]
  have h := gt_div a.natAbs b.natAbs top (by omega)
  rw [show ((top : Int) / (a.natAbs : Int)) = ((top / a.natAbs : Nat) : Int) from rfl, Int.ofNat_lt, h]
  omega

theorem rmul_0 (a b : Int) (w : World) (ha : inB a = true) (hb : inB b = true) (ca : a < 0) (cb : b < 0) (a0 : a ≠ 0) :
    Calls Tryd.prog 53 #[.int .i64 a, .int .i64 b] w fun e w' => e = .returned (.tuple #[.int .i64 (resV (a * b)), .int .i64 (resE (a * b))]) ∧ w' = w := by
  have da : decide (a < 0) = true := by simp; omega
  have db : decide (b < 0) = true := by simp; omega
  have hx0 : ((a.natAbs : Int) != 0) = true := by simpa using a0
  have hx1 : (1 : Int) ≤ (a.natAbs : Int) := by omega
  have hg := gt_div_int a b 9223372036854775807 9223372036854775807 rfl a0
  have hm := mul_test_same a b (Or.inl ⟨ca, cb⟩)
  by_cases hp : a.natAbs * b.natAbs ≤ 9223372036854775807
  · rw [decide_eq_true hp] at hm
    have ht : ¬ 9223372036854775807 / (a.natAbs : Int) < (b.natAbs : Int) := by rw [hg]; omega
    rw [resV_in hm, resE_in hm]
    rw [inB_iff] at hm
    have m1 := hm.1
    have m2 := hm.2
    clear hm hp hg ca cb
    go_enter Tryd.func53, Tryd.ntmps53
    go_wp2_with (go_at_call 57; refine (msize_any _ _ (by assumption)).mono ?_; rintro e w' ⟨rfl, rfl⟩)
    go_ret2
    exact ⟨rfl, rfl⟩
  · rw [decide_eq_false hp] at hm
    have ht : 9223372036854775807 / (a.natAbs : Int) < (b.natAbs : Int) := by rw [hg]; omega
    rw [resV_out hm, resE_out hm]
    clear hm hp hg ca cb
    go_enter Tryd.func53, Tryd.ntmps53
    go_wp2_with (go_at_call 57; refine (msize_any _ _ (by assumption)).mono ?_; rintro e w' ⟨rfl, rfl⟩)
    go_ret2
    exact ⟨rfl, rfl⟩

theorem rmul_1 (a b : Int) (w : World) (ha : inB a = true) (hb : inB b = true) (ca : a < 0) (cb : ¬ b < 0) (a0 : a ≠ 0) :
    Calls Tryd.prog 53 #[.int .i64 a, .int .i64 b] w fun e w' => e = .returned (.tuple #[.int .i64 (resV (a * b)), .int .i64 (resE (a * b))]) ∧ w' = w := by
  have da : decide (a < 0) = true := by simp; omega
  have db : decide (b < 0) = false := by simp; omega
  have hx0 : ((a.natAbs : Int) != 0) = true := by simpa using a0
  have hx1 : (1 : Int) ≤ (a.natAbs : Int) := by omega
  have hg := gt_div_int a b 9223372036854775808 9223372036854775808 rfl a0
  have hm := mul_test_other a b (Or.inl ⟨ca, cb⟩)
  by_cases hp : a.natAbs * b.natAbs ≤ 9223372036854775808
  · rw [decide_eq_true hp] at hm
    have ht : ¬ 9223372036854775808 / (a.natAbs : Int) < (b.natAbs : Int) := by rw [hg]; omega
    rw [resV_in hm, resE_in hm]
    rw [inB_iff] at hm
    have m1 := hm.1
    have m2 := hm.2
    clear hm hp hg ca cb
    go_enter Tryd.func53, Tryd.ntmps53
    go_wp2_with (go_at_call 57; refine (msize_any _ _ (by assumption)).mono ?_; rintro e w' ⟨rfl, rfl⟩)
    go_ret2
    exact ⟨rfl, rfl⟩
  · rw [decide_eq_false hp] at hm
    have ht : 9223372036854775808 / (a.natAbs : Int) < (b.natAbs : Int) := by rw [hg]; omega
    rw [resV_out hm, resE_out hm]
    clear hm hp hg ca cb
    go_enter Tryd.func53, Tryd.ntmps53
    go_wp2_with (go_at_call 57; refine (msize_any _ _ (by assumption)).mono ?_; rintro e w' ⟨rfl, rfl⟩)
    go_ret2
    exact ⟨rfl, rfl⟩

theorem rmul_2 (a b : Int) (w : World) (ha : inB a = true) (hb : inB b = true) (ca : ¬ a < 0) (cb : b < 0) (a0 : a ≠ 0) :
    Calls Tryd.prog 53 #[.int .i64 a, .int .i64 b] w fun e w' => e = .returned (.tuple #[.int .i64 (resV (a * b)), .int .i64 (resE (a * b))]) ∧ w' = w := by
  have da : decide (a < 0) = false := by simp; omega
  have db : decide (b < 0) = true := by simp; omega
  have hx0 : ((a.natAbs : Int) != 0) = true := by simpa using a0
  have hx1 : (1 : Int) ≤ (a.natAbs : Int) := by omega
  have hg := gt_div_int a b 9223372036854775808 9223372036854775808 rfl a0
  have hm := mul_test_other a b (Or.inr ⟨ca, cb⟩)
  by_cases hp : a.natAbs * b.natAbs ≤ 9223372036854775808
  · rw [decide_eq_true hp] at hm
    have ht : ¬ 9223372036854775808 / (a.natAbs : Int) < (b.natAbs : Int) := by rw [hg]; omega
    rw [resV_in hm, resE_in hm]
    rw [inB_iff] at hm
    have m1 := hm.1
    have m2 := hm.2
    clear hm hp hg ca cb
    go_enter Tryd.func53, Tryd.ntmps53
    go_wp2_with (go_at_call 57; refine (msize_any _ _ (by assumption)).mono ?_; rintro e w' ⟨rfl, rfl⟩)
    go_ret2
    exact ⟨rfl, rfl⟩
  · rw [decide_eq_false hp] at hm
    have ht : 9223372036854775808 / (a.natAbs : Int) < (b.natAbs : Int) := by rw [hg]; omega
    rw [resV_out hm, resE_out hm]
    clear hm hp hg ca cb
    go_enter Tryd.func53, Tryd.ntmps53
    go_wp2_with (go_at_call 57; refine (msize_any _ _ (by assumption)).mono ?_; rintro e w' ⟨rfl, rfl⟩)
    go_ret2
    exact ⟨rfl, rfl⟩

theorem rmul_3 (a b : Int) (w : World) (ha : inB a = true) (hb : inB b = true) (ca : ¬ a < 0) (cb : ¬ b < 0) (a0 : a ≠ 0) :
    Calls Tryd.prog 53 #[.int .i64 a, .int .i64 b] w fun e w' => e = .returned (.tuple #[.int .i64 (resV (a * b)), .int .i64 (resE (a * b))]) ∧ w' = w := by
  have da : decide (a < 0) = false := by simp; omega
  have db : decide (b < 0) = false := by simp; omega
  have hx0 : ((a.natAbs : Int) != 0) = true := by simpa using a0
  have hx1 : (1 : Int) ≤ (a.natAbs : Int) := by omega
  have hg := gt_div_int a b 9223372036854775807 9223372036854775807 rfl a0
  have hm := mul_test_same a b (Or.inr ⟨ca, cb⟩)
  by_cases hp : a.natAbs * b.natAbs ≤ 9223372036854775807
  · rw [decide_eq_true hp] at hm
    have ht : ¬ 9223372036854775807 / (a.natAbs : Int) < (b.natAbs : Int) := by rw [hg]; omega
    rw [resV_in hm, resE_in hm]
    rw [inB_iff] at hm
    have m1 := hm.1
    have m2 := hm.2
    clear hm hp hg ca cb
    go_enter Tryd.func53, Tryd.ntmps53
    go_wp2_with (go_at_call 57; refine (msize_any _ _ (by assumption)).mono ?_; rintro e w' ⟨rfl, rfl⟩)
    go_ret2
    exact ⟨rfl, rfl⟩
  · rw [decide_eq_false hp] at hm
    have ht : 9223372036854775807 / (a.natAbs : Int) < (b.natAbs : Int) := by rw [hg]; omega
    rw [resV_out hm, resE_out hm]
    clear hm hp hg ca cb
    go_enter Tryd.func53, Tryd.ntmps53
    go_wp2_with (go_at_call 57; refine (msize_any _ _ (by assumption)).mono ?_; rintro e w' ⟨rfl, rfl⟩)
    go_ret2
    exact ⟨rfl, rfl⟩

theorem rmul_any (a b : Int) (w : World) (ha : inB a = true) (hb : inB b = true) :
    Calls Tryd.prog 53 #[.int .i64 a, .int .i64 b] w fun e w' => e = .returned (.tuple #[.int .i64 (resV (a * b)), .int .i64 (resE (a * b))]) ∧ w' = w := by
  by_cases a0 : a = 0
  · subst a0
    rw [resV_in (mul_nought b), resE_in (mul_nought b), Int.zero_mul]
    by_cases c : b < 0
    · go_enter Tryd.func53, Tryd.ntmps53
      go_wp2_with (go_at_call 57; refine (msize_any _ _ (by assumption)).mono ?_; rintro e w' ⟨rfl, rfl⟩)
      go_ret2
      exact ⟨rfl, rfl⟩
    · go_enter Tryd.func53, Tryd.ntmps53
      go_wp2_with (go_at_call 57; refine (msize_any _ _ (by assumption)).mono ?_; rintro e w' ⟨rfl, rfl⟩)
      go_ret2
      exact ⟨rfl, rfl⟩
  by_cases ca : a < 0 <;> by_cases cb : b < 0
  · exact rmul_0 a b w ha hb ca cb a0
  · exact rmul_1 a b w ha hb ca cb a0
  · exact rmul_2 a b w ha hb ca cb a0
  · exact rmul_3 a b w ha hb ca cb a0
end Go.Proofs.YtfglmfldpmpofaaDoor
