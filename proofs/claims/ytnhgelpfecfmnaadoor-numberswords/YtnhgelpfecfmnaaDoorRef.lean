/- Contracts of the reference's Add, Sub, Mul, Div and Mod: they answer as package num's do. -/
import Derived.Test.YtnhgelpfecfmnaaDoorOps
namespace Go.Proofs.YtnhgelpfecfmnaaDoor
open Go.RowKit

theorem ret_two {k j : IntKind} {a b c : Int} (h : a = b) : Ending.returned (.tuple #[.int k a, .int j c]) = .returned (.tuple #[.int k b, .int j c]) := by rw [h]

theorem radd_any (a b : Int) (w : World) (ha : inB a = true) (hb : inB b = true) :
    Calls Tryd.prog 11 #[.int .i64 a, .int .i64 b] w fun e w' => e = .returned (.tuple #[.int .i64 (resV (a + b)), .int .i64 (resE (a + b))]) ∧ w' = w := by
  rw [inB_iff] at ha hb
  obtain ⟨ha1, ha2⟩ := ha
  obtain ⟨hb1, hb2⟩ := hb
  by_cases c : 0 < b
  · by_cases c2 : 9223372036854775807 - b < a
    · have h : inB (a + b) = false := by rw [inB_not]; omega
      rw [resV_out h, resE_out h]; clear h
      go_enter Tryd.func11, Tryd.ntmps11
      go_wp2
      go_ret2
      exact ⟨rfl, rfl⟩
    · have h : inB (a + b) = true := by rw [inB_iff]; omega
      rw [resV_in h, resE_in h]; clear h
      go_enter Tryd.func11, Tryd.ntmps11
      go_wp2
      go_ret2
      exact ⟨rfl, rfl⟩
  · by_cases d : b < 0
    · by_cases c2 : a < -9223372036854775808 - b
      · have h : inB (a + b) = false := by rw [inB_not]; omega
        rw [resV_out h, resE_out h]; clear h
        go_enter Tryd.func11, Tryd.ntmps11
        go_wp2
        go_ret2
        exact ⟨rfl, rfl⟩
      · have h : inB (a + b) = true := by rw [inB_iff]; omega
        rw [resV_in h, resE_in h]; clear h
        go_enter Tryd.func11, Tryd.ntmps11
        go_wp2
        go_ret2
        exact ⟨rfl, rfl⟩
    · have h : inB (a + b) = true := by rw [inB_iff]; omega
      rw [resV_in h, resE_in h]; clear h
      go_enter Tryd.func11, Tryd.ntmps11
      go_wp2
      go_ret2
      exact ⟨rfl, rfl⟩

theorem rsub_any (a b : Int) (w : World) (ha : inB a = true) (hb : inB b = true) :
    Calls Tryd.prog 13 #[.int .i64 a, .int .i64 b] w fun e w' => e = .returned (.tuple #[.int .i64 (resV (a - b)), .int .i64 (resE (a - b))]) ∧ w' = w := by
  rw [inB_iff] at ha hb
  obtain ⟨ha1, ha2⟩ := ha
  obtain ⟨hb1, hb2⟩ := hb
  by_cases c : b < 0
  · by_cases c2 : 9223372036854775807 + b < a
    · have h : inB (a - b) = false := by rw [inB_not]; omega
      rw [resV_out h, resE_out h]; clear h
      go_enter Tryd.func13, Tryd.ntmps13
      go_wp2
      go_ret2
      exact ⟨rfl, rfl⟩
    · have h : inB (a - b) = true := by rw [inB_iff]; omega
      rw [resV_in h, resE_in h]; clear h
      go_enter Tryd.func13, Tryd.ntmps13
      go_wp2
      go_ret2
      exact ⟨rfl, rfl⟩
  · by_cases d : 0 < b
    · by_cases c2 : a < -9223372036854775808 + b
      · have h : inB (a - b) = false := by rw [inB_not]; omega
        rw [resV_out h, resE_out h]; clear h
        go_enter Tryd.func13, Tryd.ntmps13
        go_wp2
        go_ret2
        exact ⟨rfl, rfl⟩
      · have h : inB (a - b) = true := by rw [inB_iff]; omega
        rw [resV_in h, resE_in h]; clear h
        go_enter Tryd.func13, Tryd.ntmps13
        go_wp2
        go_ret2
        exact ⟨rfl, rfl⟩
    · have h : inB (a - b) = true := by rw [inB_iff]; omega
      rw [resV_in h, resE_in h]; clear h
      go_enter Tryd.func13, Tryd.ntmps13
      go_wp2
      go_ret2
      exact ⟨rfl, rfl⟩

/-- A number without its sign. -/
theorem size_any (v : Int) (w : World) (hv : inB v = true) :
    Calls Tryd.prog 26 #[.int .i64 v] w fun e w' => e = .returned (.int .u64 (v.natAbs : Int)) ∧ w' = w := by
  rw [inB_iff] at hv
  obtain ⟨hv1, hv2⟩ := hv
  by_cases c : v < 0
  · have e : (v.natAbs : Int) = -(v + 1) + 1 := by omega
    rw [e]; clear e
    go_enter Tryd.func26, Tryd.ntmps26
    go_wp2
    go_ret
    exact ⟨rfl, rfl⟩
  · have e : (v.natAbs : Int) = v := by omega
    rw [e]; clear e
    go_enter Tryd.func26, Tryd.ntmps26
    go_wp2
    go_ret
    exact ⟨rfl, rfl⟩

theorem rdiv_any (a b : Int) (w : World) (ha : inB a = true) :
    Calls Tryd.prog 17 #[.int .i64 a, .int .i64 b] w fun e w' => e = .returned (.tuple #[.int .i64 (divV a b), .int .i64 (divE a b)]) ∧ w' = w := by
  rw [inB_iff] at ha
  by_cases b0 : b = 0
  · subst b0
    rw [divV_no (Or.inl rfl), divE_no (Or.inl rfl)]
    go_enter Tryd.func17, Tryd.ntmps17
    go_wp2
    go_ret2
    exact ⟨rfl, rfl⟩
  have hb0 : (b == 0) = false := by simpa using b0
  cases hl : least1 a b
  · rw [divV_yes b0 hl, divE_yes b0 hl]
    have hq := tdiv_bd a b b0 ha.1 ha.2 (least1_no hl)
    have hn := least1_no hl
    have q1 := hq.1
    have q2 := hq.2
    clear hq ha hl
    by_cases h1 : a = -9223372036854775808
    · have h2 : (b == -1) = false := by simp; intro h2; exact hn ⟨h1, h2⟩
      subst h1
      have E : Hid (wrap64 (-Int.tdiv 9223372036854775808 b) = Int.tdiv (-9223372036854775808) b) := by rw [Hid, ← Int.neg_tdiv]; exact IntWalk.wrap64_in _ ⟨q1, q2⟩
      clear hn q1 q2
      go_enter Tryd.func17, Tryd.ntmps17
      go_wp2
      go_ret2
      exact ⟨ret_two E.out, rfl⟩
    · have h1 : (a == -9223372036854775808) = false := by simpa using h1
      clear hn
      go_enter Tryd.func17, Tryd.ntmps17
      go_wp2
      go_ret2
      exact ⟨rfl, rfl⟩
  · rw [divV_no (Or.inr hl), divE_no (Or.inr hl)]
    obtain ⟨rfl, rfl⟩ := least1_yes hl
    clear ha hl
    go_enter Tryd.func17, Tryd.ntmps17
    go_wp2
    go_ret2
    exact ⟨rfl, rfl⟩

theorem rmod_any (a b : Int) (w : World) (ha : inB a = true) :
    Calls Tryd.prog 19 #[.int .i64 a, .int .i64 b] w fun e w' => e = .returned (.tuple #[.int .i64 (modV a b), .int .i64 (modE b)]) ∧ w' = w := by
  rw [inB_iff] at ha
  by_cases b0 : b = 0
  · subst b0
    rw [modV_no, modE_no]
    go_enter Tryd.func19, Tryd.ntmps19
    go_wp2
    go_ret2
    exact ⟨rfl, rfl⟩
  have hb0 : (b == 0) = false := by simpa using b0
  rw [modV_yes b0, modE_yes b0]
  by_cases b1 : b = -1
  · subst b1
    have e : a.tmod (-1) = 0 := by rw [Int.tmod_neg, Int.tmod_one]
    rw [e]; clear e
    go_enter Tryd.func19, Tryd.ntmps19
    go_wp2
    go_ret2
    exact ⟨rfl, rfl⟩
  have hb1 : (b == -1) = false := by simpa using b1
  have hq := tmod_bd a b ha.1 ha.2
  have q1 := hq.1
  have q2 := hq.2
  clear hq ha
  go_enter Tryd.func19, Tryd.ntmps19
  go_wp2
  go_ret2
  exact ⟨rfl, rfl⟩

/-- The two tests of the reference's Mul, and what they say of the product. -/
theorem mul_test_same (a b : Int) (hs : (a < 0 ∧ b < 0) ∨ (¬ a < 0 ∧ ¬ b < 0)) : inB (a * b) = decide (a.natAbs * b.natAbs ≤ 9223372036854775807) := by
  have h := mul_sign a b
  rw [if_neg (by rcases hs with ⟨h1, h2⟩ | ⟨h1, h2⟩ <;> simp [h1, h2])] at h
  unfold inB
  rw [decide_eq_decide]
  omega
theorem mul_test_other (a b : Int) (hs : (a < 0 ∧ ¬ b < 0) ∨ (¬ a < 0 ∧ b < 0)) : inB (a * b) = decide (a.natAbs * b.natAbs ≤ 9223372036854775808) := by
  have h := mul_sign a b
  rw [if_pos (by rcases hs with ⟨h1, h2⟩ | ⟨h1, h2⟩ <;> simp [h1, h2])] at h
  unfold inB
  rw [decide_eq_decide]
  omega
theorem mul_nought (b : Int) : inB (0 * b) = true := by rw [Int.zero_mul]; decide
/-- The test on the quotient, as the walk writes it. -/
theorem gt_div_int (a b T : Int) (top : Nat) (hT : T = (top : Int)) (ha : a ≠ 0) : (T / (a.natAbs : Int) < (b.natAbs : Int)) ↔ ¬ a.natAbs * b.natAbs ≤ top := by
  rw [hT]
  have h := gt_div a.natAbs b.natAbs top (by omega)
  rw [show ((top : Int) / (a.natAbs : Int)) = ((top / a.natAbs : Nat) : Int) from rfl, Int.ofNat_lt, h]
  omega

theorem rmul_0 (a b : Int) (w : World) (ha : inB a = true) (hb : inB b = true) (ca : a < 0) (cb : b < 0) (a0 : a ≠ 0) :
    Calls Tryd.prog 15 #[.int .i64 a, .int .i64 b] w fun e w' => e = .returned (.tuple #[.int .i64 (resV (a * b)), .int .i64 (resE (a * b))]) ∧ w' = w := by
  have da : decide (a < 0) = true := by simp; omega
  have db : decide (b < 0) = true := by simp; omega
  have hx0 : ((a.natAbs : Int) != 0) = true := by simpa using a0
  have hx1 : (1 : Int) ≤ (a.natAbs : Int) := by omega
  have hg := gt_div_int a b 9223372036854775807 9223372036854775807 rfl a0
  have hm := mul_test_same a b (Or.inl ⟨ca, cb⟩)
  by_cases hp : a.natAbs * b.natAbs ≤ 9223372036854775807
  · rw [decide_eq_true hp] at hm
    have ht : ¬ 9223372036854775807 / (a.natAbs : Int) < (b.natAbs : Int) := by rw [hg]; omega
    rw [resV_in hm, resE_in hm]
    rw [inB_iff] at hm
    have m1 := hm.1
    have m2 := hm.2
    clear hm hp hg ca cb
    go_enter Tryd.func15, Tryd.ntmps15
    go_wp2_with (go_at_call 26; refine (size_any _ _ (by assumption)).mono ?_; rintro e w' ⟨rfl, rfl⟩)
    go_ret2
    exact ⟨rfl, rfl⟩
  · rw [decide_eq_false hp] at hm
    have ht : 9223372036854775807 / (a.natAbs : Int) < (b.natAbs : Int) := by rw [hg]; omega
    rw [resV_out hm, resE_out hm]
    clear hm hp hg ca cb
    go_enter Tryd.func15, Tryd.ntmps15
    go_wp2_with (go_at_call 26; refine (size_any _ _ (by assumption)).mono ?_; rintro e w' ⟨rfl, rfl⟩)
    go_ret2
    exact ⟨rfl, rfl⟩

theorem rmul_1 (a b : Int) (w : World) (ha : inB a = true) (hb : inB b = true) (ca : a < 0) (cb : ¬ b < 0) (a0 : a ≠ 0) :
    Calls Tryd.prog 15 #[.int .i64 a, .int .i64 b] w fun e w' => e = .returned (.tuple #[.int .i64 (resV (a * b)), .int .i64 (resE (a * b))]) ∧ w' = w := by
  have da : decide (a < 0) = true := by simp; omega
  have db : decide (b < 0) = false := by simp; omega
  have hx0 : ((a.natAbs : Int) != 0) = true := by simpa using a0
  have hx1 : (1 : Int) ≤ (a.natAbs : Int) := by omega
  have hg := gt_div_int a b 9223372036854775808 9223372036854775808 rfl a0
  have hm := mul_test_other a b (Or.inl ⟨ca, cb⟩)
  by_cases hp : a.natAbs * b.natAbs ≤ 9223372036854775808
  · rw [decide_eq_true hp] at hm
    have ht : ¬ 9223372036854775808 / (a.natAbs : Int) < (b.natAbs : Int) := by rw [hg]; omega
    rw [resV_in hm, resE_in hm]
    rw [inB_iff] at hm
    have m1 := hm.1
    have m2 := hm.2
    clear hm hp hg ca cb
    go_enter Tryd.func15, Tryd.ntmps15
    go_wp2_with (go_at_call 26; refine (size_any _ _ (by assumption)).mono ?_; rintro e w' ⟨rfl, rfl⟩)
    go_ret2
    exact ⟨rfl, rfl⟩
  · rw [decide_eq_false hp] at hm
    have ht : 9223372036854775808 / (a.natAbs : Int) < (b.natAbs : Int) := by rw [hg]; omega
    rw [resV_out hm, resE_out hm]
    clear hm hp hg ca cb
    go_enter Tryd.func15, Tryd.ntmps15
    go_wp2_with (go_at_call 26; refine (size_any _ _ (by assumption)).mono ?_; rintro e w' ⟨rfl, rfl⟩)
    go_ret2
    exact ⟨rfl, rfl⟩

theorem rmul_2 (a b : Int) (w : World) (ha : inB a = true) (hb : inB b = true) (ca : ¬ a < 0) (cb : b < 0) (a0 : a ≠ 0) :
    Calls Tryd.prog 15 #[.int .i64 a, .int .i64 b] w fun e w' => e = .returned (.tuple #[.int .i64 (resV (a * b)), .int .i64 (resE (a * b))]) ∧ w' = w := by
  have da : decide (a < 0) = false := by simp; omega
  have db : decide (b < 0) = true := by simp; omega
  have hx0 : ((a.natAbs : Int) != 0) = true := by simpa using a0
  have hx1 : (1 : Int) ≤ (a.natAbs : Int) := by omega
  have hg := gt_div_int a b 9223372036854775808 9223372036854775808 rfl a0
  have hm := mul_test_other a b (Or.inr ⟨ca, cb⟩)
  by_cases hp : a.natAbs * b.natAbs ≤ 9223372036854775808
  · rw [decide_eq_true hp] at hm
    have ht : ¬ 9223372036854775808 / (a.natAbs : Int) < (b.natAbs : Int) := by rw [hg]; omega
    rw [resV_in hm, resE_in hm]
    rw [inB_iff] at hm
    have m1 := hm.1
    have m2 := hm.2
    clear hm hp hg ca cb
    go_enter Tryd.func15, Tryd.ntmps15
    go_wp2_with (go_at_call 26; refine (size_any _ _ (by assumption)).mono ?_; rintro e w' ⟨rfl, rfl⟩)
    go_ret2
    exact ⟨rfl, rfl⟩
  · rw [decide_eq_false hp] at hm
    have ht : 9223372036854775808 / (a.natAbs : Int) < (b.natAbs : Int) := by rw [hg]; omega
    rw [resV_out hm, resE_out hm]
    clear hm hp hg ca cb
    go_enter Tryd.func15, Tryd.ntmps15
    go_wp2_with (go_at_call 26; refine (size_any _ _ (by assumption)).mono ?_; rintro e w' ⟨rfl, rfl⟩)
    go_ret2
    exact ⟨rfl, rfl⟩

theorem rmul_3 (a b : Int) (w : World) (ha : inB a = true) (hb : inB b = true) (ca : ¬ a < 0) (cb : ¬ b < 0) (a0 : a ≠ 0) :
    Calls Tryd.prog 15 #[.int .i64 a, .int .i64 b] w fun e w' => e = .returned (.tuple #[.int .i64 (resV (a * b)), .int .i64 (resE (a * b))]) ∧ w' = w := by
  have da : decide (a < 0) = false := by simp; omega
  have db : decide (b < 0) = false := by simp; omega
  have hx0 : ((a.natAbs : Int) != 0) = true := by simpa using a0
  have hx1 : (1 : Int) ≤ (a.natAbs : Int) := by omega
  have hg := gt_div_int a b 9223372036854775807 9223372036854775807 rfl a0
  have hm := mul_test_same a b (Or.inr ⟨ca, cb⟩)
  by_cases hp : a.natAbs * b.natAbs ≤ 9223372036854775807
  · rw [decide_eq_true hp] at hm
    have ht : ¬ 9223372036854775807 / (a.natAbs : Int) < (b.natAbs : Int) := by rw [hg]; omega
    rw [resV_in hm, resE_in hm]
    rw [inB_iff] at hm
    have m1 := hm.1
    have m2 := hm.2
    clear hm hp hg ca cb
    go_enter Tryd.func15, Tryd.ntmps15
    go_wp2_with (go_at_call 26; refine (size_any _ _ (by assumption)).mono ?_; rintro e w' ⟨rfl, rfl⟩)
    go_ret2
    exact ⟨rfl, rfl⟩
  · rw [decide_eq_false hp] at hm
    have ht : 9223372036854775807 / (a.natAbs : Int) < (b.natAbs : Int) := by rw [hg]; omega
    rw [resV_out hm, resE_out hm]
    clear hm hp hg ca cb
    go_enter Tryd.func15, Tryd.ntmps15
    go_wp2_with (go_at_call 26; refine (size_any _ _ (by assumption)).mono ?_; rintro e w' ⟨rfl, rfl⟩)
    go_ret2
    exact ⟨rfl, rfl⟩

theorem rmul_any (a b : Int) (w : World) (ha : inB a = true) (hb : inB b = true) :
    Calls Tryd.prog 15 #[.int .i64 a, .int .i64 b] w fun e w' => e = .returned (.tuple #[.int .i64 (resV (a * b)), .int .i64 (resE (a * b))]) ∧ w' = w := by
  by_cases a0 : a = 0
  · subst a0
    rw [resV_in (mul_nought b), resE_in (mul_nought b), Int.zero_mul]
    by_cases c : b < 0
    · go_enter Tryd.func15, Tryd.ntmps15
      go_wp2_with (go_at_call 26; refine (size_any _ _ (by assumption)).mono ?_; rintro e w' ⟨rfl, rfl⟩)
      go_ret2
      exact ⟨rfl, rfl⟩
    · go_enter Tryd.func15, Tryd.ntmps15
      go_wp2_with (go_at_call 26; refine (size_any _ _ (by assumption)).mono ?_; rintro e w' ⟨rfl, rfl⟩)
      go_ret2
      exact ⟨rfl, rfl⟩
  by_cases ca : a < 0 <;> by_cases cb : b < 0
  · exact rmul_0 a b w ha hb ca cb a0
  · exact rmul_1 a b w ha hb ca cb a0
  · exact rmul_2 a b w ha hb ca cb a0
  · exact rmul_3 a b w ha hb ca cb a0
end Go.Proofs.YtnhgelpfecfmnaaDoor
