/- The contracts of sym.fits and sym.Good, of the reference's letter, Part and Good. -/
import Derived.Test.YtlnkeebfaninfaaGreatDoorSymMath
import Derived.Test.YtlnkeebfaninfaaGreatDoorNumParse
import Derived.WalkLawsBesides
import Derived.WalkSpells
import Derived.Outline
namespace Go.Proofs.YtlnkeebfaninfaaGreatDoor
open Go.RowKit

theorem fitF_t {c : Int} (h : (97 ≤ c ∧ c ≤ 122) ∨ (65 ≤ c ∧ c ≤ 90) ∨ c = 45 ∨ c = 95 ∨ (48 ≤ c ∧ c ≤ 57)) : true = fitB c false := by
  rw [fitB_behind]; simp [partI, ltrI, othI]; omega
theorem fitF_f {c : Int} (h : ¬ ((97 ≤ c ∧ c ≤ 122) ∨ (65 ≤ c ∧ c ≤ 90) ∨ c = 45 ∨ c = 95 ∨ (48 ≤ c ∧ c ≤ 57))) : false = fitB c false := by
  rw [fitB_behind]; simp [partI, ltrI, othI]; omega
theorem fitT_t {c : Int} (h : (97 ≤ c ∧ c ≤ 122) ∨ (65 ≤ c ∧ c ≤ 90)) : true = fitB c true := by
  rw [fitB_first]; simp [ltrI]; omega
theorem fitT_f {c : Int} (h : ¬ ((97 ≤ c ∧ c ≤ 122) ∨ (65 ≤ c ∧ c ≤ 90))) : false = fitB c true := by
  rw [fitB_first]; simp [ltrI]; omega

set_option maxHeartbeats 1000000 in
theorem sfits_any (c : Int) (f : Bool) (w : World) :
    Calls Tryz.prog 75 #[.int .u8 c, .bool f] w fun e w' => e = .returned (.bool (fitB c f)) ∧ w' = w := by
  by_cases h1 : (97 ≤ c ∧ c ≤ 122)
  · cases f
    all_goals
      go_enter Tryz.func75, Tryz.ntmps75
      go_wp2
      all_goals
        go_ret
        first
          | exact ⟨ret_bool (fitF_t (by omega)), rfl⟩
          | exact ⟨ret_bool (fitT_t (by omega)), rfl⟩
  · by_cases h2 : (65 ≤ c ∧ c ≤ 90)
    · cases f
      all_goals
        go_enter Tryz.func75, Tryz.ntmps75
        go_wp2
        all_goals
          go_ret
          first
            | exact ⟨ret_bool (fitF_t (by omega)), rfl⟩
            | exact ⟨ret_bool (fitT_t (by omega)), rfl⟩
    · cases f
      all_goals
        go_enter Tryz.func75, Tryz.ntmps75
        go_wp2
        all_goals
          go_ret
          first
            | exact ⟨ret_bool (fitF_t (by simp at *; omega)), rfl⟩
            | exact ⟨ret_bool (fitT_t (by simp at *; omega)), rfl⟩
            | exact ⟨ret_bool (fitF_f (by simp at *; omega)), rfl⟩
            | exact ⟨ret_bool (fitT_f (by simp at *; omega)), rfl⟩

set_option maxHeartbeats 1000000 in
theorem letter_any (c : Int) (w : World) :
    Calls Tryz.prog 67 #[.int .u8 c] w fun e w' => e = .returned (.bool (ltrI c)) ∧ w' = w := by
  by_cases h1 : 97 ≤ c <;> by_cases h2 : c ≤ 122 <;> by_cases h3 : 65 ≤ c <;> by_cases h4 : c ≤ 90
  all_goals first | (exfalso; omega) | skip
  all_goals
    go_enter Tryz.func67, Tryz.ntmps67
    go_wp2
    all_goals
      go_ret
      exact ⟨ret_bool (by simp [ltrI]; omega), rfl⟩

theorem partI_t {c : Int} (h : ltrI c = true ∨ c = 45 ∨ c = 95 ∨ (48 ≤ c ∧ c ≤ 57)) : true = partI c := by
  simp [partI, othI]; rcases h with h | h
  · exact .inl h
  · exact .inr h
theorem partI_f {c : Int} (hl : ltrI c = false) (h : ¬ (c = 45 ∨ c = 95 ∨ (48 ≤ c ∧ c ≤ 57))) : false = partI c := by
  simp [partI, othI, hl]; omega

set_option maxHeartbeats 1000000 in
theorem part_any (c : Int) (w : World) :
    Calls Tryz.prog 49 #[.int .u8 c] w fun e w' => e = .returned (.bool (partI c)) ∧ w' = w := by
  cases hl : ltrI c
  · by_cases h1 : 48 ≤ c <;> by_cases h2 : c ≤ 57 <;> by_cases h3 : c = 45 <;> by_cases h4 : c = 95
    all_goals first | (exfalso; omega) | skip
    all_goals
      have d3 : (c == 45) = decide (c = 45) := by rfl
      have d4 : (c == 95) = decide (c = 95) := by rfl
      simp only [h3, h4, decide_true, decide_false] at d3 d4
      first | have d1 : decide (48 ≤ c) = true := decide_eq_true h1 | have d1 : decide (48 ≤ c) = false := decide_eq_false h1
      first | have d2 : decide (c ≤ 57) = true := decide_eq_true h2 | have d2 : decide (c ≤ 57) = false := decide_eq_false h2
      go_enter Tryz.func49, Tryz.ntmps49
      go_wp2_with (go_at_call 67; refine (letter_any _ _).mono ?_; rintro e w1 ⟨rfl, rfl⟩)
      all_goals
        go_ret
        first
          | exact ⟨ret_bool (partI_t (.inr (by omega))), rfl⟩
          | exact ⟨ret_bool (partI_f hl (by omega)), rfl⟩
  · go_enter Tryz.func49, Tryz.ntmps49
    go_wp2_with (go_at_call 67; refine (letter_any _ _).mono ?_; rintro e w1 ⟨rfl, rfl⟩)
    go_ret
    exact ⟨ret_bool (partI_t (.inl hl)), rfl⟩

set_option maxHeartbeats 1000000 in
theorem good_any (s : ByteArray) (w : World) (hs : s.size ≤ maxLen) :
    Calls Tryz.prog 62 #[.string s] w fun e w' => e = .returned (.bool (goodB s)) ∧ w' = w := by
  unfold maxLen at hs
  by_cases h0 : s.size = 0
  · have e0 : s = ⟨#[]⟩ := by
      apply ByteArray.ext
      exact Array.eq_empty_of_size_eq_zero h0
    subst e0
    go_enter Tryz.func62, Tryz.ntmps62
    go_wp2
    go_ret
    exact ⟨rfl, rfl⟩
  · have d0 : s.toList.isEmpty = false := by
      rw [ByteArray.toList_eq]
      cases e : s.data.toList with
      | nil => exact (h0 (by rw [← size_list, e]; rfl)).elim
      | cons a r => rfl
    by_cases h40 : 40 < s.size
    · have d1 : decide ((40 : Int) < (s.size : Int)) = true := by simp; omega
      go_enter Tryz.func62, Tryz.ntmps62
      go_wp2
      go_ret
      exact ⟨ret_bool (goodB_long s h40).symm, rfl⟩
    · have d1 : decide ((40 : Int) < (s.size : Int)) = false := by simp; omega
      have HG : Hid (goodB s = okL s.data.toList) := goodB_ok s (by omega) (by omega)
      go_enter Tryz.func62, Tryz.ntmps62
      go_wp2
      go_loop [13] (fun i => ∃ k : Nat, k ≤ s.size ∧ i = .int .i64 k ∧ Hid (okL (s.data.toList.take k) = true)) (fun i => s.size - (intOf i).toNat)
      case atStart => exact ⟨0, Nat.zero_le _, rfl, rfl⟩
      case round =>
        obtain ⟨k, hk, rfl, HP⟩ := hrel
        by_cases hlt : k < s.size
        · have HS : Hid (okL (s.data.toList.take (k + 1)) = fitB s[k].toNat (k == 0)) := by
            have := okL_step s k hlt
            rw [HP.out, Bool.true_and] at this
            exact this
          have hk0 : ((k : Int) == 0) = (k == 0) := by
            rw [Bool.eq_iff_iff]; simp
          cases hf : fitB s[k].toNat (k == 0)
          · have HN : Hid (okL s.data.toList = false) := okL_of_take_false _ (k + 1) (by rw [HS.out, hf])
            have hf' : fitB s[k].toNat ((k : Int) == 0) = false := by rw [hk0]; exact hf
            clear HS HP hk0 hf
            go_wp2_with (go_at_call 75; refine (sfits_any _ _ _).mono ?_; rintro e w1 ⟨rfl, rfl⟩)
            go_ret
            exact ⟨ret_bool (by rw [HG.out, HN.out]), rfl⟩
          · have HN : Hid (okL (s.data.toList.take (k + 1)) = true) := by rw [Hid, HS.out, hf]
            have hf' : fitB s[k].toNat ((k : Int) == 0) = true := by rw [hk0]; exact hf
            clear HS HP hk0 hf
            go_wp2_with (go_at_call 75; refine (sfits_any _ _ _).mono ?_; rintro e w1 ⟨rfl, rfl⟩)
            go_round
            case rel => exact ⟨k + 1, by omega, by go_num, HN⟩
            case measure => simp [intOf]; omega
        · have HN : Hid (okL s.data.toList = true) := by
            have e : s.data.toList.take k = s.data.toList := List.take_of_length_le (by rw [size_list]; omega)
            have := HP.out
            rw [e] at this
            exact this
          clear HP
          go_wp2
          go_ret
          exact ⟨ret_bool (by rw [HG.out, HN.out]), rfl⟩

set_option maxHeartbeats 1000000 in
theorem rgood_any (s : ByteArray) (w : World) (hs : s.size ≤ maxLen) :
    Calls Tryz.prog 50 #[.string s] w fun e w' => e = .returned (.bool (goodB s)) ∧ w' = w := by
  unfold maxLen at hs
  by_cases h0 : s.size = 0
  · have e0 : s = ⟨#[]⟩ := by
      apply ByteArray.ext
      exact Array.eq_empty_of_size_eq_zero h0
    subst e0
    go_enter Tryz.func50, Tryz.ntmps50
    go_wp2
    go_ret
    exact ⟨rfl, rfl⟩
  · have d0 : ((s.size : Int) == 0) = false := beq_eq_false_iff_ne.2 (by omega)
    by_cases h40 : 40 < s.size
    · have d1 : decide ((40 : Int) < (s.size : Int)) = true := by simp; omega
      go_enter Tryz.func50, Tryz.ntmps50
      go_wp2
      go_ret
      exact ⟨ret_bool (goodB_long s h40).symm, rfl⟩
    · have d1 : decide ((40 : Int) < (s.size : Int)) = false := by simp; omega
      have hp : 0 < s.size := by omega
      have hpi : (0 : Int) < (s.size : Int) := by omega
      cases hl : ltrI s[0].toNat
      · have HG : Hid (goodB s = false) := goodB_no s hp (by omega) hl
        go_enter Tryz.func50, Tryz.ntmps50
        go_wp2_with (go_at_call 67; refine (letter_any _ _).mono ?_; rintro e w1 ⟨rfl, rfl⟩)
        go_ret
        exact ⟨ret_bool HG.out.symm, rfl⟩
      · have HG : Hid (goodB s = s.data.toList.all partB) := goodB_all s hp (by omega) hl
        go_enter Tryz.func50, Tryz.ntmps50
        go_wp2_with (go_at_call 67; refine (letter_any _ _).mono ?_; rintro e w1 ⟨rfl, rfl⟩)
        go_loop [3] (fun i => ∃ k : Nat, k ≤ s.size ∧ i = .int .i64 k ∧ Hid ((s.data.toList.take k).all partB = true)) (fun i => s.size - (intOf i).toNat)
        case atStart => exact ⟨0, Nat.zero_le _, rfl, rfl⟩
        case round =>
          obtain ⟨k, hk, rfl, HP⟩ := hrel
          by_cases hlt : k < s.size
          · have HS : Hid ((s.data.toList.take (k + 1)).all partB = partI s[k].toNat) := by
              have := all_step s k hlt
              rw [HP.out, Bool.true_and] at this
              exact this
            cases hf : partI s[k].toNat
            · have HN : Hid (s.data.toList.all partB = false) := all_of_take_false _ (k + 1) (by rw [HS.out, hf])
              clear HS HP
              go_wp2_with (go_at_call 49; refine (part_any _ _).mono ?_; rintro e w1 ⟨rfl, rfl⟩)
              go_ret
              exact ⟨ret_bool (by rw [HG.out, HN.out]), rfl⟩
            · have HN : Hid ((s.data.toList.take (k + 1)).all partB = true) := by rw [Hid, HS.out, hf]
              clear HS HP
              go_wp2_with (go_at_call 49; refine (part_any _ _).mono ?_; rintro e w1 ⟨rfl, rfl⟩)
              go_round
              case rel => exact ⟨k + 1, by omega, by go_num, HN⟩
              case measure => simp [intOf]; omega
          · have HN : Hid (s.data.toList.all partB = true) := by
              have e : s.data.toList.take k = s.data.toList := List.take_of_length_le (by rw [size_list]; omega)
              have := HP.out
              rw [e] at this
              exact this
            clear HP
            go_wp2
            go_ret
            exact ⟨ret_bool (by rw [HG.out, HN.out]), rfl⟩
end Go.Proofs.YtlnkeebfaninfaaGreatDoor
