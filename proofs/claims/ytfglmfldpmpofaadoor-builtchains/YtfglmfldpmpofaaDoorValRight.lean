/- Contracts of package val's Right and of what it calls, and of the reference's. -/
import Derived.Test.YtfglmfldpmpofaaDoorValOf
import Derived.Test.YtfglmfldpmpofaaDoorRefShape
import Derived.Test.YtfglmfldpmpofaaDoorNumWords
namespace Go.Proofs.YtfglmfldpmpofaaDoor
open Go.RowKit

/-- The switch over signs, by what the byte is. -/
theorem fits_any (c : UInt8) (w : World) :
    Calls Tryd.prog 74 #[.int .u8 (c.toNat : Int)] w fun e w' => e = .returned (.bool (signB c)) ∧ w' = w := by
  have hc : (c.toNat : Int) ≤ 255 := by have := c.toNat_lt; omega
  have key : ∀ (n : Int) (b : Bool), (c.toNat : Int) = n → signB c = b → (Calls Tryd.prog 74 #[.int .u8 n] w fun e w' => e = .returned (.bool b) ∧ w' = w) →
      Calls Tryd.prog 74 #[.int .u8 (c.toNat : Int)] w fun e w' => e = .returned (.bool (signB c)) ∧ w' = w := by
    intro n b h1 h2 h3; rw [h1, h2]; exact h3
  by_cases c1 : c.toNat = 40
  · refine key 40 false (by omega) (by unfold signB; rw [c1]; decide) ?_
    go_enter Tryd.func74, Tryd.ntmps74
    go_wp2
    go_ret
    exact ⟨rfl, rfl⟩
  by_cases c2 : c.toNat = 41
  · refine key 41 false (by omega) (by unfold signB; rw [c2]; decide) ?_
    go_enter Tryd.func74, Tryd.ntmps74
    go_wp2
    go_ret
    exact ⟨rfl, rfl⟩
  by_cases c3 : c.toNat = 34
  · refine key 34 false (by omega) (by unfold signB; rw [c3]; decide) ?_
    go_enter Tryd.func74, Tryd.ntmps74
    go_wp2
    go_ret
    exact ⟨rfl, rfl⟩
  by_cases c4 : c.toNat = 59
  · refine key 59 false (by omega) (by unfold signB; rw [c4]; decide) ?_
    go_enter Tryd.func74, Tryd.ntmps74
    go_wp2
    go_ret
    exact ⟨rfl, rfl⟩
  by_cases c5 : c.toNat = 63
  · refine key 63 false (by omega) (by unfold signB; rw [c5]; decide) ?_
    go_enter Tryd.func74, Tryd.ntmps74
    go_wp2
    go_ret
    exact ⟨rfl, rfl⟩
  by_cases c6 : c.toNat = 126
  · refine key 126 false (by omega) (by unfold signB; rw [c6]; decide) ?_
    go_enter Tryd.func74, Tryd.ntmps74
    go_wp2
    go_ret
    exact ⟨rfl, rfl⟩
  have HS : Hid (signB c = decide (33 ≤ (c.toNat : Int) ∧ (c.toNat : Int) ≤ 126)) := by
    unfold Hid signB; rw [decide_eq_decide]; omega
  have e1 : ((c.toNat : Int) == 40) = false := by simp; omega
  have e2 : ((c.toNat : Int) == 41) = false := by simp; omega
  have e3 : ((c.toNat : Int) == 34) = false := by simp; omega
  have e4 : ((c.toNat : Int) == 59) = false := by simp; omega
  have e5 : ((c.toNat : Int) == 63) = false := by simp; omega
  have e6 : ((c.toNat : Int) == 126) = false := by simp; omega
  clear c1 c2 c3 c4 c5 c6 key
  go_enter Tryd.func74, Tryd.ntmps74
  go_wp2
  all_goals
    go_ret
    exact ⟨ret_b (by rw [HS.out]; simp [*] <;> omega), rfl⟩

theorem sign_any (c : UInt8) (w : World) :
    Calls Tryd.prog 26 #[.int .u8 (c.toNat : Int)] w fun e w' => e = .returned (.bool (signB c)) ∧ w' = w := by
  have HS : Hid (signB c = decide (33 ≤ (c.toNat : Int) ∧ (c.toNat : Int) ≤ 126 ∧ (c.toNat : Int) ≠ 40 ∧ (c.toNat : Int) ≠ 41 ∧ (c.toNat : Int) ≠ 34 ∧ (c.toNat : Int) ≠ 59 ∧ (c.toNat : Int) ≠ 63 ∧ (c.toNat : Int) ≠ 126)) := by
    unfold Hid signB; rw [decide_eq_decide]; omega
  go_enter Tryd.func26, Tryd.ntmps26
  go_wp2
  all_goals
    go_ret
    refine ⟨ret_b ?_, rfl⟩
    rw [HS.out]
    clear HS
    rw [Bool.eq_iff_iff]
    simp only [Bool.and_eq_true, bne_iff_ne, ne_eq, decide_eq_true_iff, Bool.false_eq_true, false_iff]
    omega

theorem isnum_any (s : ByteArray) (w : World) (hs : s.size ≤ 100000) :
    Calls Tryd.prog 75 #[.string s] w fun e w' => e = .returned (.bool (shapeL s.data.toList)) ∧ SameW w w' := by
  have hp : ∀ (v e : Int), parV s.data.toList = v → parE s.data.toList = e → ∀ w : World, Calls Tryd.prog 80 #[.string s] w fun e' w' => e' = .returned (.tuple #[.int .i64 v, .int .i64 e]) ∧ SameW w w' := by
    intro v e h1 h2 w; rw [← h1, ← h2]; exact parse_any s w hs
  cases hsh : shapeL s.data.toList
  · have he : parE s.data.toList = 2 := by unfold parE; rw [hsh, if_neg (by decide)]
    go_enter Tryd.func75, Tryd.ntmps75
    go_wp2_with fail
    refine (hp _ _ rfl he _).mono ?_
    rintro e w1 ⟨rfl, hq⟩
    go_wp2
    go_ret
    exact ⟨rfl, hq⟩
  · obtain ⟨e, he, hne⟩ : ∃ e, parE s.data.toList = e ∧ (e == 2) = false := by
      refine ⟨_, rfl, ?_⟩
      unfold parE; rw [hsh, if_pos rfl]; unfold resE; split <;> rfl
    go_enter Tryd.func75, Tryd.ntmps75
    go_wp2_with fail
    refine (hp _ _ rfl he _).mono ?_
    rintro e w1 ⟨rfl, hq⟩
    clear he hp hsh
    go_wp2
    go_ret
    exact ⟨ret_b (by rw [bne, hne]; rfl), hq⟩
end Go.Proofs.YtfglmfldpmpofaaDoor
