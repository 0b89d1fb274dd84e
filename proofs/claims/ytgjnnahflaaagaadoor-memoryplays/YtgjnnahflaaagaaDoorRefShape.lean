/- The contract of the reference's Shape: any text of at most 100,000 bytes. -/
import Derived.Test.YtgjnnahflaaagaaDoorNumPart
namespace Go.Proofs.YtgjnnahflaaagaaDoor
open Go.RowKit

theorem shape_empty (w : World) : Calls Tryd.prog 23 #[.string ⟨#[]⟩] w fun e w' => e = .returned (.bool false) ∧ w' = w := by
  go_enter Tryd.func23, Tryd.ntmps23
  go_wp2
  refine wp_loop_rounds 1 ?_
  rw [rounds_succ]
  go_wp2
  go_ret
  exact ⟨rfl, rfl⟩

set_option maxHeartbeats 1000000 in
theorem shape_plus (s : ByteArray) (w : World) (hs : s.size ≤ 300000) (h1 : 0 < s.size) (h0 : s[0].toNat = 43) (ad : Bool) (HB : Hid (allD (s.data.toList.drop 1) = ad)) :
    Calls Tryd.prog 23 #[.string s] w fun e w' => e = .returned (.bool (ad && decide ((1 : Int) < (s.size : Int)))) ∧ w' = w := by
  have hi : (0 : Int) < (s.size : Int) := by omega
  have d1 : ((s[0].toNat : Int) == 43) = true := by simp; omega
  clear h0
  go_enter Tryd.func23, Tryd.ntmps23
  go_wp2
  go_loop [4] (fun i => ∃ k : Nat, 1 ≤ k ∧ k ≤ s.size ∧ i = .int .i64 k ∧ Hid (allD (part s.data.toList 1 k) = true)) (fun i => s.size - (intOf i).toNat)
  case atStart => exact ⟨1, Nat.le_refl _, by omega, rfl, by rw [Hid, part_short _ _ _ (Nat.le_refl _)]; rfl⟩
  case round =>
    obtain ⟨k, hkF, hk, rfl, HP⟩ := hrel
    by_cases hlt : k < s.size
    · have hsn : allD (part s.data.toList 1 (k + 1)) = digB s[k] := by rw [part_snoc s 1 k hkF hlt, allD_snoc, HP.out, Bool.true_and]
      have HS : Hid (allD (part s.data.toList 1 (k + 1)) = digB s[k]) := hsn
      clear hsn HP
      by_cases c1 : (s[k].toNat : Int) < 48
      · have HF : Hid (allD (s.data.toList.drop 1) = false) := allD_no (k := k + 1 - 1) (by rw [show List.take (k + 1 - 1) (List.drop 1 s.data.toList) = part s.data.toList 1 (k + 1) from rfl, HS.out]; exact digB_lo c1)
        clear HS
        go_wp2
        go_ret
        exact ⟨ret_bool (by rw [← HB.out, HF.out]; try rfl), rfl⟩
      · by_cases c2 : 57 < (s[k].toNat : Int)
        · have HF : Hid (allD (s.data.toList.drop 1) = false) := allD_no (k := k + 1 - 1) (by rw [show List.take (k + 1 - 1) (List.drop 1 s.data.toList) = part s.data.toList 1 (k + 1) from rfl, HS.out]; exact digB_hi c2)
          clear HS
          go_wp2
          go_ret
          exact ⟨ret_bool (by rw [← HB.out, HF.out]; try rfl), rfl⟩
        · have HT : Hid (allD (part s.data.toList 1 (k + 1)) = true) := by rw [Hid, HS.out]; exact digB_yes (by omega) (by omega)
          clear HS
          go_wp2
          go_round
          case rel => exact ⟨k + 1, by omega, by omega, by go_num, HT.out⟩
          case measure => simp [intOf]; omega
    · have HA : Hid (allD (s.data.toList.drop 1) = true) := by
        have h := HP.out
        rwa [part_whole s 1 k (by omega)] at h
      clear HP
      go_wp2
      go_ret
      exact ⟨ret_bool (by rw [← HB.out, HA.out]; try rfl), rfl⟩

set_option maxHeartbeats 1000000 in
theorem shape_minus (s : ByteArray) (w : World) (hs : s.size ≤ 300000) (h1 : 0 < s.size) (h0 : s[0].toNat = 45) (ad : Bool) (HB : Hid (allD (s.data.toList.drop 1) = ad)) :
    Calls Tryd.prog 23 #[.string s] w fun e w' => e = .returned (.bool (ad && decide ((1 : Int) < (s.size : Int)))) ∧ w' = w := by
  have hi : (0 : Int) < (s.size : Int) := by omega
  have d1 : ((s[0].toNat : Int) == 43) = false := by simp; omega
  have d2 : ((s[0].toNat : Int) == 45) = true := by simp; omega
  clear h0
  go_enter Tryd.func23, Tryd.ntmps23
  go_wp2
  go_loop [4] (fun i => ∃ k : Nat, 1 ≤ k ∧ k ≤ s.size ∧ i = .int .i64 k ∧ Hid (allD (part s.data.toList 1 k) = true)) (fun i => s.size - (intOf i).toNat)
  case atStart => exact ⟨1, Nat.le_refl _, by omega, rfl, by rw [Hid, part_short _ _ _ (Nat.le_refl _)]; rfl⟩
  case round =>
    obtain ⟨k, hkF, hk, rfl, HP⟩ := hrel
    by_cases hlt : k < s.size
    · have hsn : allD (part s.data.toList 1 (k + 1)) = digB s[k] := by rw [part_snoc s 1 k hkF hlt, allD_snoc, HP.out, Bool.true_and]
      have HS : Hid (allD (part s.data.toList 1 (k + 1)) = digB s[k]) := hsn
      clear hsn HP
      by_cases c1 : (s[k].toNat : Int) < 48
      · have HF : Hid (allD (s.data.toList.drop 1) = false) := allD_no (k := k + 1 - 1) (by rw [show List.take (k + 1 - 1) (List.drop 1 s.data.toList) = part s.data.toList 1 (k + 1) from rfl, HS.out]; exact digB_lo c1)
        clear HS
        go_wp2
        go_ret
        exact ⟨ret_bool (by rw [← HB.out, HF.out]; try rfl), rfl⟩
      · by_cases c2 : 57 < (s[k].toNat : Int)
        · have HF : Hid (allD (s.data.toList.drop 1) = false) := allD_no (k := k + 1 - 1) (by rw [show List.take (k + 1 - 1) (List.drop 1 s.data.toList) = part s.data.toList 1 (k + 1) from rfl, HS.out]; exact digB_hi c2)
          clear HS
          go_wp2
          go_ret
          exact ⟨ret_bool (by rw [← HB.out, HF.out]; try rfl), rfl⟩
        · have HT : Hid (allD (part s.data.toList 1 (k + 1)) = true) := by rw [Hid, HS.out]; exact digB_yes (by omega) (by omega)
          clear HS
          go_wp2
          go_round
          case rel => exact ⟨k + 1, by omega, by omega, by go_num, HT.out⟩
          case measure => simp [intOf]; omega
    · have HA : Hid (allD (s.data.toList.drop 1) = true) := by
        have h := HP.out
        rwa [part_whole s 1 k (by omega)] at h
      clear HP
      go_wp2
      go_ret
      exact ⟨ret_bool (by rw [← HB.out, HA.out]; try rfl), rfl⟩

set_option maxHeartbeats 1000000 in
theorem shape_none (s : ByteArray) (w : World) (hs : s.size ≤ 300000) (h1 : 0 < s.size) (h0 : ¬ (s[0].toNat = 45 ∨ s[0].toNat = 43)) (ad : Bool) (HB : Hid (allD (s.data.toList.drop 0) = ad)) :
    Calls Tryd.prog 23 #[.string s] w fun e w' => e = .returned (.bool (ad && decide ((0 : Int) < (s.size : Int)))) ∧ w' = w := by
  have hi : (0 : Int) < (s.size : Int) := by omega
  have d1 : ((s[0].toNat : Int) == 43) = false := by simp; omega
  have d2 : ((s[0].toNat : Int) == 45) = false := by simp; omega
  clear h0
  go_enter Tryd.func23, Tryd.ntmps23
  go_wp2
  go_loop [4] (fun i => ∃ k : Nat, 0 ≤ k ∧ k ≤ s.size ∧ i = .int .i64 k ∧ Hid (allD (part s.data.toList 0 k) = true)) (fun i => s.size - (intOf i).toNat)
  case atStart => exact ⟨0, Nat.le_refl _, by omega, rfl, by rw [Hid, part_short _ _ _ (Nat.le_refl _)]; rfl⟩
  case round =>
    obtain ⟨k, hkF, hk, rfl, HP⟩ := hrel
    by_cases hlt : k < s.size
    · have hsn : allD (part s.data.toList 0 (k + 1)) = digB s[k] := by rw [part_snoc s 0 k hkF hlt, allD_snoc, HP.out, Bool.true_and]
      have HS : Hid (allD (part s.data.toList 0 (k + 1)) = digB s[k]) := hsn
      clear hsn HP
      by_cases c1 : (s[k].toNat : Int) < 48
      · have HF : Hid (allD (s.data.toList.drop 0) = false) := allD_no (k := k + 1 - 0) (by rw [show List.take (k + 1 - 0) (List.drop 0 s.data.toList) = part s.data.toList 0 (k + 1) from rfl, HS.out]; exact digB_lo c1)
        clear HS
        go_wp2
        go_ret
        exact ⟨ret_bool (by rw [← HB.out, HF.out]; try rfl), rfl⟩
      · by_cases c2 : 57 < (s[k].toNat : Int)
        · have HF : Hid (allD (s.data.toList.drop 0) = false) := allD_no (k := k + 1 - 0) (by rw [show List.take (k + 1 - 0) (List.drop 0 s.data.toList) = part s.data.toList 0 (k + 1) from rfl, HS.out]; exact digB_hi c2)
          clear HS
          go_wp2
          go_ret
          exact ⟨ret_bool (by rw [← HB.out, HF.out]; try rfl), rfl⟩
        · have HT : Hid (allD (part s.data.toList 0 (k + 1)) = true) := by rw [Hid, HS.out]; exact digB_yes (by omega) (by omega)
          clear HS
          go_wp2
          go_round
          case rel => exact ⟨k + 1, by omega, by omega, by go_num, HT.out⟩
          case measure => simp [intOf]; omega
    · have HA : Hid (allD (s.data.toList.drop 0) = true) := by
        have h := HP.out
        rwa [part_whole s 0 k (by omega)] at h
      clear HP
      go_wp2
      go_ret
      exact ⟨ret_bool (by rw [← HB.out, HA.out]; try rfl), rfl⟩

theorem shape_any (s : ByteArray) (w : World) (hs : s.size ≤ 300000) : Calls Tryd.prog 23 #[.string s] w fun e w' => e = .returned (.bool (shapeL s.data.toList)) ∧ w' = w := by
  by_cases h0 : s.size = 0
  · have e := size_nil s h0
    subst e
    exact shape_empty w
  have h1 : 0 < s.size := by omega
  unfold shapeL
  by_cases c1 : s[0].toNat = 45
  · rw [body_sign s h1 (Or.inl c1), drop_empty, Bool.not_not]
    have h := shape_minus s w hs h1 c1 _ rfl
    rwa [show decide ((1 : Int) < (s.size : Int)) = decide (1 < s.size) by rw [decide_eq_decide]; omega] at h
  · by_cases c2 : s[0].toNat = 43
    · rw [body_sign s h1 (Or.inr c2), drop_empty, Bool.not_not]
      have h := shape_plus s w hs h1 c2 _ rfl
      rwa [show decide ((1 : Int) < (s.size : Int)) = decide (1 < s.size) by rw [decide_eq_decide]; omega] at h
    · rw [body_none s h1 (by omega), drop_empty, Bool.not_not]
      have h := shape_none s w hs h1 (by omega) _ rfl
      rwa [show decide ((0 : Int) < (s.size : Int)) = decide (0 < s.size) by rw [decide_eq_decide]; omega] at h
end Go.Proofs.YtgjnnahflaaagaaDoor
