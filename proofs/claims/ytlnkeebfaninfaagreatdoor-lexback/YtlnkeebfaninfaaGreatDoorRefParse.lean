/- The contract of the reference's Parse. -/
import Derived.Test.YtlnkeebfaninfaaGreatDoorRefMul
namespace Go.Proofs.YtlnkeebfaninfaaGreatDoor
open Go.RowKit

theorem shape_at (s : ByteArray) (b : Bool) (w : World) (hs : s.size ≤ 100000) (h : shapeL s.data.toList = b) : Calls Tryz.prog 33 #[.string s] w fun e w' => e = .returned (.bool b) ∧ w' = w := by
  rw [← h]; exact shape_any s w hs
theorem rmul_yes (a b P : Int) (w : World) (ha : inB a = true) (hb : inB b = true) (hP : a * b = P) (h : inB P = true) :
    Calls Tryz.prog 51 #[.int .i64 a, .int .i64 b] w fun e w' => e = .returned (.tuple #[.int .i64 P, .int .i64 0]) ∧ w' = w := by
  have h2 := rmul_any a b w ha hb
  rwa [hP, resV_in h, resE_in h] at h2
theorem rmul_no (a b P : Int) (w : World) (ha : inB a = true) (hb : inB b = true) (hP : a * b = P) (h : inB P = false) :
    Calls Tryz.prog 51 #[.int .i64 a, .int .i64 b] w fun e w' => e = .returned (.tuple #[.int .i64 0, .int .i64 11]) ∧ w' = w := by
  have h2 := rmul_any a b w ha hb
  rwa [hP, resV_out h, resE_out h] at h2
theorem radd_yes (a b P : Int) (w : World) (ha : inB a = true) (hb : inB b = true) (hP : a + b = P) (h : inB P = true) :
    Calls Tryz.prog 52 #[.int .i64 a, .int .i64 b] w fun e w' => e = .returned (.tuple #[.int .i64 P, .int .i64 0]) ∧ w' = w := by
  have h2 := radd_any a b w ha hb
  rwa [hP, resV_in h, resE_in h] at h2
theorem radd_no (a b P : Int) (w : World) (ha : inB a = true) (hb : inB b = true) (hP : a + b = P) (h : inB P = false) :
    Calls Tryz.prog 52 #[.int .i64 a, .int .i64 b] w fun e w' => e = .returned (.tuple #[.int .i64 0, .int .i64 11]) ∧ w' = w := by
  have h2 := radd_any a b w ha hb
  rwa [hP, resV_out h, resE_out h] at h2
theorem rparse_form (s : ByteArray) (w : World) (hs : s.size ≤ 100000) (H : Hid (shapeL s.data.toList = false)) :
    Calls Tryz.prog 34 #[.string s] w fun e w' => e = .returned (.tuple #[.int .i64 0, .int .i64 2]) ∧ w' = w := by
  go_enter Tryz.func34, Tryz.ntmps34
  go_wp2_with (go_at_call 33; refine (shape_at s false _ hs H.out).mono ?_; rintro e w' ⟨rfl, rfl⟩)
  go_ret2
  exact ⟨rfl, rfl⟩

set_option maxHeartbeats 4000000 in
theorem rparse_neg (s : ByteArray) (w : World) (F T : Nat) (V : Int) (hs : s.size ≤ 100000) (h1 : 0 < s.size) (hF : F ≤ 1) (hn : ((s[0].toNat : Int) == 45) = true) (HSH : Hid (shapeL s.data.toList = true))
    (HD : Hid (∀ (_h : 0 < F), s[0].toNat = 45)) (HA : Hid (allD (s.data.toList.drop F) = true)) (HT : Hid (dval (s.data.toList.drop F) = T)) (HV : Hid (V = (-(T : Int)))) :
    Calls Tryz.prog 34 #[.string s] w fun e w' => e = .returned (.tuple #[.int .i64 (resV V), .int .i64 (resE V)]) ∧ w' = w := by
  have hi : (0 : Int) < (s.size : Int) := by omega
  go_enter Tryz.func34, Tryz.ntmps34
  go_wp2_with (go_at_call 33; refine (shape_at s true _ hs HSH.out).mono ?_; rintro e w' ⟨rfl, rfl⟩)
  clear HSH
  go_loop [5, 6] (fun v i => ∃ (k : Nat) (x : Nat), k ≤ s.size ∧ i = .int .i64 k ∧ v = .int .i64 (-(x : Int)) ∧ Hid (dval (part s.data.toList F k) = x) ∧ Hid (inB (-(x : Int)) = true)) (fun _ i => s.size - (intOf i).toNat)
  case atStart => exact ⟨0, 0, Nat.zero_le _, rfl, rfl, by rw [Hid, part_short _ _ _ (Nat.zero_le _)]; rfl, by unfold Hid; decide⟩
  case round =>
    obtain ⟨k, x, hk, rfl, rfl, HX, HB⟩ := hrel
    by_cases hlt : k < s.size
    · by_cases hkF : k < F
      · obtain rfl : k = 0 := by omega
        have hx : x = 0 := by rw [← HX.out, part_short _ _ _ (Nat.zero_le _)]; rfl
        subst hx
        have HP : Hid (dval (part s.data.toList F 1) = 0) := by rw [Hid, part_short _ _ _ (by omega)]; rfl
        have hd := HD.out hkF
        clear HX HB HD HA HT HV
        have d1 : ((s[0].toNat : Int) == 43) = false := by simp; omega
        clear hd
        go_wp2
        go_round
        case rel => exact ⟨1, 0, by omega, by go_num, rfl, HP.out, by unfold Hid; decide⟩
        case measure => simp [intOf]; omega
      · obtain ⟨g1, g2⟩ := digB_bd (part_dig s F k (by omega) hlt HA.out)
        have hsn : dval (part s.data.toList F (k + 1)) = x * 10 + (s[k].toNat - 48) := by rw [part_snoc s F k (by omega) hlt, dval_snoc, HX.out]
        have hle := part_dval s F (k + 1)
        rw [hsn, HT.out] at hle
        have HS : Hid (dval (part s.data.toList F (k + 1)) = x * 10 + (s[k].toNat - 48)) := hsn
        have HL : Hid (x * 10 + (s[k].toNat - 48) ≤ T) := hle
        clear hsn hle HX HA HT
        have b1 : 48 ≤ (s[k].toNat : Int) := by omega
        have b2 : (s[k].toNat : Int) ≤ 57 := by omega
        have d1 : ((s[k].toNat : Int) == 43) = false := by simp; omega
        have d2 : ((s[k].toNat : Int) == 45) = false := by simp; omega
        clear hkF
        obtain ⟨P, hP⟩ : ∃ P : Int, (-(x : Int)) * 10 = P := ⟨_, rfl⟩
        obtain ⟨Q, hQ⟩ : ∃ Q : Int, (-((x * 10 + (s[k].toNat - 48) : Nat) : Int)) = Q := ⟨_, rfl⟩
        have hPQ : P + -((s[k].toNat : Int) - 48) = Q := by omega
        have HP : Hid ((-(x : Int)) * 10 = P) := hP
        have HQ : Hid ((-((x * 10 + (s[k].toNat - 48) : Nat) : Int)) = Q) := hQ
        have HPQ : Hid (P + -((s[k].toNat : Int) - 48) = Q) := hPQ
        clear hPQ
        cases hiP : inB P
        · have HR : Hid (resV V = 0 ∧ resE V = 11) := by
            have hl := HL.out
            have ho : inB V = false := by rw [HV.out, inB_not]; rw [inB_not] at hiP; omega
            exact ⟨resV_out ho, resE_out ho⟩
          clear hP hQ HS HL HV HQ HPQ
          go_wp2_with (go_at_call 51; refine (rmul_no _ 10 P _ HB.out (by decide) HP.out hiP).mono ?_; rintro e w' ⟨rfl, rfl⟩)
          go_ret2
          exact ⟨by rw [HR.out.1, HR.out.2]; rfl, rfl⟩
        · cases hiQ : inB Q
          · have HR : Hid (resV V = 0 ∧ resE V = 11) := by
              have hl := HL.out
              have ho : inB V = false := by rw [HV.out, inB_not]; rw [inB_not] at hiQ; omega
              exact ⟨resV_out ho, resE_out ho⟩
            clear hP hQ HS HL HV HQ
            go_wp2_with (first | (go_at_call 51; refine (rmul_yes _ 10 P _ HB.out (by decide) HP.out hiP).mono ?_; rintro e w' ⟨rfl, rfl⟩) | (go_at_call 52; refine (radd_no P _ Q _ hiP (by rw [inB_iff]; omega) HPQ.out hiQ).mono ?_; rintro e w' ⟨rfl, rfl⟩))
            go_ret2
            exact ⟨by rw [HR.out.1, HR.out.2]; rfl, rfl⟩
          · clear hP hQ HL HV HD
            go_wp2_with (first | (go_at_call 51; refine (rmul_yes _ 10 P _ HB.out (by decide) HP.out hiP).mono ?_; rintro e w' ⟨rfl, rfl⟩) | (go_at_call 52; refine (radd_yes P _ Q _ hiP (by rw [inB_iff]; omega) HPQ.out hiQ).mono ?_; rintro e w' ⟨rfl, rfl⟩))
            go_round
            case rel => exact ⟨k + 1, x * 10 + (s[k].toNat - 48), by omega, by go_num, by rw [HQ.out], HS.out, by rw [Hid, HQ.out]; exact hiQ⟩
            case measure => simp [intOf]; omega
    · have HE : Hid (x = T) := by
        have h := HX.out
        rw [part_whole s F k (by omega), HT.out] at h
        exact h.symm
      have HR : Hid (resV V = (-(x : Int)) ∧ resE V = 0) := by
        have h := HB.out
        rw [HE.out] at h
        rw [Hid, HV.out, HE.out]
        exact ⟨resV_in h, resE_in h⟩
      clear HX HB HD HA HT HV HE
      go_wp2
      go_ret2
      exact ⟨by rw [HR.out.1, HR.out.2]; rfl, rfl⟩

set_option maxHeartbeats 4000000 in
theorem rparse_pos (s : ByteArray) (w : World) (F T : Nat) (V : Int) (hs : s.size ≤ 100000) (h1 : 0 < s.size) (hF : F ≤ 1) (hn : ((s[0].toNat : Int) == 45) = false) (HSH : Hid (shapeL s.data.toList = true))
    (HD : Hid (∀ (_h : 0 < F), s[0].toNat = 43)) (HA : Hid (allD (s.data.toList.drop F) = true)) (HT : Hid (dval (s.data.toList.drop F) = T)) (HV : Hid (V = (T : Int))) :
    Calls Tryz.prog 34 #[.string s] w fun e w' => e = .returned (.tuple #[.int .i64 (resV V), .int .i64 (resE V)]) ∧ w' = w := by
  have hi : (0 : Int) < (s.size : Int) := by omega
  go_enter Tryz.func34, Tryz.ntmps34
  go_wp2_with (go_at_call 33; refine (shape_at s true _ hs HSH.out).mono ?_; rintro e w' ⟨rfl, rfl⟩)
  clear HSH
  go_loop [5, 6] (fun v i => ∃ (k : Nat) (x : Nat), k ≤ s.size ∧ i = .int .i64 k ∧ v = .int .i64 (x : Int) ∧ Hid (dval (part s.data.toList F k) = x) ∧ Hid (inB (x : Int) = true)) (fun _ i => s.size - (intOf i).toNat)
  case atStart => exact ⟨0, 0, Nat.zero_le _, rfl, rfl, by rw [Hid, part_short _ _ _ (Nat.zero_le _)]; rfl, by unfold Hid; decide⟩
  case round =>
    obtain ⟨k, x, hk, rfl, rfl, HX, HB⟩ := hrel
    by_cases hlt : k < s.size
    · by_cases hkF : k < F
      · obtain rfl : k = 0 := by omega
        have hx : x = 0 := by rw [← HX.out, part_short _ _ _ (Nat.zero_le _)]; rfl
        subst hx
        have HP : Hid (dval (part s.data.toList F 1) = 0) := by rw [Hid, part_short _ _ _ (by omega)]; rfl
        have hd := HD.out hkF
        clear HX HB HD HA HT HV
        have d1 : ((s[0].toNat : Int) == 43) = true := by simp; omega
        clear hd
        go_wp2
        go_round
        case rel => exact ⟨1, 0, by omega, by go_num, rfl, HP.out, by unfold Hid; decide⟩
        case measure => simp [intOf]; omega
      · obtain ⟨g1, g2⟩ := digB_bd (part_dig s F k (by omega) hlt HA.out)
        have hsn : dval (part s.data.toList F (k + 1)) = x * 10 + (s[k].toNat - 48) := by rw [part_snoc s F k (by omega) hlt, dval_snoc, HX.out]
        have hle := part_dval s F (k + 1)
        rw [hsn, HT.out] at hle
        have HS : Hid (dval (part s.data.toList F (k + 1)) = x * 10 + (s[k].toNat - 48)) := hsn
        have HL : Hid (x * 10 + (s[k].toNat - 48) ≤ T) := hle
        clear hsn hle HX HA HT
        have b1 : 48 ≤ (s[k].toNat : Int) := by omega
        have b2 : (s[k].toNat : Int) ≤ 57 := by omega
        have d1 : ((s[k].toNat : Int) == 43) = false := by simp; omega
        have d2 : ((s[k].toNat : Int) == 45) = false := by simp; omega
        clear hkF
        obtain ⟨P, hP⟩ : ∃ P : Int, (x : Int) * 10 = P := ⟨_, rfl⟩
        obtain ⟨Q, hQ⟩ : ∃ Q : Int, ((x * 10 + (s[k].toNat - 48) : Nat) : Int) = Q := ⟨_, rfl⟩
        have hPQ : P + ((s[k].toNat : Int) - 48) = Q := by omega
        have HP : Hid ((x : Int) * 10 = P) := hP
        have HQ : Hid (((x * 10 + (s[k].toNat - 48) : Nat) : Int) = Q) := hQ
        have HPQ : Hid (P + ((s[k].toNat : Int) - 48) = Q) := hPQ
        clear hPQ
        cases hiP : inB P
        · have HR : Hid (resV V = 0 ∧ resE V = 11) := by
            have hl := HL.out
            have ho : inB V = false := by rw [HV.out, inB_not]; rw [inB_not] at hiP; omega
            exact ⟨resV_out ho, resE_out ho⟩
          clear hP hQ HS HL HV HQ HPQ
          go_wp2_with (go_at_call 51; refine (rmul_no _ 10 P _ HB.out (by decide) HP.out hiP).mono ?_; rintro e w' ⟨rfl, rfl⟩)
          go_ret2
          exact ⟨by rw [HR.out.1, HR.out.2]; rfl, rfl⟩
        · cases hiQ : inB Q
          · have HR : Hid (resV V = 0 ∧ resE V = 11) := by
              have hl := HL.out
              have ho : inB V = false := by rw [HV.out, inB_not]; rw [inB_not] at hiQ; omega
              exact ⟨resV_out ho, resE_out ho⟩
            clear hP hQ HS HL HV HQ
            go_wp2_with (first | (go_at_call 51; refine (rmul_yes _ 10 P _ HB.out (by decide) HP.out hiP).mono ?_; rintro e w' ⟨rfl, rfl⟩) | (go_at_call 52; refine (radd_no P _ Q _ hiP (by rw [inB_iff]; omega) HPQ.out hiQ).mono ?_; rintro e w' ⟨rfl, rfl⟩))
            go_ret2
            exact ⟨by rw [HR.out.1, HR.out.2]; rfl, rfl⟩
          · clear hP hQ HL HV HD
            go_wp2_with (first | (go_at_call 51; refine (rmul_yes _ 10 P _ HB.out (by decide) HP.out hiP).mono ?_; rintro e w' ⟨rfl, rfl⟩) | (go_at_call 52; refine (radd_yes P _ Q _ hiP (by rw [inB_iff]; omega) HPQ.out hiQ).mono ?_; rintro e w' ⟨rfl, rfl⟩))
            go_round
            case rel => exact ⟨k + 1, x * 10 + (s[k].toNat - 48), by omega, by go_num, by rw [HQ.out], HS.out, by rw [Hid, HQ.out]; exact hiQ⟩
            case measure => simp [intOf]; omega
    · have HE : Hid (x = T) := by
        have h := HX.out
        rw [part_whole s F k (by omega), HT.out] at h
        exact h.symm
      have HR : Hid (resV V = (x : Int) ∧ resE V = 0) := by
        have h := HB.out
        rw [HE.out] at h
        rw [Hid, HV.out, HE.out]
        exact ⟨resV_in h, resE_in h⟩
      clear HX HB HD HA HT HV HE
      go_wp2
      go_ret2
      exact ⟨by rw [HR.out.1, HR.out.2]; rfl, rfl⟩

theorem shape_size (s : ByteArray) (h : shapeL s.data.toList = true) : 0 < s.size := by
  by_cases e : s.size = 0
  · rw [size_nil s e] at h
    exact absurd h (by decide)
  · omega
theorem rparse_any (s : ByteArray) (w : World) (hs : s.size ≤ 100000) :
    Calls Tryz.prog 34 #[.string s] w fun e w' => e = .returned (.tuple #[.int .i64 (parV s.data.toList), .int .i64 (parE s.data.toList)]) ∧ w' = w := by
  unfold parV parE
  cases hsh : shapeL s.data.toList
  · rw [if_neg (by decide), if_neg (by decide)]
    exact rparse_form s w hs hsh
  · rw [if_pos rfl, if_pos rfl]
    have h1 := shape_size s hsh
    have hall : allD (bodyL s.data.toList) = true := by
      have h := hsh
      unfold shapeL at h
      rw [Bool.and_eq_true] at h
      exact h.1
    have hneg := neg_is s h1
    unfold valL
    by_cases c1 : s[0].toNat = 45
    · have hb := body_sign s h1 (Or.inl c1)
      rw [show negL s.data.toList = true by rw [hneg]; simpa using c1, if_pos rfl]
      exact rparse_neg s w 1 (dval (bodyL s.data.toList)) _ hs h1 (Nat.le_refl _) (by simp; omega) hsh (fun _ => c1) (by rw [← hb]; exact hall) (by rw [Hid, hb]) rfl
    · rw [show negL s.data.toList = false by rw [hneg]; simpa using c1, if_neg (by decide)]
      by_cases c2 : s[0].toNat = 43
      · have hb := body_sign s h1 (Or.inr c2)
        exact rparse_pos s w 1 (dval (bodyL s.data.toList)) _ hs h1 (Nat.le_refl _) (by simp; omega) hsh (fun _ => c2) (by rw [← hb]; exact hall) (by rw [Hid, hb]) rfl
      · have hb := body_none s h1 (by omega)
        exact rparse_pos s w 0 (dval (bodyL s.data.toList)) _ hs h1 (Nat.zero_le _) (by simp; omega) hsh (fun h => absurd h (by omega)) (by rw [← hb]; exact hall) (by rw [Hid, hb]) rfl

end Go.Proofs.YtlnkeebfaninfaaGreatDoor
