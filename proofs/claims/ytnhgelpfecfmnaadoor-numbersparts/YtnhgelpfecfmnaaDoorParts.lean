/- Proved: for every two int64 numbers the law NumbersParts returns true, and its arguments read afterwards as before; condition: the library's tables lie as the program's text lays them (tied by the card). -/
import Derived.Test.YtnhgelpfecfmnaaDoorBase
namespace Go.Proofs.YtnhgelpfecfmnaaDoor
open Go.ChangeShapes Go.WideShapes Go.ChangeAt Go.RowKit

theorem parts_mul (a b : Int) (ha : inB a = true) : inB (a.tdiv b * b) = true := by
  rw [inB_iff] at *
  have h1 := Int.mul_tdiv_add_tmod a b
  rw [Int.mul_comm] at h1
  have h2 := Int.natAbs_tmod a b
  have h3 : (a.tdiv b * b).natAbs = a.natAbs / b.natAbs * b.natAbs := by rw [Int.natAbs_mul, Int.natAbs_tdiv]; rfl
  have h4 := Nat.div_mul_le_self a.natAbs b.natAbs
  have h6 := Nat.mod_le a.natAbs b.natAbs
  by_cases c : 0 ≤ a
  · have h5 := Int.tmod_nonneg (a := a) b c
    omega
  · have h5 := Int.tmod_nonneg (a := -a) b (by omega)
    rw [Int.neg_tmod] at h5
    omega
theorem parts_sign (a b : Int) : (0 ≤ a → 0 ≤ a.tmod b) ∧ (a ≤ 0 → a.tmod b ≤ 0) := by
  refine ⟨fun c => Int.tmod_nonneg (a := a) b c, fun c => ?_⟩
  have h5 := Int.tmod_nonneg (a := -a) b (by omega)
  rw [Int.neg_tmod] at h5
  omega

set_option maxHeartbeats 1000000 in
theorem parts_nought (a : Int) (w : World) (ha : inB a = true) (ht : TabW w) :
    Calls Tryd.prog 6 #[.int .i64 a, .int .i64 0] w fun e w' => e = .returned (.bool true) ∧ Below w.heap.size w w' := by
  have hd := fun w => div_any a 0 w ha
  rw [divV_no (Or.inl rfl), divE_no (Or.inl rfl)] at hd
  have hm := fun w => mod_any a 0 w ha
  rw [modV_no, modE_no] at hm
  have HD : Hid _ := hd
  have HM : Hid _ := hm
  clear hd hm
  go_enter Tryd.func6, Tryd.ntmps6
  go_wp2_with fail
  refine (known_yes w ht).mono ?_
  rintro e w1 ⟨rfl, hb1⟩
  clear ht
  go_wp2_with fail
  refine (HD.out _).mono ?_
  rintro e w1 ⟨rfl, rfl⟩
  go_wp2_with fail
  refine (HM.out _).mono ?_
  rintro e w1 ⟨rfl, rfl⟩
  go_wp2
  go_ret
  exact ⟨rfl, hb1⟩

set_option maxHeartbeats 1000000 in
theorem parts_least (w : World) (ht : TabW w) :
    Calls Tryd.prog 6 #[.int .i64 (-9223372036854775808), .int .i64 (-1)] w fun e w' => e = .returned (.bool true) ∧ Below w.heap.size w w' := by
  have hd := fun w => div_any (-9223372036854775808) (-1) w (by decide)
  rw [divV_no (Or.inr (by decide)), divE_no (Or.inr (by decide))] at hd
  have hm := fun w => mod_any (-9223372036854775808) (-1) w (by decide)
  rw [modV_yes (by decide), modE_yes (by decide), show Int.tmod (-9223372036854775808) (-1) = 0 by decide] at hm
  have HD : Hid _ := hd
  have HM : Hid _ := hm
  clear hd hm
  go_enter Tryd.func6, Tryd.ntmps6
  go_wp2_with fail
  refine (known_yes w ht).mono ?_
  rintro e w1 ⟨rfl, hb1⟩
  clear ht
  go_wp2_with fail
  refine (HD.out _).mono ?_
  rintro e w1 ⟨rfl, rfl⟩
  go_wp2_with fail
  refine (HM.out _).mono ?_
  rintro e w1 ⟨rfl, rfl⟩
  go_wp2
  go_ret
  exact ⟨rfl, hb1⟩

set_option maxHeartbeats 1000000 in
theorem parts_all (a b q r : Int) (w : World) (ht : TabW w) (b0 : (b == 0) = false)
    (HD : Hid (∀ w : World, Calls Tryd.prog 16 #[.int .i64 a, .int .i64 b] w fun e w' => e = .returned (.tuple #[.int .i64 q, .int .i64 0]) ∧ w' = w))
    (HM : Hid (∀ w : World, Calls Tryd.prog 18 #[.int .i64 a, .int .i64 b] w fun e w' => e = .returned (.tuple #[.int .i64 r, .int .i64 0]) ∧ w' = w))
    (HU : Hid (∀ w : World, Calls Tryd.prog 14 #[.int .i64 q, .int .i64 b] w fun e w' => e = .returned (.tuple #[.int .i64 (q * b), .int .i64 0]) ∧ w' = w))
    (HA : Hid (∀ w : World, Calls Tryd.prog 10 #[.int .i64 (q * b), .int .i64 r] w fun e w' => e = .returned (.tuple #[.int .i64 a, .int .i64 0]) ∧ w' = w))
    (r1 : -9223372036854775807 ≤ r) (r2 : r ≤ 9223372036854775807) (hs : (0 ≤ a → 0 ≤ r) ∧ (a ≤ 0 → r ≤ 0)) (hl : r.natAbs < b.natAbs) :
    Calls Tryd.prog 6 #[.int .i64 a, .int .i64 b] w fun e w' => e = .returned (.bool true) ∧ Below w.heap.size w w' := by
  have e : (r = 0 ∧ ((0 < b ∧ r < b ∧ -r < b) ∨ (b < 0 ∧ b < r ∧ b < -r))) ∨ (¬ r = 0 ∧ ((r < 0 ∧ a < 0) ∨ (¬ r < 0 ∧ ¬ a < 0)) ∧ ((0 < b ∧ r < b ∧ -r < b) ∨ (b < 0 ∧ b < r ∧ b < -r))) := by omega
  clear hs hl
  rcases e with ⟨rfl, e⟩ | ⟨r0, e1, e⟩
  · rcases e with ⟨e2, e3, e4⟩ | ⟨e2, e3, e4⟩
    all_goals
      go_enter Tryd.func6, Tryd.ntmps6
      go_wp2_with fail
      refine (known_yes w ht).mono ?_
      rintro e w1 ⟨rfl, hb1⟩
      clear ht
      go_wp2_with fail
      refine (HD.out _).mono ?_
      rintro e w1 ⟨rfl, rfl⟩
      go_wp2_with fail
      refine (HM.out _).mono ?_
      rintro e w1 ⟨rfl, rfl⟩
      go_wp2_with fail
      refine (HU.out _).mono ?_
      rintro e w1 ⟨rfl, rfl⟩
      go_wp2_with fail
      refine (HA.out _).mono ?_
      rintro e w1 ⟨rfl, rfl⟩
      go_wp2
      go_ret
      exact ⟨rfl, hb1⟩
  · have r0 : (r == 0) = false := by simpa using r0
    rcases e1 with ⟨c1, c2⟩ | ⟨c1, c2⟩
    all_goals
      rcases e with ⟨e2, e3, e4⟩ | ⟨e2, e3, e4⟩
      all_goals
        go_enter Tryd.func6, Tryd.ntmps6
        go_wp2_with fail
        refine (known_yes w ht).mono ?_
        rintro e w1 ⟨rfl, hb1⟩
        clear ht
        go_wp2_with fail
        refine (HD.out _).mono ?_
        rintro e w1 ⟨rfl, rfl⟩
        go_wp2_with fail
        refine (HM.out _).mono ?_
        rintro e w1 ⟨rfl, rfl⟩
        go_wp2_with fail
        refine (HU.out _).mono ?_
        rintro e w1 ⟨rfl, rfl⟩
        go_wp2_with fail
        refine (HA.out _).mono ?_
        rintro e w1 ⟨rfl, rfl⟩
        go_wp2
        go_ret
        exact ⟨rfl, hb1⟩

theorem parts_walk (a b : Int) (w : World) (ha : inB a = true) (hb : inB b = true) (ht : TabW w) :
    Calls Tryd.prog 6 #[.int .i64 a, .int .i64 b] w fun e w' => e = .returned (.bool true) ∧ Below w.heap.size w w' := by
  by_cases b0 : b = 0
  · subst b0; exact parts_nought a w ha ht
  cases hl : least1 a b
  · have hi := parts_mul a b ha
    have hsum : a.tdiv b * b + a.tmod b = a := by rw [Int.mul_comm]; exact Int.mul_tdiv_add_tmod a b
    have hq : inB (a.tdiv b) = true := by rw [inB_iff] at *; exact tdiv_bd a b b0 ha.1 ha.2 (least1_no hl)
    have hr : inB (a.tmod b) = true := by rw [inB_iff] at *; exact tmod_bd a b ha.1 ha.2
    have hlt := tmod_lt a b b0
    refine parts_all a b (a.tdiv b) (a.tmod b) w ht (by simpa using b0) (fun w => ?_) (fun w => ?_) (fun w => ?_) (fun w => ?_) ?_ ?_ (parts_sign a b) hlt
    · have h := div_any a b w ha
      rwa [divV_yes b0 hl, divE_yes b0 hl] at h
    · have h := mod_any a b w ha
      rwa [modV_yes b0, modE_yes b0] at h
    · have h := mul_any (a.tdiv b) b w hq hb
      rwa [resV_in hi, resE_in hi] at h
    · have h := add_in (a.tdiv b * b) (a.tmod b) w hi hr (by rw [hsum]; exact ha)
      rwa [hsum] at h
    · rw [inB_iff] at hb; omega
    · rw [inB_iff] at hr; exact hr.2
  · obtain ⟨rfl, rfl⟩ := least1_yes hl
    exact parts_least w ht

set_option maxRecDepth 100000 in
theorem numbersParts_lifted (os : Os) (started : os.Started) (H : Type) (enc : TypeId × Value → H) :
    ReturnsInHanded {} Tryd.checked os 6 .any (fun w args => (Rows.numbersPartsSpec.pre enc Tryd.prog Tryd.f6 [] false w args ∧ laidMetH Tryd.prog laid3 w) ∧ sizedMet enc Tryd.prog Tryd.f6 (OpenSpec.ofChange Rows.numbersPartsSpec) false w args)
      (Rows.numbersPartsSpec.post enc Tryd.prog Tryd.f6 false true false false) := by
  refine returnsInHanded_of_change_and (C := Tryd.checked) (X := fun w _ => laidMetH Tryd.prog laid3 w) (fun _ _ _ hh h => h.of_heap hh) own started (by kernel_rfl) Tryd.func6
    (ChangeSpec.witness_shaped (enc := enc) (C := Tryd.checked) (os := os) (X := fun w _ => laidMetH Tryd.prog laid3 w) false (World.doorLaid Tryd.prog 24 os) #[.int .i64 0, .int .i64 0] 8 rfl (World.shaped_of_RefB (by kernel_rfl) (by kernel_rfl)) (by kernel_rfl) (by kernel_rfl) (by kernel_rfl) (door_met os _)) ?_
  intro W base args ds gs before hval0 hW _ _ hL _
  have hval : ∀ (j : Nat) t v, Tryd.f6.params[j]? = some t → args[j]? = some v → Value.okWide Tryd.prog W .any base t v := hval0
  have hW' := hW
  obtain ⟨p, q, hA0, hV, rfl, hfz, hnd⟩ := hW
  have hA : DataW.TrodAll enc Tryd.prog W 0 (fun _ => true) true Tryd.f6.params.toList args.toList ds p := hA0
  rw [Tryd.params6] at hA hval
  obtain ⟨v0, v1, d0, d1, p0, p1, rfl, rfl, rfl, h0, h1⟩ := trodAll_two hA
  obtain ⟨rfl, rfl⟩ := trodVars_none hV
  obtain ⟨a, rfl, rfl, rfl, wa⟩ := open_int Tryd.underlying2 (hval 0 2 v0 rfl rfl) h0
  obtain ⟨b, rfl, rfl, rfl, wb⟩ := open_int Tryd.underlying2 (hval 1 2 v1 rfl rfl) h1
  have ht := of_laid hL
  clear hA0 hval0
  simp only [List.append_nil] at hW'
  refine (parts_walk a b W (inB_wf wa) (inB_wf wb) ht).mono fun e W' ⟨he, bel⟩ => ?_
  subst he
  exact ⟨_, rfl, _, _, _, [], [], [], hW', trodAll_mk1 (shut_bool Tryd.underlying4 _), trodAll_mk2 (shut_int Tryd.underlying2 wa) (shut_int Tryd.underlying2 wb), rfl, bel.frame _, fun h => by cases h⟩

theorem numbersParts_said : Rows.NumbersPartsSaid :=
  OpenClaim.holds_of_wide 6 Tryd.f6 rfl rfl rfl rfl rfl rfl rfl ⟨rfl, rfl, rfl, rfl, rfl⟩ rfl rfl rfl rfl rfl (by kernel_rfl) Tryd.func6 (by kernel_rfl)
    (of_decide_eq_true (by kernel_rfl)) (by unfold Func.isWrapper; first | (rw [if_pos (by decide +kernel)]; kernel_rfl) | (rw [if_neg (by decide +kernel)]; exact ⟨rfl, rfl⟩))
    (fun os started H enc _ => numbersParts_lifted os started H enc)

/-- No parameter wants a stand-in; the program's own looks are off. -/
theorem numbersParts_plain (f : FuncId) (fn : Func) (hf : Tryd.pinned.checked.prog.funcNamed "whelk/whelklaw1.NumbersParts" = some f) (hfn : Tryd.pinned.checked.prog.funcs[f]? = some fn) :
    false = Tryd.pinned.checked.prog.looks [] ∧ ∀ (j : Nat) t, fn.params[j]? = some t → Tryd.pinned.checked.prog.wantsStandIn t = false := by
  obtain rfl : f = 6 := Option.some.inj ((show Tryd.prog.funcNamed "whelk/whelklaw1.NumbersParts" = some 6 by kernel_rfl).symm.trans hf) |>.symm
  obtain rfl : fn = Tryd.f6 := (Option.some.inj (Tryd.func6.symm.trans hfn)).symm
  refine ⟨by kernel_rfl, fun j t hj => ?_⟩
  rw [Tryd.params6] at hj
  have hm : t ∈ [2] := by simpa using Array.mem_of_getElem? hj
  have hall : ([2].all fun u => !Tryd.prog.wantsStandIn u) = true := by kernel_rfl
  exact (show Tryd.prog.wantsStandIn t = false by simpa using List.all_eq_true.1 hall t hm)

theorem numbersParts_card : Rows.NumbersPartsCardSaid :=
  Claim7.holds_tied_plain_at .later [] _ _ _ _ numbersParts_said (fun _ h => by cases h) (by kernel_rfl) (fun _ h => by cases h) numbersParts_row_tie rfl ⟨rfl, rfl⟩ (by kernel_rfl) rfl numbersParts_plain (by kernel_rfl)
#print axioms numbersParts_card
end Go.Proofs.YtnhgelpfecfmnaaDoor
