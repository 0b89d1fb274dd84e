/- Contracts of package val's isSymbol and Right, and of the reference's Right. -/
import Derived.Test.YtgjnnahflaaagaaDoorValRight
namespace Go.Proofs.YtgjnnahflaaagaaDoor
open Go.RowKit

theorem allS_step (s : ByteArray) (k : Nat) (h : k < s.size) (ha : allS (s.data.toList.take k) = true) : allS (s.data.toList.take (k + 1)) = signB s[k] := by
  rw [take_snoc s k h, allS_snoc, ha, Bool.true_and]
theorem sym_none {s : ByteArray} (h : ¬ (1 ≤ s.size ∧ s.size ≤ 40)) : symB s = false := by unfold symB; rw [decide_eq_false h]; rfl
theorem sym_some {s : ByteArray} (h1 : 1 ≤ s.size) (h2 : s.size ≤ 40) : symB s = (allS s.data.toList && !shapeL s.data.toList) := by unfold symB; rw [decide_eq_true ⟨h1, h2⟩, Bool.true_and]
theorem empty_is (s : ByteArray) : s.toList.isEmpty = decide (s.size = 0) := by
  rw [Lib.toList_data, Lib.size_eq]
  cases s.data.toList <;> simp

theorem same_next {w0 w1 w2 : World} {B : Nat} (h : Below B w0 w1) (h2 : SameW w1 w2) : Below B w0 w2 := h.trans (h2.below B)

/-- What the reference's loop starts with, at a symbol. -/
def okB (i : Int) (s : ByteArray) : Bool := decide (i = 0 ∧ 1 ≤ s.size ∧ s.size ≤ 40) && !shapeL s.data.toList
theorem ok_no {i : Int} {s : ByteArray} (h : ¬ (i = 0 ∧ 1 ≤ s.size ∧ s.size ≤ 40)) : false = okB i s := by unfold okB; rw [decide_eq_false h]; rfl
theorem ok_yes {i : Int} {s : ByteArray} (h : i = 0 ∧ 1 ≤ s.size ∧ s.size ≤ 40) : (!shapeL s.data.toList) = okB i s := by unfold okB; rw [decide_eq_true h]; rfl
theorem ok_right (i : Int) (s : ByteArray) : (okB i s && allS s.data.toList) = rightB 2 i s := by
  rw [right_sym]
  unfold okB symB
  by_cases h1 : i = 0 <;> by_cases h2 : 1 ≤ s.size ∧ s.size ≤ 40 <;> simp [h1, h2, Bool.and_comm]

set_option maxHeartbeats 1000000 in
theorem rright_sym1 (i : Int) (s : ByteArray) (w : World) (hs : s.size ≤ 300000) (o0 rv : Bool) (HR : Hid ((o0 && allS s.data.toList) = rv)) (d : (i == 0) = false) (HO : Hid (o0 = false)) :
    Calls Tryd.prog 9 #[.agg #[.int .i64 (2), .int .i64 (i), .string (s)]] w fun e w' => e = .returned (.bool rv) ∧ Below w.heap.size w w' := by
  go_enter Tryd.func9, Tryd.ntmps9
  go_wp2
  go_loop [3, 4] (fun o i' => ∃ k : Nat, k ≤ s.size ∧ i' = .int .i64 k ∧ ∃ b, o = .bool b ∧ Hid ((o0 && allS (s.data.toList.take k)) = b)) (fun _ i' => s.size - (intOf i').toNat)
  case atStart => exact ⟨0, Nat.zero_le _, rfl, _, rfl, by rw [Hid, show allS (s.data.toList.take 0) = true from rfl, Bool.and_true]; exact HO.out⟩
  case round =>
    obtain ⟨k, hk, rfl, b, rfl, HA⟩ := hrel
    by_cases hlt : k < s.size
    · have hki : (k : Int) < (s.size : Int) := by omega
      obtain ⟨sg, HG⟩ : ∃ sg, Hid (signB s[k] = sg) := ⟨signB s[k], by rw [Hid]⟩
      have hf : Hid (∀ w : World, Calls Tryd.prog 24 #[.int .u8 (s[k].toNat : Int)] w fun e w' => e = .returned (.bool sg) ∧ w' = w) := by
        intro w; rw [← HG.out]; exact sign_any s[k] w
      have HT : Hid ((o0 && allS (s.data.toList.take (k + 1))) = (b && sg)) := by
        rw [Hid, take_snoc s k hlt, allS_snoc, ← Bool.and_assoc, HA.out, HG.out]
      cases b
      · go_wp2
        go_round
        case rel => exact ⟨k + 1, by omega, by go_num, _, rfl, by rw [Hid, HT.out]; rfl⟩
        case measure => simp [intOf]; omega
      · go_wp2_with (go_at_call 24; refine (hf.out _).mono ?_; rintro e w2 ⟨rfl, rfl⟩)
        go_round
        case rel => exact ⟨k + 1, by omega, by go_num, _, rfl, by rw [Hid, HT.out]; rfl⟩
        case measure => simp [intOf]; omega
    · have hki : ¬ (k : Int) < (s.size : Int) := by omega
      have HF : Hid (b = rv) := by
        have h := HA.out
        rw [List.take_of_length_le (by simp; omega), HR.out] at h
        exact h.symm
      go_wp2
      go_ret
      exact ⟨ret_b HF.out, (Below.refl _ _).alloc (Nat.le_refl _) _⟩

set_option maxHeartbeats 1000000 in
theorem rright_sym3 (s : ByteArray) (w : World) (hs : s.size ≤ 300000) (o0 rv : Bool) (HR : Hid ((o0 && allS s.data.toList) = rv)) (h1 : (1 : Int) ≤ (s.size : Int)) (h2 : ¬ (s.size : Int) ≤ 40) (HO : Hid (o0 = false)) :
    Calls Tryd.prog 9 #[.agg #[.int .i64 (2), .int .i64 (0), .string (s)]] w fun e w' => e = .returned (.bool rv) ∧ Below w.heap.size w w' := by
  go_enter Tryd.func9, Tryd.ntmps9
  go_wp2
  go_loop [3, 4] (fun o i' => ∃ k : Nat, k ≤ s.size ∧ i' = .int .i64 k ∧ ∃ b, o = .bool b ∧ Hid ((o0 && allS (s.data.toList.take k)) = b)) (fun _ i' => s.size - (intOf i').toNat)
  case atStart => exact ⟨0, Nat.zero_le _, rfl, _, rfl, by rw [Hid, show allS (s.data.toList.take 0) = true from rfl, Bool.and_true]; exact HO.out⟩
  case round =>
    obtain ⟨k, hk, rfl, b, rfl, HA⟩ := hrel
    by_cases hlt : k < s.size
    · have hki : (k : Int) < (s.size : Int) := by omega
      obtain ⟨sg, HG⟩ : ∃ sg, Hid (signB s[k] = sg) := ⟨signB s[k], by rw [Hid]⟩
      have hf : Hid (∀ w : World, Calls Tryd.prog 24 #[.int .u8 (s[k].toNat : Int)] w fun e w' => e = .returned (.bool sg) ∧ w' = w) := by
        intro w; rw [← HG.out]; exact sign_any s[k] w
      have HT : Hid ((o0 && allS (s.data.toList.take (k + 1))) = (b && sg)) := by
        rw [Hid, take_snoc s k hlt, allS_snoc, ← Bool.and_assoc, HA.out, HG.out]
      cases b
      · go_wp2
        go_round
        case rel => exact ⟨k + 1, by omega, by go_num, _, rfl, by rw [Hid, HT.out]; rfl⟩
        case measure => simp [intOf]; omega
      · go_wp2_with (go_at_call 24; refine (hf.out _).mono ?_; rintro e w2 ⟨rfl, rfl⟩)
        go_round
        case rel => exact ⟨k + 1, by omega, by go_num, _, rfl, by rw [Hid, HT.out]; rfl⟩
        case measure => simp [intOf]; omega
    · have hki : ¬ (k : Int) < (s.size : Int) := by omega
      have HF : Hid (b = rv) := by
        have h := HA.out
        rw [List.take_of_length_le (by simp; omega), HR.out] at h
        exact h.symm
      go_wp2
      go_ret
      exact ⟨ret_b HF.out, (Below.refl _ _).alloc (Nat.le_refl _) _⟩

set_option maxHeartbeats 1000000 in
theorem rright_sym4 (s : ByteArray) (w : World) (o0 rv sh : Bool) (HR : Hid ((o0 && allS s.data.toList) = rv)) (h1 : (1 : Int) ≤ (s.size : Int)) (h2 : (s.size : Int) ≤ 40) (HO : Hid (o0 = !sh)) (HH : Hid (shapeL s.data.toList = sh)) :
    Calls Tryd.prog 9 #[.agg #[.int .i64 (2), .int .i64 (0), .string (s)]] w fun e w' => e = .returned (.bool rv) ∧ Below w.heap.size w w' := by
  have hn : Hid (∀ w : World, Calls Tryd.prog 23 #[.string s] w fun e w' => e = .returned (.bool sh) ∧ w' = w) := by
    intro w; rw [← HH.out]; exact shape_any s w (by omega)
  go_enter Tryd.func9, Tryd.ntmps9
  go_wp2_with (go_at_call 23; refine (hn.out _).mono ?_; rintro e w1 ⟨rfl, rfl⟩)
  go_loop [3, 4] (fun o i' => ∃ k : Nat, k ≤ s.size ∧ i' = .int .i64 k ∧ ∃ b, o = .bool b ∧ Hid ((o0 && allS (s.data.toList.take k)) = b)) (fun _ i' => s.size - (intOf i').toNat)
  case atStart => exact ⟨0, Nat.zero_le _, rfl, _, rfl, by rw [Hid, show allS (s.data.toList.take 0) = true from rfl, Bool.and_true]; exact HO.out⟩
  case round =>
    obtain ⟨k, hk, rfl, b, rfl, HA⟩ := hrel
    by_cases hlt : k < s.size
    · have hki : (k : Int) < (s.size : Int) := by omega
      obtain ⟨sg, HG⟩ : ∃ sg, Hid (signB s[k] = sg) := ⟨signB s[k], by rw [Hid]⟩
      have hf : Hid (∀ w : World, Calls Tryd.prog 24 #[.int .u8 (s[k].toNat : Int)] w fun e w' => e = .returned (.bool sg) ∧ w' = w) := by
        intro w; rw [← HG.out]; exact sign_any s[k] w
      have HT : Hid ((o0 && allS (s.data.toList.take (k + 1))) = (b && sg)) := by
        rw [Hid, take_snoc s k hlt, allS_snoc, ← Bool.and_assoc, HA.out, HG.out]
      cases b
      · go_wp2
        go_round
        case rel => exact ⟨k + 1, by omega, by go_num, _, rfl, by rw [Hid, HT.out]; rfl⟩
        case measure => simp [intOf]; omega
      · go_wp2_with (go_at_call 24; refine (hf.out _).mono ?_; rintro e w2 ⟨rfl, rfl⟩)
        go_round
        case rel => exact ⟨k + 1, by omega, by go_num, _, rfl, by rw [Hid, HT.out]; rfl⟩
        case measure => simp [intOf]; omega
    · have hki : ¬ (k : Int) < (s.size : Int) := by omega
      have HF : Hid (b = rv) := by
        have h := HA.out
        rw [List.take_of_length_le (by simp; omega), HR.out] at h
        exact h.symm
      go_wp2
      go_ret
      exact ⟨ret_b HF.out, (Below.refl _ _).alloc (Nat.le_refl _) _⟩

theorem rright_sym2 (w : World) :
    Calls Tryd.prog 9 #[.agg #[.int .i64 (2), .int .i64 (0), .string (⟨#[]⟩)]] w fun e w' => e = .returned (.bool false) ∧ Below w.heap.size w w' := by
  go_enter Tryd.func9, Tryd.ntmps9
  go_wp2
  refine wp_loop_rounds 1 ?_
  rw [rounds_succ]
  go_wp2
  go_ret
  exact ⟨rfl, (Below.refl _ _).alloc (Nat.le_refl _) _⟩

theorem rright_sym (i : Int) (s : ByteArray) (w : World) (hs : s.size ≤ 300000) :
    Calls Tryd.prog 9 #[.agg #[.int .i64 (2), .int .i64 (i), .string (s)]] w fun e w' => e = .returned (.bool (rightB 2 i s)) ∧ Below w.heap.size w w' := by
  have HR := ok_right i s
  by_cases hi : i = 0
  · subst hi
    by_cases h1 : 1 ≤ s.size
    · by_cases h2 : s.size ≤ 40
      · exact rright_sym4 s w _ _ _ HR (by omega) (by omega) (ok_yes ⟨rfl, h1, h2⟩).symm rfl
      · exact rright_sym3 s w hs _ _ HR (by omega) (by omega) (ok_no (by omega)).symm
    · have e := size_nil s (by omega)
      subst e
      exact rright_sym2 w
  · exact rright_sym1 i s w hs _ _ HR (by simpa using hi) (ok_no (by omega)).symm

theorem rright_any (k i : Int) (s : ByteArray) (w : World) (hs : s.size ≤ 300000) :
    Calls Tryd.prog 9 #[.agg #[.int .i64 (k), .int .i64 (i), .string (s)]] w fun e w' => e = .returned (.bool (rightB k i s)) ∧ Below w.heap.size w w' := by
  by_cases c1 : k = 1
  · subst c1
    have HE : Hid (rightB 1 i s = s.toList.isEmpty) := by rw [Hid, right_int, empty_is]
    go_enter Tryd.func9, Tryd.ntmps9
    go_wp2
    go_ret
    exact ⟨ret_b HE.out.symm, (Below.refl _ _).alloc (Nat.le_refl _) _⟩
  by_cases c2 : k = 2
  · subst c2
    exact rright_sym i s w hs
  by_cases c3 : k = 3
  · subst c3
    have HE : Hid (rightB 3 i s = decide (i = 0 ∧ (s.size : Int) ≤ 1000)) := by rw [Hid, right_str, decide_eq_decide]; omega
    go_enter Tryd.func9, Tryd.ntmps9
    go_wp2
    all_goals
      go_ret
      refine ⟨ret_b ?_, (Below.refl _ _).alloc (Nat.le_refl _) _⟩
      rw [HE.out]
      simp [*]
  have d1 : (k == 1) = false := by simpa using c1
  have d2 : (k == 2) = false := by simpa using c2
  have d3 : (k == 3) = false := by simpa using c3
  have HE : Hid (rightB k i s = false) := right_none i s c1 c2 c3
  clear c1 c2 c3
  go_enter Tryd.func9, Tryd.ntmps9
  go_wp2
  go_ret
  exact ⟨ret_b HE.out.symm, (Below.refl _ _).alloc (Nat.le_refl _) _⟩
end Go.Proofs.YtgjnnahflaaagaaDoor
