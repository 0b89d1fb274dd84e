/- The walk of LexValues. -/
import Derived.Test.YtlnkeebfaninfaaDoorLexConv
import Derived.Test.YtlnkeebfaninfaaDoorValRight3
import Derived.Deep.QuietTactic
import Derived.BigQuiet
namespace Go.Proofs.YtlnkeebfaninfaaDoor
open Go.RowKit

theorem right_wf {k i : Int} {s : ByteArray} (h : rightB k i s = true) (hi : inB i = true) : WfT k i s.data.toList ∧ (k = 1 ∨ k = 2 ∨ k = 3) := by
  have hk := right_kind h
  refine ⟨?_, hk⟩
  rcases hk with rfl | rfl | rfl
  · rw [right_int, decide_eq_true_eq] at h
    exact .inl ⟨rfl, hi, List.eq_nil_of_length_eq_zero (by rw [← Lib.size_eq]; exact h)⟩
  · rw [right_sym, Bool.and_eq_true, decide_eq_true_eq] at h
    have h2 := h.2
    unfold symB at h2
    rw [Bool.and_eq_true, Bool.and_eq_true, decide_eq_true_eq] at h2
    have e := Lib.size_eq s
    exact .inr (.inl ⟨rfl, h.1, by omega, by omega, h2.2.1, by simpa using h2.2.2⟩)
  · rw [right_str, decide_eq_true_eq] at h
    have e := Lib.size_eq s
    exact .inr (.inr (.inl ⟨rfl, h.1, by omega⟩))
theorem ba_of (s : ByteArray) : baL s.data.toList = s := rfl
theorem values_scan {k i : Int} {s : ByteArray} (h : rightB k i s = true) (hi : inB i = true) : scanS (rtextS k i s).data.toList 0 0 [] = ⟨[⟨k, 0, i, s.data.toList⟩], 0, 0⟩ ∧ (rtextS k i s).data.toList.length ≤ 2002 := by
  obtain ⟨hw, hk⟩ := right_wf h hi
  have e : (rtextS k i s).data.toList = tokL k i s.data.toList := by
    unfold tokL
    rw [ba_of, tokS_val i s hk, text_right hk]
  have h2 := S_text k i s.data.toList [] 0 [] hw gap_nil
  rw [List.append_nil] at h2
  refine ⟨by rw [e, h2]; rfl, ?_⟩
  rw [e]
  have hb := (wf_bd hw).1
  rcases hk with rfl | rfl | rfl
  · rw [tokL_int]; have := itoa_len i hi; omega
  · rw [tokL_sym]; omega
  · rw [tokL_str]
    have := (escL_len s.data.toList).2
    simp only [List.length_cons, List.length_append, List.length_nil]; omega

set_option maxHeartbeats 4000000 in
set_option maxRecDepth 8000 in
theorem values_walk (k i : Int) (s : ByteArray) (w : World) (_ : inB k = true) (hi : inB i = true) (hs : s.size ≤ maxLen) (h4 : Lib4 w) :
    Calls Tryd.prog 3 #[.agg #[.int .i64 (k), .int .i64 (i), .string (s)]] w fun e w' => e = .returned (.bool true) ∧ Below w.heap.size w w' := by
  have H4 : Hid (Lib4 w) := h4
  clear h4
  go_enter Tryd.func3, Tryd.ntmps3
  go_wp2_with fail
  refine (known_any _ (H4.out.next (alloc_below _ _))).mono ?_
  rintro e w1 ⟨rfl, hb1⟩
  have c0 := keep_cell hb1 (box0 (j := 0) (v := .int .i64 k) rfl)
  have c1 := keep_cell hb1 (box0 (j := 1) (v := .int .i64 i) rfl)
  have c2 := keep_cell hb1 (box0 (j := 2) (v := .string s) rfl)
  have HB1 : Hid (Below w.heap.size w w1) := next_trans (alloc_below _ _) hb1
  obtain ⟨B, HBb⟩ : ∃ B, Hid (w.heap.size = B) := ⟨_, rfl⟩
  rw [HBb.out] at c0 c1 c2
  clear hb1
  rw [HBb.out]
  cases hr : rightB k i s
  · have HR : Hid (∀ w : World, Calls Tryd.prog 6 #[.agg #[.int .i64 (k), .int .i64 (i), .string (s)]] w fun e w' => e = .returned (.bool false) ∧ Below w.heap.size w w') := by
      intro w; rw [← hr]; exact brright_any k i s w (by unfold maxLen at hs; omega)
    clear hr
    go_wp2_with fail
    refine (HR.out _).mono ?_
    rintro e w2 ⟨rfl, hb2⟩
    have HB2 : Hid (Below w.heap.size w w2) := next_trans HB1.out hb2
    clear hb2
    go_wp2
    go_ret
    exact ⟨rfl, HB2.out⟩
  · have HR : Hid (∀ w : World, Calls Tryd.prog 6 #[.agg #[.int .i64 (k), .int .i64 (i), .string (s)]] w fun e w' => e = .returned (.bool true) ∧ Below w.heap.size w w') := by
      intro w; rw [← hr]; exact brright_any k i s w (by unfold maxLen at hs; omega)
    obtain ⟨hsc, hln⟩ := values_scan hr hi
    have hs2 : s.size ≤ 1000 := by
      have := (wf_bd (right_wf hr hi).1).1
      rw [← Lib.size_eq] at this; exact this
    obtain ⟨X, HX⟩ : ∃ X, Hid (rtextS k i s = X) := ⟨_, rfl⟩
    have HT : Hid (∀ w : World, Calls Tryd.prog 8 #[.agg #[.int .i64 (k), .int .i64 (i), .string (s)]] w fun e w' => e = .returned (.string X) ∧ Below w.heap.size w w') := by
      intro w; rw [← HX.out]; exact rtext_val k i s w (by omega) hi
    rw [HX.out] at hsc hln
    have HSc : Hid (scanS X.data.toList 0 0 [] = ⟨[⟨k, 0, i, s.data.toList⟩], 0, 0⟩) := hsc
    have HLn : Hid (X.data.toList.length ≤ 2002) := hln
    clear hr hsc hln
    go_wp2_with fail
    refine (HR.out _).mono ?_
    rintro e w2 ⟨rfl, hb2⟩
    have HB2 : Hid (Below w.heap.size w w2) := next_trans HB1.out hb2
    have f0 := keep_cell hb2 c0
    have f1 := keep_cell hb2 c1
    have f2 := keep_cell hb2 c2
    clear hb2 c0 c1 c2
    go_wp2_with fail
    refine (HT.out _).mono ?_
    rintro e w3 ⟨rfl, hb3⟩
    have HB3 : Hid (Below w.heap.size w w3) := next_trans HB2.out hb3
    have c0 := keep_cell hb3 f0
    have c1 := keep_cell hb3 f1
    have c2 := keep_cell hb3 f2
    clear hb3 f0 f1 f2
    have hcv := conv_str X w3
    go_wp2_with fail
    refine (scan_conv X X.data.toList [⟨k, 0, i, s.data.toList⟩] w3 _ rfl (ba_of X).symm (by have := HLn.out; omega) (H4.out.next HB3.out).max HSc.out).mono ?_
    rintro e w4 ⟨⟨to, tc, rfl, ht⟩, hb4⟩
    have HB4 : Hid (Below w.heap.size w w4) := next_trans HB3.out hb4
    have f0 := keep_cell hb4 c0
    have f1 := keep_cell hb4 c1
    have f2 := keep_cell hb4 c2
    obtain ⟨b, o, rfl, t0, t1, t2, t3⟩ := ht 0 _ rfl
    simp only [Nat.zero_mul, Nat.add_zero] at t0 t1 t2 t3
    rw [ba_of] at t3
    clear hb4 c0 c1 c2 hcv
    go_wp2
    go_quiet (fail)
    go_wp2
    go_ret
    refine ⟨rfl, ?_⟩
    exact HB4.out.trans ((show SameW w4 (w4.drewN _) from ⟨_, rfl⟩).below _)
end Go.Proofs.YtlnkeebfaninfaaDoor
