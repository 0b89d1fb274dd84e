/- The contract of package num's Parse: what it answers at any text of at most 100,000 bytes. -/
import Derived.Test.YtfglmfldpmpofaaDoorNumParse
namespace Go.Proofs.YtfglmfldpmpofaaDoor
open Go.RowKit

theorem split_at (s T : ByteArray) (neg : Bool) (w : World) (hs : s.size ≤ 100000) (hn : negL s.data.toList = neg) (hT : (⟨(bodyL s.data.toList).toArray⟩ : ByteArray) = T) :
    Calls Tryd.prog 83 #[.string s] w fun e w' => e = .returned (.tuple #[.bool neg, .string T]) ∧ ∃ n, w' = w.drewN n := by
  rw [← hn, ← hT]; exact split_sign s w hs
theorem digits_at (T : ByteArray) (b : Bool) (w : World) (hs : T.size ≤ 100000) (hb : (allD T.data.toList && !T.toList.isEmpty) = b) :
    Calls Tryd.prog 84 #[.string T] w fun e w' => e = .returned (.bool b) ∧ w' = w := by
  rw [← hb]; exact all_digits T w hs
theorem size_yes (T : ByteArray) (M : Int) (D m : Nat) (w : World) (hs : T.size ≤ 100000) (hall : allD T.data.toList = true) (hM : M = (m : Int)) (hm1 : 10 ≤ m) (hm2 : m ≤ 9223372036854775808) (hD : dval T.data.toList = D) (hle : D ≤ m) :
    Calls Tryd.prog 85 #[.string T, .int .u64 M] w fun e w' => e = .returned (.tuple #[.int .u64 D, .int .i64 0]) ∧ w' = w := by
  have h := size_of T m w hs hall hm1 hm2
  unfold sizV sizE at h
  rw [hD, if_pos hle, if_pos hle] at h
  rw [hM]; exact h
theorem size_no (T : ByteArray) (M : Int) (D m : Nat) (w : World) (hs : T.size ≤ 100000) (hall : allD T.data.toList = true) (hM : M = (m : Int)) (hm1 : 10 ≤ m) (hm2 : m ≤ 9223372036854775808) (hD : dval T.data.toList = D) (hle : ¬ D ≤ m) :
    Calls Tryd.prog 85 #[.string T, .int .u64 M] w fun e w' => e = .returned (.tuple #[.int .u64 0, .int .i64 11]) ∧ w' = w := by
  have h := size_of T m w hs hall hm1 hm2
  unfold sizV sizE at h
  rw [hD, if_neg hle, if_neg hle] at h
  rw [hM]; exact h

/-- Is a text a number's? What is it worth? -/
def shapeL (l : List UInt8) : Bool := allD (bodyL l) && !(bodyL l).isEmpty
def valL (l : List UInt8) : Int := if negL l = true then -(dval (bodyL l) : Int) else (dval (bodyL l) : Int)
def parV (l : List UInt8) : Int := if shapeL l = true then resV (valL l) else 0
def parE (l : List UInt8) : Int := if shapeL l = true then resE (valL l) else 2
theorem parE_bd (l : List UInt8) : 0 ≤ parE l ∧ parE l ≤ 11 := by
  have := resE_bd (valL l)
  unfold parE; split <;> omega

theorem ret_ii {a b c : Int} (h : a = b) : Ending.returned (.tuple #[.int .i64 a, .int .i64 c]) = .returned (.tuple #[.int .i64 b, .int .i64 c]) := by rw [h]
theorem neg_wrap (D : Nat) (h : D ≤ 9223372036854775808) : wrap64 (IntKind.u64.wrap (-(D : Int))) = -(D : Int) := by
  rw [IntKind.wrap_u64]; unfold wrap64; omega

theorem parse_form (s T : ByteArray) (neg : Bool) (w : World) (hs : s.size ≤ 100000) (H1 : Hid (negL s.data.toList = neg)) (H2 : Hid ((⟨(bodyL s.data.toList).toArray⟩ : ByteArray) = T)) (ht : T.size ≤ 100000)
    (H3 : Hid ((allD T.data.toList && !T.toList.isEmpty) = false)) :
    Calls Tryd.prog 80 #[.string s] w fun e w' => e = .returned (.tuple #[.int .i64 0, .int .i64 2]) ∧ ∃ n, w' = w.drewN n := by
  go_enter Tryd.func80, Tryd.ntmps80
  go_wp2_with (first | (go_at_call 83; refine (split_at s T neg _ hs H1.out H2.out).mono ?_; rintro e w' ⟨rfl, n, rfl⟩) | (go_at_call 84; refine (digits_at T false _ ht H3.out).mono ?_; rintro e w' ⟨rfl, rfl⟩))
  go_ret2
  exact ⟨rfl, _, rfl⟩

theorem parse_pos (s T : ByteArray) (D : Nat) (w : World) (hs : s.size ≤ 100000) (H1 : Hid (negL s.data.toList = false)) (H2 : Hid ((⟨(bodyL s.data.toList).toArray⟩ : ByteArray) = T)) (ht : T.size ≤ 100000)
    (H3 : Hid ((allD T.data.toList && !T.toList.isEmpty) = true)) (H4 : Hid (allD T.data.toList = true)) (H5 : Hid (dval T.data.toList = D)) (hD : D ≤ 9223372036854775807) :
    Calls Tryd.prog 80 #[.string s] w fun e w' => e = .returned (.tuple #[.int .i64 D, .int .i64 0]) ∧ ∃ n, w' = w.drewN n := by
  go_enter Tryd.func80, Tryd.ntmps80
  go_wp2_with (first | (go_at_call 83; refine (split_at s T false _ hs H1.out H2.out).mono ?_; rintro e w' ⟨rfl, n, rfl⟩) | (go_at_call 84; refine (digits_at T true _ ht H3.out).mono ?_; rintro e w' ⟨rfl, rfl⟩) | (go_at_call 85; refine (size_yes T _ D 9223372036854775807 _ ht H4.out rfl (by omega) (by omega) H5.out hD).mono ?_; rintro e w' ⟨rfl, rfl⟩))
  go_ret2
  exact ⟨rfl, _, rfl⟩

theorem parse_pos_no (s T : ByteArray) (D : Nat) (w : World) (hs : s.size ≤ 100000) (H1 : Hid (negL s.data.toList = false)) (H2 : Hid ((⟨(bodyL s.data.toList).toArray⟩ : ByteArray) = T)) (ht : T.size ≤ 100000)
    (H3 : Hid ((allD T.data.toList && !T.toList.isEmpty) = true)) (H4 : Hid (allD T.data.toList = true)) (H5 : Hid (dval T.data.toList = D)) (hD : ¬ D ≤ 9223372036854775807) :
    Calls Tryd.prog 80 #[.string s] w fun e w' => e = .returned (.tuple #[.int .i64 0, .int .i64 11]) ∧ ∃ n, w' = w.drewN n := by
  go_enter Tryd.func80, Tryd.ntmps80
  go_wp2_with (first | (go_at_call 83; refine (split_at s T false _ hs H1.out H2.out).mono ?_; rintro e w' ⟨rfl, n, rfl⟩) | (go_at_call 84; refine (digits_at T true _ ht H3.out).mono ?_; rintro e w' ⟨rfl, rfl⟩) | (go_at_call 85; refine (size_no T _ D 9223372036854775807 _ ht H4.out rfl (by omega) (by omega) H5.out (by omega)).mono ?_; rintro e w' ⟨rfl, rfl⟩))
  go_ret2
  exact ⟨rfl, _, rfl⟩

theorem parse_neg_no (s T : ByteArray) (D : Nat) (w : World) (hs : s.size ≤ 100000) (H1 : Hid (negL s.data.toList = true)) (H2 : Hid ((⟨(bodyL s.data.toList).toArray⟩ : ByteArray) = T)) (ht : T.size ≤ 100000)
    (H3 : Hid ((allD T.data.toList && !T.toList.isEmpty) = true)) (H4 : Hid (allD T.data.toList = true)) (H5 : Hid (dval T.data.toList = D)) (hD : ¬ D ≤ 9223372036854775808) :
    Calls Tryd.prog 80 #[.string s] w fun e w' => e = .returned (.tuple #[.int .i64 0, .int .i64 11]) ∧ ∃ n, w' = w.drewN n := by
  go_enter Tryd.func80, Tryd.ntmps80
  go_wp2_with (first | (go_at_call 83; refine (split_at s T true _ hs H1.out H2.out).mono ?_; rintro e w' ⟨rfl, n, rfl⟩) | (go_at_call 84; refine (digits_at T true _ ht H3.out).mono ?_; rintro e w' ⟨rfl, rfl⟩) | (go_at_call 85; refine (size_no T _ D 9223372036854775808 _ ht H4.out rfl (by omega) (by omega) H5.out (by omega)).mono ?_; rintro e w' ⟨rfl, rfl⟩))
  go_ret2
  exact ⟨rfl, _, rfl⟩

theorem parse_neg (s T : ByteArray) (D : Nat) (w : World) (hs : s.size ≤ 100000) (H1 : Hid (negL s.data.toList = true)) (H2 : Hid ((⟨(bodyL s.data.toList).toArray⟩ : ByteArray) = T)) (ht : T.size ≤ 100000)
    (H3 : Hid ((allD T.data.toList && !T.toList.isEmpty) = true)) (H4 : Hid (allD T.data.toList = true)) (H5 : Hid (dval T.data.toList = D)) (hD : D ≤ 9223372036854775808) :
    Calls Tryd.prog 80 #[.string s] w fun e w' => e = .returned (.tuple #[.int .i64 (-D), .int .i64 0]) ∧ ∃ n, w' = w.drewN n := by
  go_enter Tryd.func80, Tryd.ntmps80
  go_wp2_with (first | (go_at_call 83; refine (split_at s T true _ hs H1.out H2.out).mono ?_; rintro e w' ⟨rfl, n, rfl⟩) | (go_at_call 84; refine (digits_at T true _ ht H3.out).mono ?_; rintro e w' ⟨rfl, rfl⟩) | (go_at_call 85; refine (size_yes T _ D 9223372036854775808 _ ht H4.out rfl (by omega) (by omega) H5.out hD).mono ?_; rintro e w' ⟨rfl, rfl⟩))
  go_ret2
  exact ⟨ret_ii (neg_wrap D hD), _, rfl⟩

theorem body_len (l : List UInt8) : (bodyL l).length ≤ l.length := by
  cases l with
  | nil => exact Nat.le_refl _
  | cons c r => show (if c.toNat = 45 ∨ c.toNat = 43 then r else c :: r).length ≤ (c :: r).length; split <;> simp
theorem isEmpty_mk (l : List UInt8) : (⟨l.toArray⟩ : ByteArray).toList.isEmpty = l.isEmpty := by rw [Lib.toList_data]
theorem size_mk (l : List UInt8) : (⟨l.toArray⟩ : ByteArray).size = l.length := rfl

/-- What Parse answers, at any text of at most 100,000 bytes. -/
theorem parse_any (s : ByteArray) (w : World) (hs : s.size ≤ 100000) :
    Calls Tryd.prog 80 #[.string s] w fun e w' => e = .returned (.tuple #[.int .i64 (parV s.data.toList), .int .i64 (parE s.data.toList)]) ∧ ∃ n, w' = w.drewN n := by
  have ht : (⟨(bodyL s.data.toList).toArray⟩ : ByteArray).size ≤ 100000 := by
    rw [size_mk]
    have := body_len s.data.toList
    have e : s.data.toList.length = s.size := by simp
    omega
  have hb : ((allD (⟨(bodyL s.data.toList).toArray⟩ : ByteArray).data.toList) && !(⟨(bodyL s.data.toList).toArray⟩ : ByteArray).toList.isEmpty) = shapeL s.data.toList := by
    rw [isEmpty_mk]; rfl
  unfold parV parE
  cases hsh : shapeL s.data.toList
  · rw [if_neg (by decide), if_neg (by decide)]
    exact parse_form s _ _ w hs rfl rfl ht (hb.trans hsh)
  · rw [if_pos rfl, if_pos rfl]
    have hall : allD (bodyL s.data.toList) = true := by
      unfold shapeL at hsh
      rw [Bool.and_eq_true] at hsh
      exact hsh.1
    unfold valL
    cases hn : negL s.data.toList
    · rw [if_neg (by decide)]
      by_cases hD : dval (bodyL s.data.toList) ≤ 9223372036854775807
      · have h : inB (dval (bodyL s.data.toList) : Int) = true := by rw [inB_iff]; omega
        rw [resV_in h, resE_in h]
        exact parse_pos s _ _ w hs hn rfl ht (hb.trans hsh) hall rfl hD
      · have h : inB (dval (bodyL s.data.toList) : Int) = false := by rw [inB_not]; omega
        rw [resV_out h, resE_out h]
        exact parse_pos_no s _ _ w hs hn rfl ht (hb.trans hsh) hall rfl hD
    · rw [if_pos rfl]
      by_cases hD : dval (bodyL s.data.toList) ≤ 9223372036854775808
      · have h : inB (-(dval (bodyL s.data.toList) : Int)) = true := by rw [inB_iff]; omega
        rw [resV_in h, resE_in h]
        exact parse_neg s _ _ w hs hn rfl ht (hb.trans hsh) hall rfl hD
      · have h : inB (-(dval (bodyL s.data.toList) : Int)) = false := by rw [inB_not]; omega
        rw [resV_out h, resE_out h]
        exact parse_neg_no s _ _ w hs hn rfl ht (hb.trans hsh) hall rfl hD
end Go.Proofs.YtfglmfldpmpofaaDoor
