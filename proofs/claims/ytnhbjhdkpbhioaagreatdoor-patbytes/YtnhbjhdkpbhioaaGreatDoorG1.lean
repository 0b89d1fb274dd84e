import Derived.WalkKit
import Derived.Lib.Strings
import Derived.Lib.IndexBytes
import Derived.Lib.ItoaNum
import Derived.Test.YtnhbjhdkpbhioaaGreatDoorProg
import Derived.Deep.QuietTactic
import Derived.BigQuiet
namespace Go.Proofs.YtnhbjhdkpbhioaaGreatDoor
open Go.RowKit
def inB (n : Int) : Bool := decide (-9223372036854775808 ≤ n ∧ n ≤ 9223372036854775807)
theorem inB_iff (n : Int) : inB n = true ↔ (-9223372036854775808 ≤ n ∧ n ≤ 9223372036854775807) := by unfold inB; simp
theorem inB_not (n : Int) : inB n = false ↔ (n < -9223372036854775808 ∨ 9223372036854775807 < n) := by unfold inB; simp; omega
def resV (n : Int) : Int := if inB n = true then n else 0
def resE (n : Int) : Int := if inB n = true then 0 else 11
theorem resV_in {n : Int} (h : inB n = true) : resV n = n := by unfold resV; rw [if_pos h]
theorem resE_in {n : Int} (h : inB n = true) : resE n = 0 := by unfold resE; rw [if_pos h]
theorem resV_out {n : Int} (h : inB n = false) : resV n = 0 := by unfold resV; rw [if_neg (by rw [h]; decide)]
theorem resE_out {n : Int} (h : inB n = false) : resE n = 11 := by unfold resE; rw [if_neg (by rw [h]; decide)]
theorem resV_bd (n : Int) : inB (resV n) = true := by
  unfold resV; split
  · assumption
  · decide
theorem mul_natAbs (a b : Int) : (a * b).natAbs = a.natAbs * b.natAbs := Int.natAbs_mul a b
theorem mul_sign (a b : Int) : a * b = if (a < 0) ≠ (b < 0) then -((a.natAbs * b.natAbs : Nat) : Int) else ((a.natAbs * b.natAbs : Nat) : Int) := by
  have hn := mul_natAbs a b
  by_cases ha : a < 0 <;> by_cases hb : b < 0
  · have : 0 < a * b := Int.mul_pos_of_neg_of_neg ha hb
    simp [ha, hb]; omega
  · have : a * b ≤ 0 := Int.mul_nonpos_of_nonpos_of_nonneg (by omega) (by omega)
    simp [ha, hb]; omega
  · have : a * b ≤ 0 := Int.mul_nonpos_of_nonneg_of_nonpos (by omega) (by omega)
    simp [ha, hb]; omega
  · have : 0 ≤ a * b := Int.mul_nonneg (by omega) (by omega)
    simp [ha, hb]; omega
theorem gt_div (x y top : Nat) (hx : x ≠ 0) : top / x < y ↔ top < x * y := by
  rw [Nat.div_lt_iff_lt_mul (by omega), Nat.mul_comm]
end Go.Proofs.YtnhbjhdkpbhioaaGreatDoor
namespace Go.Proofs.YtnhbjhdkpbhioaaGreatDoor
open Go.RowKit
def negL : List UInt8 → Bool
  | [] => false
  | c :: _ => c.toNat == 45
def bodyL : List UInt8 → List UInt8
  | [] => []
  | c :: r => if c.toNat = 45 ∨ c.toNat = 43 then r else c :: r
def digB (c : UInt8) : Bool := decide (48 ≤ c.toNat ∧ c.toNat ≤ 57)
def dval (l : List UInt8) : Nat := l.foldl (fun n c => n * 10 + (c.toNat - 48)) 0
theorem dval_snoc (l : List UInt8) (c : UInt8) : dval (l ++ [c]) = dval l * 10 + (c.toNat - 48) := by unfold dval; rw [List.foldl_append]; rfl
theorem foldl_mono (l : List UInt8) : ∀ n : Nat, n ≤ l.foldl (fun n c => n * 10 + (c.toNat - 48)) n := by
  induction l with
  | nil => intro n; exact Nat.le_refl _
  | cons c r ih => intro n; exact Nat.le_trans (by omega) (ih (n * 10 + (c.toNat - 48)))
theorem dval_mono (l r : List UInt8) : dval l ≤ dval (l ++ r) := by unfold dval; rw [List.foldl_append]; exact foldl_mono r _
theorem dval_take (l : List UInt8) (k : Nat) : dval (l.take k) ≤ dval l := by
  have h := dval_mono (l.take k) (l.drop k)
  rwa [List.take_append_drop] at h
theorem take_snoc (s : ByteArray) (k : Nat) (h : k < s.size) : s.data.toList.take (k + 1) = s.data.toList.take k ++ [s[k]] := by
  rw [List.take_succ_eq_append_getElem (by simpa using h)]; rfl
theorem list_cons (s : ByteArray) (h : 0 < s.size) : ∃ r, s.data.toList = s[0] :: r ∧ s.extract 1 s.size = ⟨r.toArray⟩ := by
  obtain ⟨⟨l⟩⟩ := s
  cases l with
  | nil => exact absurd h (by decide)
  | cons c r =>
    refine ⟨r, rfl, ?_⟩
    rw [Lib.extract_eq]
    have e : (ByteArray.mk (c :: r).toArray).size - 1 = r.length := by
      show (c :: r).length - 1 = r.length
      simp
    rw [e]
    simp
theorem size_nil (s : ByteArray) (h : s.size = 0) : s = ⟨#[]⟩ := by
  obtain ⟨⟨l⟩⟩ := s
  cases l with
  | nil => rfl
  | cons c r => exact absurd h (by show ¬ (c :: r).length = 0; simp)
theorem not_empty (s : ByteArray) (h : 0 < s.size) : s.toList.isEmpty = false := by
  rw [Lib.toList_data]
  obtain ⟨⟨l⟩⟩ := s
  cases l with
  | nil => exact absurd h (by decide)
  | cons c r => rfl
end Go.Proofs.YtnhbjhdkpbhioaaGreatDoor
namespace Go.Proofs.YtnhbjhdkpbhioaaGreatDoor
open Go.RowKit
theorem ret_bs {b : Bool} {s t : ByteArray} (h : s = t) : Ending.returned (.tuple #[.bool b, .string s]) = .returned (.tuple #[.bool b, .string t]) := by rw [h]
theorem split_sign (s : ByteArray) (w : World) (hs : s.size ≤ 300000) :
    Calls Tryz.prog 163 #[.string s] w fun e w' => e = .returned (.tuple #[.bool (negL s.data.toList), .string ⟨(bodyL s.data.toList).toArray⟩]) ∧ ∃ n, w' = w.drewN n := by
  by_cases h0 : s.size = 0
  · have e := size_nil s h0
    subst e
    clear h0 hs
    go_enter Tryz.func163, Tryz.ntmps163
    go_wp2
    go_ret2
    exact ⟨rfl, 0, rfl⟩
  have h1 : 0 < s.size := by omega
  have hne := not_empty s h1
  have hi : (0 : Int) < (s.size : Int) := by omega
  obtain ⟨r, hr, hx⟩ := list_cons s h1
  rw [hr]
  by_cases c1 : s[0].toNat = 45
  · have d1 : ((s[0].toNat : Int) == 45) = true := by simp; omega
    have e1 : negL (s[0] :: r) = true := by simp [negL, c1]
    have e2 : bodyL (s[0] :: r) = r := by simp [bodyL, c1]
    rw [e1, e2]
    have HX : Hid (s.extract 1 s.size = ⟨r.toArray⟩) := hx
    clear e1 e2 hx hr c1 h0
    go_enter Tryz.func163, Tryz.ntmps163
    go_wp2
    go_quiet (fail)
    go_wp2
    go_ret2
    exact ⟨ret_bs HX.out, _, rfl⟩
  · have d1 : ((s[0].toNat : Int) == 45) = false := by simp; omega
    by_cases c2 : s[0].toNat = 43
    · have d2 : ((s[0].toNat : Int) == 43) = true := by simp; omega
      have e1 : negL (s[0] :: r) = false := by simp [negL, c1]
      have e2 : bodyL (s[0] :: r) = r := by simp [bodyL, c2]
      rw [e1, e2]
      have HX : Hid (s.extract 1 s.size = ⟨r.toArray⟩) := hx
      clear e1 e2 hx hr c1 c2 h0
      go_enter Tryz.func163, Tryz.ntmps163
      go_wp2
      go_quiet (fail)
      go_wp2
      go_ret2
      exact ⟨ret_bs HX.out, _, rfl⟩
    · have d2 : ((s[0].toNat : Int) == 43) = false := by simp; omega
      have e1 : negL (s[0] :: r) = false := by simp [negL, c1]
      have e2 : bodyL (s[0] :: r) = s.data.toList := by rw [hr]; simp [bodyL, c1, c2]
      rw [e1, e2]
      clear e1 e2 hx hr c1 c2 h0
      go_enter Tryz.func163, Tryz.ntmps163
      go_wp2
      go_ret2
      exact ⟨rfl, 0, rfl⟩
def allD (l : List UInt8) : Bool := l.all digB
theorem allD_snoc (l : List UInt8) (c : UInt8) : allD (l ++ [c]) = (allD l && digB c) := by unfold allD; rw [List.all_append]; simp
theorem allD_take {l : List UInt8} (k : Nat) (h : allD l = true) : allD (l.take k) = true := by
  unfold allD at *
  rw [List.all_eq_true] at *
  exact fun x hx => h x (List.mem_of_mem_take hx)
theorem allD_no {l : List UInt8} {k : Nat} (h : allD (l.take k) = false) : allD l = false := by
  cases e : allD l
  · rfl
  · rw [allD_take k e] at h; exact absurd h (by decide)
theorem digB_yes {c : UInt8} (h1 : 48 ≤ (c.toNat : Int)) (h2 : (c.toNat : Int) ≤ 57) : digB c = true := by unfold digB; simp; omega
theorem digB_lo {c : UInt8} (h1 : (c.toNat : Int) < 48) : digB c = false := by unfold digB; simp; omega
theorem digB_hi {c : UInt8} (h1 : 57 < (c.toNat : Int)) : digB c = false := by unfold digB; simp; omega
theorem digB_bd {c : UInt8} (h : digB c = true) : 48 ≤ c.toNat ∧ c.toNat ≤ 57 := by unfold digB at h; simpa using h
theorem ret_bool {a b : Bool} (h : a = b) : Ending.returned (.bool a) = .returned (.bool b) := by rw [h]
set_option maxHeartbeats 400000 in
theorem all_digits (s : ByteArray) (w : World) (hs : s.size ≤ 300000) :
    Calls Tryz.prog 164 #[.string s] w fun e w' => e = .returned (.bool (allD s.data.toList && !s.toList.isEmpty)) ∧ w' = w := by
  go_enter Tryz.func164, Tryz.ntmps164
  go_wp2
  go_loop [6] (fun i => ∃ k : Nat, k ≤ s.size ∧ i = .int .i64 k ∧ allD (s.data.toList.take k) = true) (fun i => s.size - (intOf i).toNat)
  case atStart => exact ⟨0, Nat.zero_le _, rfl, rfl⟩
  case round =>
    obtain ⟨k, hk, rfl, hall⟩ := hrel
    by_cases hlt : k < s.size
    · have hts := take_snoc s k hlt
      have hsn := allD_snoc (s.data.toList.take k) s[k]
      rw [← hts, hall, Bool.true_and] at hsn
      have HS : Hid (allD (s.data.toList.take (k + 1)) = digB s[k]) := hsn
      clear hsn hts hall
      by_cases c1 : (s[k].toNat : Int) < 48
      · have HF : Hid (allD s.data.toList = false) := allD_no (k := k + 1) (by rw [HS.out]; exact digB_lo c1)
        clear HS
        go_wp2
        go_ret
        exact ⟨ret_bool (by rw [HF.out]; rfl), rfl⟩
      · by_cases c2 : 57 < (s[k].toNat : Int)
        · have HF : Hid (allD s.data.toList = false) := allD_no (k := k + 1) (by rw [HS.out]; exact digB_hi c2)
          clear HS
          go_wp2
          go_ret
          exact ⟨ret_bool (by rw [HF.out]; rfl), rfl⟩
        · have HT : Hid (allD (s.data.toList.take (k + 1)) = true) := by rw [Hid, HS.out]; exact digB_yes (by omega) (by omega)
          clear HS
          go_wp2
          go_round
          case rel => exact ⟨k + 1, by omega, by go_num, HT.out⟩
          case measure => simp [intOf]; omega
    · have HA : Hid (allD s.data.toList = true) := by rw [List.take_of_length_le (by simp; omega)] at hall; exact hall
      clear hall
      go_wp2
      go_ret
      exact ⟨ret_bool (by rw [HA.out]; rfl), rfl⟩
theorem ret_ui {a b c d : Int} (h : a = b) (h2 : c = d) : Ending.returned (.tuple #[.int .u64 a, .int .i64 c]) = .returned (.tuple #[.int .u64 b, .int .i64 d]) := by rw [h, h2]
def sizV (l : List UInt8) (m : Nat) : Int := if dval l ≤ m then (dval l : Int) else 0
def sizE (l : List UInt8) (m : Nat) : Int := if dval l ≤ m then 0 else 11
set_option maxHeartbeats 400000 in
theorem size_of (s : ByteArray) (m : Nat) (w : World) (hs : s.size ≤ 300000) (hall : allD s.data.toList = true) (hm1 : 10 ≤ m) (hm2 : m ≤ 9223372036854775808) :
    Calls Tryz.prog 165 #[.string s, .int .u64 m] w fun e w' => e = .returned (.tuple #[.int .u64 (sizV s.data.toList m), .int .i64 (sizE s.data.toList m)]) ∧ w' = w := by
  have HA : Hid (allD s.data.toList = true) := hall
  clear hall
  go_enter Tryz.func165, Tryz.ntmps165
  go_wp2
  go_loop [6, 11] (fun z i => ∃ k D : Nat, k ≤ s.size ∧ i = .int .i64 k ∧ z = .int .u64 D ∧ Hid (dval (s.data.toList.take k) = D) ∧ D ≤ m) (fun _ i => s.size - (intOf i).toNat)
  case atStart => exact ⟨0, 0, Nat.zero_le _, rfl, rfl, rfl, Nat.zero_le _⟩
  case round =>
    obtain ⟨k, D, hk, rfl, rfl, HD, hDm⟩ := hrel
    by_cases hlt : k < s.size
    · have hts := take_snoc s k hlt
      have hsn := dval_snoc (s.data.toList.take k) s[k]
      rw [← hts, HD.out] at hsn
      have hdg : digB s[k] = true := by
        have h := allD_take (k + 1) HA.out
        rw [hts, allD_snoc, Bool.and_eq_true] at h
        exact h.2
      obtain ⟨g1, g2⟩ := digB_bd hdg
      have HS : Hid (dval (s.data.toList.take (k + 1)) = D * 10 + (s[k].toNat - 48)) := hsn
      clear hsn hts hdg
      have b1 : 48 ≤ (s[k].toNat : Int) := by omega
      have b2 : (s[k].toNat : Int) ≤ 57 := by omega
      by_cases hc : D * 10 + (s[k].toNat - 48) ≤ m
      · have ht : ¬ ((m : Int) - ((s[k].toNat : Int) - 48)) / 10 < (D : Int) := by omega
        have HN : Hid (D * 10 + (s[k].toNat - 48) ≤ m) := hc
        have EN : Hid ((D : Int) * 10 + ((s[k].toNat : Int) - 48) = ((D * 10 + (s[k].toNat - 48) : Nat) : Int)) := by rw [Hid]; omega
        clear hc g1 g2
        go_wp2
        go_round
        case rel => exact ⟨k + 1, D * 10 + (s[k].toNat - 48), by omega, by go_num, by rw [← EN.out], HS.out, HN.out⟩
        case measure => simp [intOf]; omega
      · have ht : ((m : Int) - ((s[k].toNat : Int) - 48)) / 10 < (D : Int) := by omega
        have HF : Hid (¬ dval s.data.toList ≤ m) := by
          intro h
          have := dval_take s.data.toList (k + 1)
          rw [HS.out] at this
          omega
        clear hc g1 g2 HS
        go_wp2
        go_ret2
        exact ⟨ret_ui (by unfold sizV; rw [if_neg HF.out]) (by unfold sizE; rw [if_neg HF.out]), rfl⟩
    · have HE : Hid (dval s.data.toList = D) := by
        have h := HD.out
        rw [List.take_of_length_le (by simp; omega)] at h
        exact h
      clear HD HA
      go_wp2
      go_ret2
      exact ⟨ret_ui (by unfold sizV; rw [HE.out, if_pos hDm]) (by unfold sizE; rw [HE.out, if_pos hDm]), rfl⟩
end Go.Proofs.YtnhbjhdkpbhioaaGreatDoor
namespace Go.Proofs.YtnhbjhdkpbhioaaGreatDoor
open Go.RowKit
theorem split_at (s T : ByteArray) (neg : Bool) (w : World) (hs : s.size ≤ 300000) (hn : negL s.data.toList = neg) (hT : (⟨(bodyL s.data.toList).toArray⟩ : ByteArray) = T) :
    Calls Tryz.prog 163 #[.string s] w fun e w' => e = .returned (.tuple #[.bool neg, .string T]) ∧ ∃ n, w' = w.drewN n := by
  rw [← hn, ← hT]; exact split_sign s w hs
theorem digits_at (T : ByteArray) (b : Bool) (w : World) (hs : T.size ≤ 300000) (hb : (allD T.data.toList && !T.toList.isEmpty) = b) :
    Calls Tryz.prog 164 #[.string T] w fun e w' => e = .returned (.bool b) ∧ w' = w := by
  rw [← hb]; exact all_digits T w hs
theorem size_yes (T : ByteArray) (M : Int) (D m : Nat) (w : World) (hs : T.size ≤ 300000) (hall : allD T.data.toList = true) (hM : M = (m : Int)) (hm1 : 10 ≤ m) (hm2 : m ≤ 9223372036854775808) (hD : dval T.data.toList = D) (hle : D ≤ m) :
    Calls Tryz.prog 165 #[.string T, .int .u64 M] w fun e w' => e = .returned (.tuple #[.int .u64 D, .int .i64 0]) ∧ w' = w := by
  have h := size_of T m w hs hall hm1 hm2
  unfold sizV sizE at h
  rw [hD, if_pos hle, if_pos hle] at h
  rw [hM]; exact h
theorem size_no (T : ByteArray) (M : Int) (D m : Nat) (w : World) (hs : T.size ≤ 300000) (hall : allD T.data.toList = true) (hM : M = (m : Int)) (hm1 : 10 ≤ m) (hm2 : m ≤ 9223372036854775808) (hD : dval T.data.toList = D) (hle : ¬ D ≤ m) :
    Calls Tryz.prog 165 #[.string T, .int .u64 M] w fun e w' => e = .returned (.tuple #[.int .u64 0, .int .i64 11]) ∧ w' = w := by
  have h := size_of T m w hs hall hm1 hm2
  unfold sizV sizE at h
  rw [hD, if_neg hle, if_neg hle] at h
  rw [hM]; exact h
def shapeL (l : List UInt8) : Bool := allD (bodyL l) && !(bodyL l).isEmpty
def valL (l : List UInt8) : Int := if negL l = true then -(dval (bodyL l) : Int) else (dval (bodyL l) : Int)
def parV (l : List UInt8) : Int := if shapeL l = true then resV (valL l) else 0
def parE (l : List UInt8) : Int := if shapeL l = true then resE (valL l) else 2
theorem ret_ii {a b c : Int} (h : a = b) : Ending.returned (.tuple #[.int .i64 a, .int .i64 c]) = .returned (.tuple #[.int .i64 b, .int .i64 c]) := by rw [h]
theorem neg_wrap (D : Nat) (h : D ≤ 9223372036854775808) : wrap64 (IntKind.u64.wrap (-(D : Int))) = -(D : Int) := by
  rw [IntKind.wrap_u64]; unfold wrap64; omega
theorem parse_form (s T : ByteArray) (neg : Bool) (w : World) (hs : s.size ≤ 300000) (H1 : Hid (negL s.data.toList = neg)) (H2 : Hid ((⟨(bodyL s.data.toList).toArray⟩ : ByteArray) = T)) (ht : T.size ≤ 300000)
    (H3 : Hid ((allD T.data.toList && !T.toList.isEmpty) = false)) :
    Calls Tryz.prog 147 #[.string s] w fun e w' => e = .returned (.tuple #[.int .i64 0, .int .i64 2]) ∧ ∃ n, w' = w.drewN n := by
  go_enter Tryz.func147, Tryz.ntmps147
  go_wp2_with (first | (go_at_call 163; refine (split_at s T neg _ hs H1.out H2.out).mono ?_; rintro e w' ⟨rfl, n, rfl⟩) | (go_at_call 164; refine (digits_at T false _ ht H3.out).mono ?_; rintro e w' ⟨rfl, rfl⟩))
  go_ret2
  exact ⟨rfl, _, rfl⟩
theorem parse_pos (s T : ByteArray) (D : Nat) (w : World) (hs : s.size ≤ 300000) (H1 : Hid (negL s.data.toList = false)) (H2 : Hid ((⟨(bodyL s.data.toList).toArray⟩ : ByteArray) = T)) (ht : T.size ≤ 300000)
    (H3 : Hid ((allD T.data.toList && !T.toList.isEmpty) = true)) (H4 : Hid (allD T.data.toList = true)) (H5 : Hid (dval T.data.toList = D)) (hD : D ≤ 9223372036854775807) :
    Calls Tryz.prog 147 #[.string s] w fun e w' => e = .returned (.tuple #[.int .i64 D, .int .i64 0]) ∧ ∃ n, w' = w.drewN n := by
  go_enter Tryz.func147, Tryz.ntmps147
  go_wp2_with (first | (go_at_call 163; refine (split_at s T false _ hs H1.out H2.out).mono ?_; rintro e w' ⟨rfl, n, rfl⟩) | (go_at_call 164; refine (digits_at T true _ ht H3.out).mono ?_; rintro e w' ⟨rfl, rfl⟩) | (go_at_call 165; refine (size_yes T _ D 9223372036854775807 _ ht H4.out rfl (by omega) (by omega) H5.out hD).mono ?_; rintro e w' ⟨rfl, rfl⟩))
  go_ret2
  exact ⟨rfl, _, rfl⟩
theorem parse_pos_no (s T : ByteArray) (D : Nat) (w : World) (hs : s.size ≤ 300000) (H1 : Hid (negL s.data.toList = false)) (H2 : Hid ((⟨(bodyL s.data.toList).toArray⟩ : ByteArray) = T)) (ht : T.size ≤ 300000)
    (H3 : Hid ((allD T.data.toList && !T.toList.isEmpty) = true)) (H4 : Hid (allD T.data.toList = true)) (H5 : Hid (dval T.data.toList = D)) (hD : ¬ D ≤ 9223372036854775807) :
    Calls Tryz.prog 147 #[.string s] w fun e w' => e = .returned (.tuple #[.int .i64 0, .int .i64 11]) ∧ ∃ n, w' = w.drewN n := by
  go_enter Tryz.func147, Tryz.ntmps147
  go_wp2_with (first | (go_at_call 163; refine (split_at s T false _ hs H1.out H2.out).mono ?_; rintro e w' ⟨rfl, n, rfl⟩) | (go_at_call 164; refine (digits_at T true _ ht H3.out).mono ?_; rintro e w' ⟨rfl, rfl⟩) | (go_at_call 165; refine (size_no T _ D 9223372036854775807 _ ht H4.out rfl (by omega) (by omega) H5.out (by omega)).mono ?_; rintro e w' ⟨rfl, rfl⟩))
  go_ret2
  exact ⟨rfl, _, rfl⟩
theorem parse_neg_no (s T : ByteArray) (D : Nat) (w : World) (hs : s.size ≤ 300000) (H1 : Hid (negL s.data.toList = true)) (H2 : Hid ((⟨(bodyL s.data.toList).toArray⟩ : ByteArray) = T)) (ht : T.size ≤ 300000)
    (H3 : Hid ((allD T.data.toList && !T.toList.isEmpty) = true)) (H4 : Hid (allD T.data.toList = true)) (H5 : Hid (dval T.data.toList = D)) (hD : ¬ D ≤ 9223372036854775808) :
    Calls Tryz.prog 147 #[.string s] w fun e w' => e = .returned (.tuple #[.int .i64 0, .int .i64 11]) ∧ ∃ n, w' = w.drewN n := by
  go_enter Tryz.func147, Tryz.ntmps147
  go_wp2_with (first | (go_at_call 163; refine (split_at s T true _ hs H1.out H2.out).mono ?_; rintro e w' ⟨rfl, n, rfl⟩) | (go_at_call 164; refine (digits_at T true _ ht H3.out).mono ?_; rintro e w' ⟨rfl, rfl⟩) | (go_at_call 165; refine (size_no T _ D 9223372036854775808 _ ht H4.out rfl (by omega) (by omega) H5.out (by omega)).mono ?_; rintro e w' ⟨rfl, rfl⟩))
  go_ret2
  exact ⟨rfl, _, rfl⟩
theorem parse_neg (s T : ByteArray) (D : Nat) (w : World) (hs : s.size ≤ 300000) (H1 : Hid (negL s.data.toList = true)) (H2 : Hid ((⟨(bodyL s.data.toList).toArray⟩ : ByteArray) = T)) (ht : T.size ≤ 300000)
    (H3 : Hid ((allD T.data.toList && !T.toList.isEmpty) = true)) (H4 : Hid (allD T.data.toList = true)) (H5 : Hid (dval T.data.toList = D)) (hD : D ≤ 9223372036854775808) :
    Calls Tryz.prog 147 #[.string s] w fun e w' => e = .returned (.tuple #[.int .i64 (-D), .int .i64 0]) ∧ ∃ n, w' = w.drewN n := by
  go_enter Tryz.func147, Tryz.ntmps147
  go_wp2_with (first | (go_at_call 163; refine (split_at s T true _ hs H1.out H2.out).mono ?_; rintro e w' ⟨rfl, n, rfl⟩) | (go_at_call 164; refine (digits_at T true _ ht H3.out).mono ?_; rintro e w' ⟨rfl, rfl⟩) | (go_at_call 165; refine (size_yes T _ D 9223372036854775808 _ ht H4.out rfl (by omega) (by omega) H5.out hD).mono ?_; rintro e w' ⟨rfl, rfl⟩))
  go_ret2
  exact ⟨ret_ii (neg_wrap D hD), _, rfl⟩
theorem body_len (l : List UInt8) : (bodyL l).length ≤ l.length := by
  cases l with
  | nil => exact Nat.le_refl _
  | cons c r => show (if c.toNat = 45 ∨ c.toNat = 43 then r else c :: r).length ≤ (c :: r).length; split <;> simp
theorem isEmpty_mk (l : List UInt8) : (⟨l.toArray⟩ : ByteArray).toList.isEmpty = l.isEmpty := by rw [Lib.toList_data]
theorem size_mk (l : List UInt8) : (⟨l.toArray⟩ : ByteArray).size = l.length := rfl
theorem parse_any (s : ByteArray) (w : World) (hs : s.size ≤ 300000) :
    Calls Tryz.prog 147 #[.string s] w fun e w' => e = .returned (.tuple #[.int .i64 (parV s.data.toList), .int .i64 (parE s.data.toList)]) ∧ ∃ n, w' = w.drewN n := by
  have ht : (⟨(bodyL s.data.toList).toArray⟩ : ByteArray).size ≤ 300000 := by
    rw [size_mk]
    have := body_len s.data.toList
    have e : s.data.toList.length = s.size := by simp
    omega
  have hb : ((allD (⟨(bodyL s.data.toList).toArray⟩ : ByteArray).data.toList) && !(⟨(bodyL s.data.toList).toArray⟩ : ByteArray).toList.isEmpty) = shapeL s.data.toList := by
    rw [isEmpty_mk]; rfl
  unfold parV parE
  cases hsh : shapeL s.data.toList
  · rw [if_neg (by decide), if_neg (by decide)]
    exact parse_form s _ _ w hs rfl rfl ht (hb.trans hsh)
  · rw [if_pos rfl, if_pos rfl]
    have hall : allD (bodyL s.data.toList) = true := by
      unfold shapeL at hsh
      rw [Bool.and_eq_true] at hsh
      exact hsh.1
    unfold valL
    cases hn : negL s.data.toList
    · rw [if_neg (by decide)]
      by_cases hD : dval (bodyL s.data.toList) ≤ 9223372036854775807
      · have h : inB (dval (bodyL s.data.toList) : Int) = true := by rw [inB_iff]; omega
        rw [resV_in h, resE_in h]
        exact parse_pos s _ _ w hs hn rfl ht (hb.trans hsh) hall rfl hD
      · have h : inB (dval (bodyL s.data.toList) : Int) = false := by rw [inB_not]; omega
        rw [resV_out h, resE_out h]
        exact parse_pos_no s _ _ w hs hn rfl ht (hb.trans hsh) hall rfl hD
    · rw [if_pos rfl]
      by_cases hD : dval (bodyL s.data.toList) ≤ 9223372036854775808
      · have h : inB (-(dval (bodyL s.data.toList) : Int)) = true := by rw [inB_iff]; omega
        rw [resV_in h, resE_in h]
        exact parse_neg s _ _ w hs hn rfl ht (hb.trans hsh) hall rfl hD
      · have h : inB (-(dval (bodyL s.data.toList) : Int)) = false := by rw [inB_not]; omega
        rw [resV_out h, resE_out h]
        exact parse_neg_no s _ _ w hs hn rfl ht (hb.trans hsh) hall rfl hD
end Go.Proofs.YtnhbjhdkpbhioaaGreatDoor
namespace Go.Proofs.YtnhbjhdkpbhioaaGreatDoor
open Go.RowKit
def part (l : List UInt8) (F k : Nat) : List UInt8 := (l.drop F).take (k - F)
theorem part_snoc (s : ByteArray) (F k : Nat) (hF : F ≤ k) (h : k < s.size) : part s.data.toList F (k + 1) = part s.data.toList F k ++ [s[k]] := by
  unfold part
  have hl : k - F < (s.data.toList.drop F).length := by
    rw [List.length_drop, ← Lib.size_eq]; omega
  rw [show k + 1 - F = k - F + 1 by omega, List.take_succ_eq_append_getElem hl]
  congr 2
  rw [List.getElem_drop]
  have e : F + (k - F) = k := by omega
  simp only [e]
  rfl
theorem part_short (l : List UInt8) (F k : Nat) (h : k ≤ F) : part l F k = [] := by unfold part; rw [show k - F = 0 by omega]; rfl
theorem part_whole (s : ByteArray) (F k : Nat) (h : s.size ≤ k) : part s.data.toList F k = s.data.toList.drop F := by
  unfold part
  rw [List.take_of_length_le (by rw [List.length_drop, ← Lib.size_eq]; omega)]
theorem part_allD (s : ByteArray) (F k : Nat) (h : allD (s.data.toList.drop F) = true) : allD (part s.data.toList F k) = true := allD_take _ h
theorem part_dig (s : ByteArray) (F k : Nat) (hF : F ≤ k) (hk : k < s.size) (h : allD (s.data.toList.drop F) = true) : digB s[k] = true := by
  have h1 := part_allD s F (k + 1) h
  rw [part_snoc s F k hF hk, allD_snoc, Bool.and_eq_true] at h1
  exact h1.2
theorem part_dval (s : ByteArray) (F k : Nat) : dval (part s.data.toList F k) ≤ dval (s.data.toList.drop F) := dval_take _ _
theorem body_sign (s : ByteArray) (h : 0 < s.size) (hc : s[0].toNat = 45 ∨ s[0].toNat = 43) : bodyL s.data.toList = s.data.toList.drop 1 := by
  obtain ⟨r, hr, _⟩ := list_cons s h
  rw [hr]
  show (if s[0].toNat = 45 ∨ s[0].toNat = 43 then r else s[0] :: r) = r
  rw [if_pos hc]
theorem body_none (s : ByteArray) (h : 0 < s.size) (hc : ¬ (s[0].toNat = 45 ∨ s[0].toNat = 43)) : bodyL s.data.toList = s.data.toList.drop 0 := by
  obtain ⟨r, hr, _⟩ := list_cons s h
  rw [hr]
  show (if s[0].toNat = 45 ∨ s[0].toNat = 43 then r else s[0] :: r) = s[0] :: r
  rw [if_neg hc]
theorem neg_is (s : ByteArray) (h : 0 < s.size) : negL s.data.toList = (s[0].toNat == 45) := by
  obtain ⟨r, hr, _⟩ := list_cons s h
  rw [hr]; rfl
theorem drop_empty (s : ByteArray) (F : Nat) : (s.data.toList.drop F).isEmpty = !decide (F < s.size) := by
  have e : (s.data.toList.drop F).length = s.size - F := by rw [List.length_drop, ← Lib.size_eq]
  cases h : s.data.toList.drop F with
  | nil => rw [h] at e; simp at e; simp; omega
  | cons c r => rw [h] at e; simp at e; simp; omega
end Go.Proofs.YtnhbjhdkpbhioaaGreatDoor
namespace Go.Proofs.YtnhbjhdkpbhioaaGreatDoor
open Go.RowKit
theorem shape_empty (w : World) : Calls Tryz.prog 67 #[.string ⟨#[]⟩] w fun e w' => e = .returned (.bool false) ∧ w' = w := by
  go_enter Tryz.func67, Tryz.ntmps67
  go_wp2
  refine wp_loop_rounds 1 ?_
  rw [rounds_succ]
  go_wp2
  go_ret
  exact ⟨rfl, rfl⟩
set_option maxHeartbeats 1000000 in
theorem shape_plus (s : ByteArray) (w : World) (hs : s.size ≤ 300000) (h1 : 0 < s.size) (h0 : s[0].toNat = 43) (ad : Bool) (HB : Hid (allD (s.data.toList.drop 1) = ad)) :
    Calls Tryz.prog 67 #[.string s] w fun e w' => e = .returned (.bool (ad && decide ((1 : Int) < (s.size : Int)))) ∧ w' = w := by
  have hi : (0 : Int) < (s.size : Int) := by omega
  have d1 : ((s[0].toNat : Int) == 43) = true := by simp; omega
  clear h0
  go_enter Tryz.func67, Tryz.ntmps67
  go_wp2
  go_loop [4] (fun i => ∃ k : Nat, 1 ≤ k ∧ k ≤ s.size ∧ i = .int .i64 k ∧ Hid (allD (part s.data.toList 1 k) = true)) (fun i => s.size - (intOf i).toNat)
  case atStart => exact ⟨1, Nat.le_refl _, by omega, rfl, by rw [Hid, part_short _ _ _ (Nat.le_refl _)]; rfl⟩
  case round =>
    obtain ⟨k, hkF, hk, rfl, HP⟩ := hrel
    by_cases hlt : k < s.size
    · have hsn : allD (part s.data.toList 1 (k + 1)) = digB s[k] := by rw [part_snoc s 1 k hkF hlt, allD_snoc, HP.out, Bool.true_and]
      have HS : Hid (allD (part s.data.toList 1 (k + 1)) = digB s[k]) := hsn
      clear hsn HP
      by_cases c1 : (s[k].toNat : Int) < 48
      · have HF : Hid (allD (s.data.toList.drop 1) = false) := allD_no (k := k + 1 - 1) (by rw [show List.take (k + 1 - 1) (List.drop 1 s.data.toList) = part s.data.toList 1 (k + 1) from rfl, HS.out]; exact digB_lo c1)
        clear HS
        go_wp2
        go_ret
        exact ⟨ret_bool (by rw [← HB.out, HF.out]; try rfl), rfl⟩
      · by_cases c2 : 57 < (s[k].toNat : Int)
        · have HF : Hid (allD (s.data.toList.drop 1) = false) := allD_no (k := k + 1 - 1) (by rw [show List.take (k + 1 - 1) (List.drop 1 s.data.toList) = part s.data.toList 1 (k + 1) from rfl, HS.out]; exact digB_hi c2)
          clear HS
          go_wp2
          go_ret
          exact ⟨ret_bool (by rw [← HB.out, HF.out]; try rfl), rfl⟩
        · have HT : Hid (allD (part s.data.toList 1 (k + 1)) = true) := by rw [Hid, HS.out]; exact digB_yes (by omega) (by omega)
          clear HS
          go_wp2
          go_round
          case rel => exact ⟨k + 1, by omega, by omega, by go_num, HT.out⟩
          case measure => simp [intOf]; omega
    · have HA : Hid (allD (s.data.toList.drop 1) = true) := by
        have h := HP.out
        rwa [part_whole s 1 k (by omega)] at h
      clear HP
      go_wp2
      go_ret
      exact ⟨ret_bool (by rw [← HB.out, HA.out]; try rfl), rfl⟩
set_option maxHeartbeats 1000000 in
theorem shape_minus (s : ByteArray) (w : World) (hs : s.size ≤ 300000) (h1 : 0 < s.size) (h0 : s[0].toNat = 45) (ad : Bool) (HB : Hid (allD (s.data.toList.drop 1) = ad)) :
    Calls Tryz.prog 67 #[.string s] w fun e w' => e = .returned (.bool (ad && decide ((1 : Int) < (s.size : Int)))) ∧ w' = w := by
  have hi : (0 : Int) < (s.size : Int) := by omega
  have d1 : ((s[0].toNat : Int) == 43) = false := by simp; omega
  have d2 : ((s[0].toNat : Int) == 45) = true := by simp; omega
  clear h0
  go_enter Tryz.func67, Tryz.ntmps67
  go_wp2
  go_loop [4] (fun i => ∃ k : Nat, 1 ≤ k ∧ k ≤ s.size ∧ i = .int .i64 k ∧ Hid (allD (part s.data.toList 1 k) = true)) (fun i => s.size - (intOf i).toNat)
  case atStart => exact ⟨1, Nat.le_refl _, by omega, rfl, by rw [Hid, part_short _ _ _ (Nat.le_refl _)]; rfl⟩
  case round =>
    obtain ⟨k, hkF, hk, rfl, HP⟩ := hrel
    by_cases hlt : k < s.size
    · have hsn : allD (part s.data.toList 1 (k + 1)) = digB s[k] := by rw [part_snoc s 1 k hkF hlt, allD_snoc, HP.out, Bool.true_and]
      have HS : Hid (allD (part s.data.toList 1 (k + 1)) = digB s[k]) := hsn
      clear hsn HP
      by_cases c1 : (s[k].toNat : Int) < 48
      · have HF : Hid (allD (s.data.toList.drop 1) = false) := allD_no (k := k + 1 - 1) (by rw [show List.take (k + 1 - 1) (List.drop 1 s.data.toList) = part s.data.toList 1 (k + 1) from rfl, HS.out]; exact digB_lo c1)
        clear HS
        go_wp2
        go_ret
        exact ⟨ret_bool (by rw [← HB.out, HF.out]; try rfl), rfl⟩
      · by_cases c2 : 57 < (s[k].toNat : Int)
        · have HF : Hid (allD (s.data.toList.drop 1) = false) := allD_no (k := k + 1 - 1) (by rw [show List.take (k + 1 - 1) (List.drop 1 s.data.toList) = part s.data.toList 1 (k + 1) from rfl, HS.out]; exact digB_hi c2)
          clear HS
          go_wp2
          go_ret
          exact ⟨ret_bool (by rw [← HB.out, HF.out]; try rfl), rfl⟩
        · have HT : Hid (allD (part s.data.toList 1 (k + 1)) = true) := by rw [Hid, HS.out]; exact digB_yes (by omega) (by omega)
          clear HS
          go_wp2
          go_round
          case rel => exact ⟨k + 1, by omega, by omega, by go_num, HT.out⟩
          case measure => simp [intOf]; omega
    · have HA : Hid (allD (s.data.toList.drop 1) = true) := by
        have h := HP.out
        rwa [part_whole s 1 k (by omega)] at h
      clear HP
      go_wp2
      go_ret
      exact ⟨ret_bool (by rw [← HB.out, HA.out]; try rfl), rfl⟩
set_option maxHeartbeats 1000000 in
theorem shape_none (s : ByteArray) (w : World) (hs : s.size ≤ 300000) (h1 : 0 < s.size) (h0 : ¬ (s[0].toNat = 45 ∨ s[0].toNat = 43)) (ad : Bool) (HB : Hid (allD (s.data.toList.drop 0) = ad)) :
    Calls Tryz.prog 67 #[.string s] w fun e w' => e = .returned (.bool (ad && decide ((0 : Int) < (s.size : Int)))) ∧ w' = w := by
  have hi : (0 : Int) < (s.size : Int) := by omega
  have d1 : ((s[0].toNat : Int) == 43) = false := by simp; omega
  have d2 : ((s[0].toNat : Int) == 45) = false := by simp; omega
  clear h0
  go_enter Tryz.func67, Tryz.ntmps67
  go_wp2
  go_loop [4] (fun i => ∃ k : Nat, 0 ≤ k ∧ k ≤ s.size ∧ i = .int .i64 k ∧ Hid (allD (part s.data.toList 0 k) = true)) (fun i => s.size - (intOf i).toNat)
  case atStart => exact ⟨0, Nat.le_refl _, by omega, rfl, by rw [Hid, part_short _ _ _ (Nat.le_refl _)]; rfl⟩
  case round =>
    obtain ⟨k, hkF, hk, rfl, HP⟩ := hrel
    by_cases hlt : k < s.size
    · have hsn : allD (part s.data.toList 0 (k + 1)) = digB s[k] := by rw [part_snoc s 0 k hkF hlt, allD_snoc, HP.out, Bool.true_and]
      have HS : Hid (allD (part s.data.toList 0 (k + 1)) = digB s[k]) := hsn
      clear hsn HP
      by_cases c1 : (s[k].toNat : Int) < 48
      · have HF : Hid (allD (s.data.toList.drop 0) = false) := allD_no (k := k + 1 - 0) (by rw [show List.take (k + 1 - 0) (List.drop 0 s.data.toList) = part s.data.toList 0 (k + 1) from rfl, HS.out]; exact digB_lo c1)
        clear HS
        go_wp2
        go_ret
        exact ⟨ret_bool (by rw [← HB.out, HF.out]; try rfl), rfl⟩
      · by_cases c2 : 57 < (s[k].toNat : Int)
        · have HF : Hid (allD (s.data.toList.drop 0) = false) := allD_no (k := k + 1 - 0) (by rw [show List.take (k + 1 - 0) (List.drop 0 s.data.toList) = part s.data.toList 0 (k + 1) from rfl, HS.out]; exact digB_hi c2)
          clear HS
          go_wp2
          go_ret
          exact ⟨ret_bool (by rw [← HB.out, HF.out]; try rfl), rfl⟩
        · have HT : Hid (allD (part s.data.toList 0 (k + 1)) = true) := by rw [Hid, HS.out]; exact digB_yes (by omega) (by omega)
          clear HS
          go_wp2
          go_round
          case rel => exact ⟨k + 1, by omega, by omega, by go_num, HT.out⟩
          case measure => simp [intOf]; omega
    · have HA : Hid (allD (s.data.toList.drop 0) = true) := by
        have h := HP.out
        rwa [part_whole s 0 k (by omega)] at h
      clear HP
      go_wp2
      go_ret
      exact ⟨ret_bool (by rw [← HB.out, HA.out]; try rfl), rfl⟩
theorem shape_any (s : ByteArray) (w : World) (hs : s.size ≤ 300000) : Calls Tryz.prog 67 #[.string s] w fun e w' => e = .returned (.bool (shapeL s.data.toList)) ∧ w' = w := by
  by_cases h0 : s.size = 0
  · have e := size_nil s h0
    subst e
    exact shape_empty w
  have h1 : 0 < s.size := by omega
  unfold shapeL
  by_cases c1 : s[0].toNat = 45
  · rw [body_sign s h1 (Or.inl c1), drop_empty, Bool.not_not]
    have h := shape_minus s w hs h1 c1 _ rfl
    rwa [show decide ((1 : Int) < (s.size : Int)) = decide (1 < s.size) by rw [decide_eq_decide]; omega] at h
  · by_cases c2 : s[0].toNat = 43
    · rw [body_sign s h1 (Or.inr c2), drop_empty, Bool.not_not]
      have h := shape_plus s w hs h1 c2 _ rfl
      rwa [show decide ((1 : Int) < (s.size : Int)) = decide (1 < s.size) by rw [decide_eq_decide]; omega] at h
    · rw [body_none s h1 (by omega), drop_empty, Bool.not_not]
      have h := shape_none s w hs h1 (by omega) _ rfl
      rwa [show decide ((0 : Int) < (s.size : Int)) = decide (0 < s.size) by rw [decide_eq_decide]; omega] at h
end Go.Proofs.YtnhbjhdkpbhioaaGreatDoor
namespace Go.Proofs.YtnhbjhdkpbhioaaGreatDoor
open Go.RowKit
theorem radd_any (a b : Int) (w : World) (ha : inB a = true) (hb : inB b = true) :
    Calls Tryz.prog 135 #[.int .i64 a, .int .i64 b] w fun e w' => e = .returned (.tuple #[.int .i64 (resV (a + b)), .int .i64 (resE (a + b))]) ∧ w' = w := by
  rw [inB_iff] at ha hb
  obtain ⟨ha1, ha2⟩ := ha
  obtain ⟨hb1, hb2⟩ := hb
  by_cases c : 0 < b
  · by_cases c2 : 9223372036854775807 - b < a
    · have h : inB (a + b) = false := by rw [inB_not]; omega
      rw [resV_out h, resE_out h]; clear h
      go_enter Tryz.func135, Tryz.ntmps135
      go_wp2
      go_ret2
      exact ⟨rfl, rfl⟩
    · have h : inB (a + b) = true := by rw [inB_iff]; omega
      rw [resV_in h, resE_in h]; clear h
      go_enter Tryz.func135, Tryz.ntmps135
      go_wp2
      go_ret2
      exact ⟨rfl, rfl⟩
  · by_cases d : b < 0
    · by_cases c2 : a < -9223372036854775808 - b
      · have h : inB (a + b) = false := by rw [inB_not]; omega
        rw [resV_out h, resE_out h]; clear h
        go_enter Tryz.func135, Tryz.ntmps135
        go_wp2
        go_ret2
        exact ⟨rfl, rfl⟩
      · have h : inB (a + b) = true := by rw [inB_iff]; omega
        rw [resV_in h, resE_in h]; clear h
        go_enter Tryz.func135, Tryz.ntmps135
        go_wp2
        go_ret2
        exact ⟨rfl, rfl⟩
    · have h : inB (a + b) = true := by rw [inB_iff]; omega
      rw [resV_in h, resE_in h]; clear h
      go_enter Tryz.func135, Tryz.ntmps135
      go_wp2
      go_ret2
      exact ⟨rfl, rfl⟩
theorem msize_any (v : Int) (w : World) (hv : inB v = true) :
    Calls Tryz.prog 120 #[.int .i64 v] w fun e w' => e = .returned (.int .u64 (v.natAbs : Int)) ∧ w' = w := by
  rw [inB_iff] at hv
  obtain ⟨hv1, hv2⟩ := hv
  by_cases c : v < 0
  · have e : (v.natAbs : Int) = -(v + 1) + 1 := by omega
    rw [e]; clear e
    go_enter Tryz.func120, Tryz.ntmps120
    go_wp2
    go_ret
    exact ⟨rfl, rfl⟩
  · have e : (v.natAbs : Int) = v := by omega
    rw [e]; clear e
    go_enter Tryz.func120, Tryz.ntmps120
    go_wp2
    go_ret
    exact ⟨rfl, rfl⟩
theorem mul_test_same (a b : Int) (hs : (a < 0 ∧ b < 0) ∨ (¬ a < 0 ∧ ¬ b < 0)) : inB (a * b) = decide (a.natAbs * b.natAbs ≤ 9223372036854775807) := by
  have h := mul_sign a b
  rw [if_neg (by rcases hs with ⟨h1, h2⟩ | ⟨h1, h2⟩ <;> simp [h1, h2])] at h
  unfold inB
  rw [decide_eq_decide]
  omega
theorem mul_test_other (a b : Int) (hs : (a < 0 ∧ ¬ b < 0) ∨ (¬ a < 0 ∧ b < 0)) : inB (a * b) = decide (a.natAbs * b.natAbs ≤ 9223372036854775808) := by
  have h := mul_sign a b
  rw [if_pos (by rcases hs with ⟨h1, h2⟩ | ⟨h1, h2⟩ <;> simp [h1, h2])] at h
  unfold inB
  rw [decide_eq_decide]
  omega
theorem mul_nought (b : Int) : inB (0 * b) = true := by rw [Int.zero_mul]; decide
theorem gt_div_int (a b T : Int) (top : Nat) (hT : T = (top : Int)) (ha : a ≠ 0) : (T / (a.natAbs : Int) < (b.natAbs : Int)) ↔ ¬ a.natAbs * b.natAbs ≤ top := by
  rw [hT]
  have h := gt_div a.natAbs b.natAbs top (by omega)
  rw [show ((top : Int) / (a.natAbs : Int)) = ((top / a.natAbs : Nat) : Int) from rfl, Int.ofNat_lt, h]
  omega
theorem rmul_0 (a b : Int) (w : World) (ha : inB a = true) (hb : inB b = true) (ca : a < 0) (cb : b < 0) (a0 : a ≠ 0) :
    Calls Tryz.prog 134 #[.int .i64 a, .int .i64 b] w fun e w' => e = .returned (.tuple #[.int .i64 (resV (a * b)), .int .i64 (resE (a * b))]) ∧ w' = w := by
  have da : decide (a < 0) = true := by simp; omega
  have db : decide (b < 0) = true := by simp; omega
  have hx0 : ((a.natAbs : Int) != 0) = true := by simpa using a0
  have hx1 : (1 : Int) ≤ (a.natAbs : Int) := by omega
  have hg := gt_div_int a b 9223372036854775807 9223372036854775807 rfl a0
  have hm := mul_test_same a b (Or.inl ⟨ca, cb⟩)
  by_cases hp : a.natAbs * b.natAbs ≤ 9223372036854775807
  · rw [decide_eq_true hp] at hm
    have ht : ¬ 9223372036854775807 / (a.natAbs : Int) < (b.natAbs : Int) := by rw [hg]; omega
    rw [resV_in hm, resE_in hm]
    rw [inB_iff] at hm
    have m1 := hm.1
    have m2 := hm.2
    clear hm hp hg ca cb
    go_enter Tryz.func134, Tryz.ntmps134
    go_wp2_with (go_at_call 120; refine (msize_any _ _ (by assumption)).mono ?_; rintro e w' ⟨rfl, rfl⟩)
    go_ret2
    exact ⟨rfl, rfl⟩
  · rw [decide_eq_false hp] at hm
    have ht : 9223372036854775807 / (a.natAbs : Int) < (b.natAbs : Int) := by rw [hg]; omega
    rw [resV_out hm, resE_out hm]
    clear hm hp hg ca cb
    go_enter Tryz.func134, Tryz.ntmps134
    go_wp2_with (go_at_call 120; refine (msize_any _ _ (by assumption)).mono ?_; rintro e w' ⟨rfl, rfl⟩)
    go_ret2
    exact ⟨rfl, rfl⟩
theorem rmul_1 (a b : Int) (w : World) (ha : inB a = true) (hb : inB b = true) (ca : a < 0) (cb : ¬ b < 0) (a0 : a ≠ 0) :
    Calls Tryz.prog 134 #[.int .i64 a, .int .i64 b] w fun e w' => e = .returned (.tuple #[.int .i64 (resV (a * b)), .int .i64 (resE (a * b))]) ∧ w' = w := by
  have da : decide (a < 0) = true := by simp; omega
  have db : decide (b < 0) = false := by simp; omega
  have hx0 : ((a.natAbs : Int) != 0) = true := by simpa using a0
  have hx1 : (1 : Int) ≤ (a.natAbs : Int) := by omega
  have hg := gt_div_int a b 9223372036854775808 9223372036854775808 rfl a0
  have hm := mul_test_other a b (Or.inl ⟨ca, cb⟩)
  by_cases hp : a.natAbs * b.natAbs ≤ 9223372036854775808
  · rw [decide_eq_true hp] at hm
    have ht : ¬ 9223372036854775808 / (a.natAbs : Int) < (b.natAbs : Int) := by rw [hg]; omega
    rw [resV_in hm, resE_in hm]
    rw [inB_iff] at hm
    have m1 := hm.1
    have m2 := hm.2
    clear hm hp hg ca cb
    go_enter Tryz.func134, Tryz.ntmps134
    go_wp2_with (go_at_call 120; refine (msize_any _ _ (by assumption)).mono ?_; rintro e w' ⟨rfl, rfl⟩)
    go_ret2
    exact ⟨rfl, rfl⟩
  · rw [decide_eq_false hp] at hm
    have ht : 9223372036854775808 / (a.natAbs : Int) < (b.natAbs : Int) := by rw [hg]; omega
    rw [resV_out hm, resE_out hm]
    clear hm hp hg ca cb
    go_enter Tryz.func134, Tryz.ntmps134
    go_wp2_with (go_at_call 120; refine (msize_any _ _ (by assumption)).mono ?_; rintro e w' ⟨rfl, rfl⟩)
    go_ret2
    exact ⟨rfl, rfl⟩
theorem rmul_2 (a b : Int) (w : World) (ha : inB a = true) (hb : inB b = true) (ca : ¬ a < 0) (cb : b < 0) (a0 : a ≠ 0) :
    Calls Tryz.prog 134 #[.int .i64 a, .int .i64 b] w fun e w' => e = .returned (.tuple #[.int .i64 (resV (a * b)), .int .i64 (resE (a * b))]) ∧ w' = w := by
  have da : decide (a < 0) = false := by simp; omega
  have db : decide (b < 0) = true := by simp; omega
  have hx0 : ((a.natAbs : Int) != 0) = true := by simpa using a0
  have hx1 : (1 : Int) ≤ (a.natAbs : Int) := by omega
  have hg := gt_div_int a b 9223372036854775808 9223372036854775808 rfl a0
  have hm := mul_test_other a b (Or.inr ⟨ca, cb⟩)
  by_cases hp : a.natAbs * b.natAbs ≤ 9223372036854775808
  · rw [decide_eq_true hp] at hm
    have ht : ¬ 9223372036854775808 / (a.natAbs : Int) < (b.natAbs : Int) := by rw [hg]; omega
    rw [resV_in hm, resE_in hm]
    rw [inB_iff] at hm
    have m1 := hm.1
    have m2 := hm.2
    clear hm hp hg ca cb
    go_enter Tryz.func134, Tryz.ntmps134
    go_wp2_with (go_at_call 120; refine (msize_any _ _ (by assumption)).mono ?_; rintro e w' ⟨rfl, rfl⟩)
    go_ret2
    exact ⟨rfl, rfl⟩
  · rw [decide_eq_false hp] at hm
    have ht : 9223372036854775808 / (a.natAbs : Int) < (b.natAbs : Int) := by rw [hg]; omega
    rw [resV_out hm, resE_out hm]
    clear hm hp hg ca cb
    go_enter Tryz.func134, Tryz.ntmps134
    go_wp2_with (go_at_call 120; refine (msize_any _ _ (by assumption)).mono ?_; rintro e w' ⟨rfl, rfl⟩)
    go_ret2
    exact ⟨rfl, rfl⟩
theorem rmul_3 (a b : Int) (w : World) (ha : inB a = true) (hb : inB b = true) (ca : ¬ a < 0) (cb : ¬ b < 0) (a0 : a ≠ 0) :
    Calls Tryz.prog 134 #[.int .i64 a, .int .i64 b] w fun e w' => e = .returned (.tuple #[.int .i64 (resV (a * b)), .int .i64 (resE (a * b))]) ∧ w' = w := by
  have da : decide (a < 0) = false := by simp; omega
  have db : decide (b < 0) = false := by simp; omega
  have hx0 : ((a.natAbs : Int) != 0) = true := by simpa using a0
  have hx1 : (1 : Int) ≤ (a.natAbs : Int) := by omega
  have hg := gt_div_int a b 9223372036854775807 9223372036854775807 rfl a0
  have hm := mul_test_same a b (Or.inr ⟨ca, cb⟩)
  by_cases hp : a.natAbs * b.natAbs ≤ 9223372036854775807
  · rw [decide_eq_true hp] at hm
    have ht : ¬ 9223372036854775807 / (a.natAbs : Int) < (b.natAbs : Int) := by rw [hg]; omega
    rw [resV_in hm, resE_in hm]
    rw [inB_iff] at hm
    have m1 := hm.1
    have m2 := hm.2
    clear hm hp hg ca cb
    go_enter Tryz.func134, Tryz.ntmps134
    go_wp2_with (go_at_call 120; refine (msize_any _ _ (by assumption)).mono ?_; rintro e w' ⟨rfl, rfl⟩)
    go_ret2
    exact ⟨rfl, rfl⟩
  · rw [decide_eq_false hp] at hm
    have ht : 9223372036854775807 / (a.natAbs : Int) < (b.natAbs : Int) := by rw [hg]; omega
    rw [resV_out hm, resE_out hm]
    clear hm hp hg ca cb
    go_enter Tryz.func134, Tryz.ntmps134
    go_wp2_with (go_at_call 120; refine (msize_any _ _ (by assumption)).mono ?_; rintro e w' ⟨rfl, rfl⟩)
    go_ret2
    exact ⟨rfl, rfl⟩
theorem rmul_any (a b : Int) (w : World) (ha : inB a = true) (hb : inB b = true) :
    Calls Tryz.prog 134 #[.int .i64 a, .int .i64 b] w fun e w' => e = .returned (.tuple #[.int .i64 (resV (a * b)), .int .i64 (resE (a * b))]) ∧ w' = w := by
  by_cases a0 : a = 0
  · subst a0
    rw [resV_in (mul_nought b), resE_in (mul_nought b), Int.zero_mul]
    by_cases c : b < 0
    · go_enter Tryz.func134, Tryz.ntmps134
      go_wp2_with (go_at_call 120; refine (msize_any _ _ (by assumption)).mono ?_; rintro e w' ⟨rfl, rfl⟩)
      go_ret2
      exact ⟨rfl, rfl⟩
    · go_enter Tryz.func134, Tryz.ntmps134
      go_wp2_with (go_at_call 120; refine (msize_any _ _ (by assumption)).mono ?_; rintro e w' ⟨rfl, rfl⟩)
      go_ret2
      exact ⟨rfl, rfl⟩
  by_cases ca : a < 0 <;> by_cases cb : b < 0
  · exact rmul_0 a b w ha hb ca cb a0
  · exact rmul_1 a b w ha hb ca cb a0
  · exact rmul_2 a b w ha hb ca cb a0
  · exact rmul_3 a b w ha hb ca cb a0
end Go.Proofs.YtnhbjhdkpbhioaaGreatDoor
namespace Go.Proofs.YtnhbjhdkpbhioaaGreatDoor
open Go.RowKit
theorem shape_at (s : ByteArray) (b : Bool) (w : World) (hs : s.size ≤ 300000) (h : shapeL s.data.toList = b) : Calls Tryz.prog 67 #[.string s] w fun e w' => e = .returned (.bool b) ∧ w' = w := by
  rw [← h]; exact shape_any s w hs
theorem rmul_yes (a b P : Int) (w : World) (ha : inB a = true) (hb : inB b = true) (hP : a * b = P) (h : inB P = true) :
    Calls Tryz.prog 134 #[.int .i64 a, .int .i64 b] w fun e w' => e = .returned (.tuple #[.int .i64 P, .int .i64 0]) ∧ w' = w := by
  have h2 := rmul_any a b w ha hb
  rwa [hP, resV_in h, resE_in h] at h2
theorem rmul_no (a b P : Int) (w : World) (ha : inB a = true) (hb : inB b = true) (hP : a * b = P) (h : inB P = false) :
    Calls Tryz.prog 134 #[.int .i64 a, .int .i64 b] w fun e w' => e = .returned (.tuple #[.int .i64 0, .int .i64 11]) ∧ w' = w := by
  have h2 := rmul_any a b w ha hb
  rwa [hP, resV_out h, resE_out h] at h2
theorem radd_yes (a b P : Int) (w : World) (ha : inB a = true) (hb : inB b = true) (hP : a + b = P) (h : inB P = true) :
    Calls Tryz.prog 135 #[.int .i64 a, .int .i64 b] w fun e w' => e = .returned (.tuple #[.int .i64 P, .int .i64 0]) ∧ w' = w := by
  have h2 := radd_any a b w ha hb
  rwa [hP, resV_in h, resE_in h] at h2
theorem radd_no (a b P : Int) (w : World) (ha : inB a = true) (hb : inB b = true) (hP : a + b = P) (h : inB P = false) :
    Calls Tryz.prog 135 #[.int .i64 a, .int .i64 b] w fun e w' => e = .returned (.tuple #[.int .i64 0, .int .i64 11]) ∧ w' = w := by
  have h2 := radd_any a b w ha hb
  rwa [hP, resV_out h, resE_out h] at h2
theorem rparse_form (s : ByteArray) (w : World) (hs : s.size ≤ 300000) (H : Hid (shapeL s.data.toList = false)) :
    Calls Tryz.prog 114 #[.string s] w fun e w' => e = .returned (.tuple #[.int .i64 0, .int .i64 2]) ∧ w' = w := by
  go_enter Tryz.func114, Tryz.ntmps114
  go_wp2_with (go_at_call 67; refine (shape_at s false _ hs H.out).mono ?_; rintro e w' ⟨rfl, rfl⟩)
  go_ret2
  exact ⟨rfl, rfl⟩
set_option maxHeartbeats 4000000 in
theorem rparse_neg (s : ByteArray) (w : World) (F T : Nat) (V : Int) (hs : s.size ≤ 300000) (h1 : 0 < s.size) (hF : F ≤ 1) (hn : ((s[0].toNat : Int) == 45) = true) (HSH : Hid (shapeL s.data.toList = true))
    (HD : Hid (∀ (_h : 0 < F), s[0].toNat = 45)) (HA : Hid (allD (s.data.toList.drop F) = true)) (HT : Hid (dval (s.data.toList.drop F) = T)) (HV : Hid (V = (-(T : Int)))) :
    Calls Tryz.prog 114 #[.string s] w fun e w' => e = .returned (.tuple #[.int .i64 (resV V), .int .i64 (resE V)]) ∧ w' = w := by
  have hi : (0 : Int) < (s.size : Int) := by omega
  go_enter Tryz.func114, Tryz.ntmps114
  go_wp2_with (go_at_call 67; refine (shape_at s true _ hs HSH.out).mono ?_; rintro e w' ⟨rfl, rfl⟩)
  clear HSH
  go_loop [5, 6] (fun v i => ∃ (k : Nat) (x : Nat), k ≤ s.size ∧ i = .int .i64 k ∧ v = .int .i64 (-(x : Int)) ∧ Hid (dval (part s.data.toList F k) = x) ∧ Hid (inB (-(x : Int)) = true)) (fun _ i => s.size - (intOf i).toNat)
  case atStart => exact ⟨0, 0, Nat.zero_le _, rfl, rfl, by rw [Hid, part_short _ _ _ (Nat.zero_le _)]; rfl, by unfold Hid; decide⟩
  case round =>
    obtain ⟨k, x, hk, rfl, rfl, HX, HB⟩ := hrel
    by_cases hlt : k < s.size
    · by_cases hkF : k < F
      · obtain rfl : k = 0 := by omega
        have hx : x = 0 := by rw [← HX.out, part_short _ _ _ (Nat.zero_le _)]; rfl
        subst hx
        have HP : Hid (dval (part s.data.toList F 1) = 0) := by rw [Hid, part_short _ _ _ (by omega)]; rfl
        have hd := HD.out hkF
        clear HX HB HD HA HT HV
        have d1 : ((s[0].toNat : Int) == 43) = false := by simp; omega
        clear hd
        go_wp2
        go_round
        case rel => exact ⟨1, 0, by omega, by go_num, rfl, HP.out, by unfold Hid; decide⟩
        case measure => simp [intOf]; omega
      · obtain ⟨g1, g2⟩ := digB_bd (part_dig s F k (by omega) hlt HA.out)
        have hsn : dval (part s.data.toList F (k + 1)) = x * 10 + (s[k].toNat - 48) := by rw [part_snoc s F k (by omega) hlt, dval_snoc, HX.out]
        have hle := part_dval s F (k + 1)
        rw [hsn, HT.out] at hle
        have HS : Hid (dval (part s.data.toList F (k + 1)) = x * 10 + (s[k].toNat - 48)) := hsn
        have HL : Hid (x * 10 + (s[k].toNat - 48) ≤ T) := hle
        clear hsn hle HX HA HT
        have b1 : 48 ≤ (s[k].toNat : Int) := by omega
        have b2 : (s[k].toNat : Int) ≤ 57 := by omega
        have d1 : ((s[k].toNat : Int) == 43) = false := by simp; omega
        have d2 : ((s[k].toNat : Int) == 45) = false := by simp; omega
        clear hkF
        obtain ⟨P, hP⟩ : ∃ P : Int, (-(x : Int)) * 10 = P := ⟨_, rfl⟩
        obtain ⟨Q, hQ⟩ : ∃ Q : Int, (-((x * 10 + (s[k].toNat - 48) : Nat) : Int)) = Q := ⟨_, rfl⟩
        have hPQ : P + -((s[k].toNat : Int) - 48) = Q := by omega
        have HP : Hid ((-(x : Int)) * 10 = P) := hP
        have HQ : Hid ((-((x * 10 + (s[k].toNat - 48) : Nat) : Int)) = Q) := hQ
        have HPQ : Hid (P + -((s[k].toNat : Int) - 48) = Q) := hPQ
        clear hPQ
        cases hiP : inB P
        · have HR : Hid (resV V = 0 ∧ resE V = 11) := by
            have hl := HL.out
            have ho : inB V = false := by rw [HV.out, inB_not]; rw [inB_not] at hiP; omega
            exact ⟨resV_out ho, resE_out ho⟩
          clear hP hQ HS HL HV HQ HPQ
          go_wp2_with (go_at_call 134; refine (rmul_no _ 10 P _ HB.out (by decide) HP.out hiP).mono ?_; rintro e w' ⟨rfl, rfl⟩)
          go_ret2
          exact ⟨by rw [HR.out.1, HR.out.2]; rfl, rfl⟩
        · cases hiQ : inB Q
          · have HR : Hid (resV V = 0 ∧ resE V = 11) := by
              have hl := HL.out
              have ho : inB V = false := by rw [HV.out, inB_not]; rw [inB_not] at hiQ; omega
              exact ⟨resV_out ho, resE_out ho⟩
            clear hP hQ HS HL HV HQ
            go_wp2_with (first | (go_at_call 134; refine (rmul_yes _ 10 P _ HB.out (by decide) HP.out hiP).mono ?_; rintro e w' ⟨rfl, rfl⟩) | (go_at_call 135; refine (radd_no P _ Q _ hiP (by rw [inB_iff]; omega) HPQ.out hiQ).mono ?_; rintro e w' ⟨rfl, rfl⟩))
            go_ret2
            exact ⟨by rw [HR.out.1, HR.out.2]; rfl, rfl⟩
          · clear hP hQ HL HV HD
            go_wp2_with (first | (go_at_call 134; refine (rmul_yes _ 10 P _ HB.out (by decide) HP.out hiP).mono ?_; rintro e w' ⟨rfl, rfl⟩) | (go_at_call 135; refine (radd_yes P _ Q _ hiP (by rw [inB_iff]; omega) HPQ.out hiQ).mono ?_; rintro e w' ⟨rfl, rfl⟩))
            go_round
            case rel => exact ⟨k + 1, x * 10 + (s[k].toNat - 48), by omega, by go_num, by rw [HQ.out], HS.out, by rw [Hid, HQ.out]; exact hiQ⟩
            case measure => simp [intOf]; omega
    · have HE : Hid (x = T) := by
        have h := HX.out
        rw [part_whole s F k (by omega), HT.out] at h
        exact h.symm
      have HR : Hid (resV V = (-(x : Int)) ∧ resE V = 0) := by
        have h := HB.out
        rw [HE.out] at h
        rw [Hid, HV.out, HE.out]
        exact ⟨resV_in h, resE_in h⟩
      clear HX HB HD HA HT HV HE
      go_wp2
      go_ret2
      exact ⟨by rw [HR.out.1, HR.out.2]; rfl, rfl⟩
set_option maxHeartbeats 4000000 in
theorem rparse_pos (s : ByteArray) (w : World) (F T : Nat) (V : Int) (hs : s.size ≤ 300000) (h1 : 0 < s.size) (hF : F ≤ 1) (hn : ((s[0].toNat : Int) == 45) = false) (HSH : Hid (shapeL s.data.toList = true))
    (HD : Hid (∀ (_h : 0 < F), s[0].toNat = 43)) (HA : Hid (allD (s.data.toList.drop F) = true)) (HT : Hid (dval (s.data.toList.drop F) = T)) (HV : Hid (V = (T : Int))) :
    Calls Tryz.prog 114 #[.string s] w fun e w' => e = .returned (.tuple #[.int .i64 (resV V), .int .i64 (resE V)]) ∧ w' = w := by
  have hi : (0 : Int) < (s.size : Int) := by omega
  go_enter Tryz.func114, Tryz.ntmps114
  go_wp2_with (go_at_call 67; refine (shape_at s true _ hs HSH.out).mono ?_; rintro e w' ⟨rfl, rfl⟩)
  clear HSH
  go_loop [5, 6] (fun v i => ∃ (k : Nat) (x : Nat), k ≤ s.size ∧ i = .int .i64 k ∧ v = .int .i64 (x : Int) ∧ Hid (dval (part s.data.toList F k) = x) ∧ Hid (inB (x : Int) = true)) (fun _ i => s.size - (intOf i).toNat)
  case atStart => exact ⟨0, 0, Nat.zero_le _, rfl, rfl, by rw [Hid, part_short _ _ _ (Nat.zero_le _)]; rfl, by unfold Hid; decide⟩
  case round =>
    obtain ⟨k, x, hk, rfl, rfl, HX, HB⟩ := hrel
    by_cases hlt : k < s.size
    · by_cases hkF : k < F
      · obtain rfl : k = 0 := by omega
        have hx : x = 0 := by rw [← HX.out, part_short _ _ _ (Nat.zero_le _)]; rfl
        subst hx
        have HP : Hid (dval (part s.data.toList F 1) = 0) := by rw [Hid, part_short _ _ _ (by omega)]; rfl
        have hd := HD.out hkF
        clear HX HB HD HA HT HV
        have d1 : ((s[0].toNat : Int) == 43) = true := by simp; omega
        clear hd
        go_wp2
        go_round
        case rel => exact ⟨1, 0, by omega, by go_num, rfl, HP.out, by unfold Hid; decide⟩
        case measure => simp [intOf]; omega
      · obtain ⟨g1, g2⟩ := digB_bd (part_dig s F k (by omega) hlt HA.out)
        have hsn : dval (part s.data.toList F (k + 1)) = x * 10 + (s[k].toNat - 48) := by rw [part_snoc s F k (by omega) hlt, dval_snoc, HX.out]
        have hle := part_dval s F (k + 1)
        rw [hsn, HT.out] at hle
        have HS : Hid (dval (part s.data.toList F (k + 1)) = x * 10 + (s[k].toNat - 48)) := hsn
        have HL : Hid (x * 10 + (s[k].toNat - 48) ≤ T) := hle
        clear hsn hle HX HA HT
        have b1 : 48 ≤ (s[k].toNat : Int) := by omega
        have b2 : (s[k].toNat : Int) ≤ 57 := by omega
        have d1 : ((s[k].toNat : Int) == 43) = false := by simp; omega
        have d2 : ((s[k].toNat : Int) == 45) = false := by simp; omega
        clear hkF
        obtain ⟨P, hP⟩ : ∃ P : Int, (x : Int) * 10 = P := ⟨_, rfl⟩
        obtain ⟨Q, hQ⟩ : ∃ Q : Int, ((x * 10 + (s[k].toNat - 48) : Nat) : Int) = Q := ⟨_, rfl⟩
        have hPQ : P + ((s[k].toNat : Int) - 48) = Q := by omega
        have HP : Hid ((x : Int) * 10 = P) := hP
        have HQ : Hid (((x * 10 + (s[k].toNat - 48) : Nat) : Int) = Q) := hQ
        have HPQ : Hid (P + ((s[k].toNat : Int) - 48) = Q) := hPQ
        clear hPQ
        cases hiP : inB P
        · have HR : Hid (resV V = 0 ∧ resE V = 11) := by
            have hl := HL.out
            have ho : inB V = false := by rw [HV.out, inB_not]; rw [inB_not] at hiP; omega
            exact ⟨resV_out ho, resE_out ho⟩
          clear hP hQ HS HL HV HQ HPQ
          go_wp2_with (go_at_call 134; refine (rmul_no _ 10 P _ HB.out (by decide) HP.out hiP).mono ?_; rintro e w' ⟨rfl, rfl⟩)
          go_ret2
          exact ⟨by rw [HR.out.1, HR.out.2]; rfl, rfl⟩
        · cases hiQ : inB Q
          · have HR : Hid (resV V = 0 ∧ resE V = 11) := by
              have hl := HL.out
              have ho : inB V = false := by rw [HV.out, inB_not]; rw [inB_not] at hiQ; omega
              exact ⟨resV_out ho, resE_out ho⟩
            clear hP hQ HS HL HV HQ
            go_wp2_with (first | (go_at_call 134; refine (rmul_yes _ 10 P _ HB.out (by decide) HP.out hiP).mono ?_; rintro e w' ⟨rfl, rfl⟩) | (go_at_call 135; refine (radd_no P _ Q _ hiP (by rw [inB_iff]; omega) HPQ.out hiQ).mono ?_; rintro e w' ⟨rfl, rfl⟩))
            go_ret2
            exact ⟨by rw [HR.out.1, HR.out.2]; rfl, rfl⟩
          · clear hP hQ HL HV HD
            go_wp2_with (first | (go_at_call 134; refine (rmul_yes _ 10 P _ HB.out (by decide) HP.out hiP).mono ?_; rintro e w' ⟨rfl, rfl⟩) | (go_at_call 135; refine (radd_yes P _ Q _ hiP (by rw [inB_iff]; omega) HPQ.out hiQ).mono ?_; rintro e w' ⟨rfl, rfl⟩))
            go_round
            case rel => exact ⟨k + 1, x * 10 + (s[k].toNat - 48), by omega, by go_num, by rw [HQ.out], HS.out, by rw [Hid, HQ.out]; exact hiQ⟩
            case measure => simp [intOf]; omega
    · have HE : Hid (x = T) := by
        have h := HX.out
        rw [part_whole s F k (by omega), HT.out] at h
        exact h.symm
      have HR : Hid (resV V = (x : Int) ∧ resE V = 0) := by
        have h := HB.out
        rw [HE.out] at h
        rw [Hid, HV.out, HE.out]
        exact ⟨resV_in h, resE_in h⟩
      clear HX HB HD HA HT HV HE
      go_wp2
      go_ret2
      exact ⟨by rw [HR.out.1, HR.out.2]; rfl, rfl⟩
theorem shape_size (s : ByteArray) (h : shapeL s.data.toList = true) : 0 < s.size := by
  by_cases e : s.size = 0
  · rw [size_nil s e] at h
    exact absurd h (by decide)
  · omega
theorem rparse_any (s : ByteArray) (w : World) (hs : s.size ≤ 300000) :
    Calls Tryz.prog 114 #[.string s] w fun e w' => e = .returned (.tuple #[.int .i64 (parV s.data.toList), .int .i64 (parE s.data.toList)]) ∧ w' = w := by
  unfold parV parE
  cases hsh : shapeL s.data.toList
  · rw [if_neg (by decide), if_neg (by decide)]
    exact rparse_form s w hs hsh
  · rw [if_pos rfl, if_pos rfl]
    have h1 := shape_size s hsh
    have hall : allD (bodyL s.data.toList) = true := by
      have h := hsh
      unfold shapeL at h
      rw [Bool.and_eq_true] at h
      exact h.1
    have hneg := neg_is s h1
    unfold valL
    by_cases c1 : s[0].toNat = 45
    · have hb := body_sign s h1 (Or.inl c1)
      rw [show negL s.data.toList = true by rw [hneg]; simpa using c1, if_pos rfl]
      exact rparse_neg s w 1 (dval (bodyL s.data.toList)) _ hs h1 (Nat.le_refl _) (by simp; omega) hsh (fun _ => c1) (by rw [← hb]; exact hall) (by rw [Hid, hb]) rfl
    · rw [show negL s.data.toList = false by rw [hneg]; simpa using c1, if_neg (by decide)]
      by_cases c2 : s[0].toNat = 43
      · have hb := body_sign s h1 (Or.inr c2)
        exact rparse_pos s w 1 (dval (bodyL s.data.toList)) _ hs h1 (Nat.le_refl _) (by simp; omega) hsh (fun _ => c2) (by rw [← hb]; exact hall) (by rw [Hid, hb]) rfl
      · have hb := body_none s h1 (by omega)
        exact rparse_pos s w 0 (dval (bodyL s.data.toList)) _ hs h1 (Nat.zero_le _) (by simp; omega) hsh (fun h => absurd h (by omega)) (by rw [← hb]; exact hall) (by rw [Hid, hb]) rfl
end Go.Proofs.YtnhbjhdkpbhioaaGreatDoor
