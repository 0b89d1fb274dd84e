/- Contracts of package num's Parse and of what it calls: any text of at most 100,000 bytes. -/
import Derived.Test.YtfglmfldpmpofaaDoorProg
import Derived.Test.YtfglmfldpmpofaaDoorNumText
import Derived.Deep.QuietTactic
import Derived.BigQuiet
namespace Go.Proofs.YtfglmfldpmpofaaDoor
open Go.RowKit

theorem ret_bs {b : Bool} {s t : ByteArray} (h : s = t) : Ending.returned (.tuple #[.bool b, .string s]) = .returned (.tuple #[.bool b, .string t]) := by rw [h]

theorem split_sign (s : ByteArray) (w : World) (hs : s.size ≤ 100000) :
    Calls Tryd.prog 83 #[.string s] w fun e w' => e = .returned (.tuple #[.bool (negL s.data.toList), .string ⟨(bodyL s.data.toList).toArray⟩]) ∧ ∃ n, w' = w.drewN n := by
  by_cases h0 : s.size = 0
  · have e := size_nil s h0
    subst e
    clear h0 hs
    go_enter Tryd.func83, Tryd.ntmps83
    go_wp2
    go_ret2
    exact ⟨rfl, 0, rfl⟩
  have h1 : 0 < s.size := by omega
  have hne := not_empty s h1
  have hi : (0 : Int) < (s.size : Int) := by omega
  obtain ⟨r, hr, hx⟩ := list_cons s h1
  rw [hr]
  by_cases c1 : s[0].toNat = 45
  · have d1 : ((s[0].toNat : Int) == 45) = true := by simp; omega
    have e1 : negL (s[0] :: r) = true := by simp [negL, c1]
    have e2 : bodyL (s[0] :: r) = r := by simp [bodyL, c1]
    rw [e1, e2]
    have HX : Hid (s.extract 1 s.size = ⟨r.toArray⟩) := hx
    clear e1 e2 hx hr c1 h0
    go_enter Tryd.func83, Tryd.ntmps83
    go_wp2
    go_quiet (fail)
    go_wp2
    go_ret2
    exact ⟨ret_bs HX.out, _, rfl⟩
  · have d1 : ((s[0].toNat : Int) == 45) = false := by simp; omega
    by_cases c2 : s[0].toNat = 43
    · have d2 : ((s[0].toNat : Int) == 43) = true := by simp; omega
      have e1 : negL (s[0] :: r) = false := by simp [negL, c1]
      have e2 : bodyL (s[0] :: r) = r := by simp [bodyL, c2]
      rw [e1, e2]
      have HX : Hid (s.extract 1 s.size = ⟨r.toArray⟩) := hx
      clear e1 e2 hx hr c1 c2 h0
      go_enter Tryd.func83, Tryd.ntmps83
      go_wp2
      go_quiet (fail)
      go_wp2
      go_ret2
      exact ⟨ret_bs HX.out, _, rfl⟩
    · have d2 : ((s[0].toNat : Int) == 43) = false := by simp; omega
      have e1 : negL (s[0] :: r) = false := by simp [negL, c1]
      have e2 : bodyL (s[0] :: r) = s.data.toList := by rw [hr]; simp [bodyL, c1, c2]
      rw [e1, e2]
      clear e1 e2 hx hr c1 c2 h0
      go_enter Tryd.func83, Tryd.ntmps83
      go_wp2
      go_ret2
      exact ⟨rfl, 0, rfl⟩

/-- Are these digits alone? -/
def allD (l : List UInt8) : Bool := l.all digB
theorem allD_snoc (l : List UInt8) (c : UInt8) : allD (l ++ [c]) = (allD l && digB c) := by unfold allD; rw [List.all_append]; simp
theorem allD_take {l : List UInt8} (k : Nat) (h : allD l = true) : allD (l.take k) = true := by
  unfold allD at *
  rw [List.all_eq_true] at *
  exact fun x hx => h x (List.mem_of_mem_take hx)
theorem allD_no {l : List UInt8} {k : Nat} (h : allD (l.take k) = false) : allD l = false := by
  cases e : allD l
  · rfl
  · rw [allD_take k e] at h; exact absurd h (by decide)

theorem digB_yes {c : UInt8} (h1 : 48 ≤ (c.toNat : Int)) (h2 : (c.toNat : Int) ≤ 57) : digB c = true := by unfold digB; simp; omega
theorem digB_lo {c : UInt8} (h1 : (c.toNat : Int) < 48) : digB c = false := by unfold digB; simp; omega
theorem digB_hi {c : UInt8} (h1 : 57 < (c.toNat : Int)) : digB c = false := by unfold digB; simp; omega
theorem digB_bd {c : UInt8} (h : digB c = true) : 48 ≤ c.toNat ∧ c.toNat ≤ 57 := by unfold digB at h; simpa using h
theorem ret_bool {a b : Bool} (h : a = b) : Ending.returned (.bool a) = .returned (.bool b) := by rw [h]

set_option maxHeartbeats 400000 in
theorem all_digits (s : ByteArray) (w : World) (hs : s.size ≤ 100000) :
    Calls Tryd.prog 84 #[.string s] w fun e w' => e = .returned (.bool (allD s.data.toList && !s.toList.isEmpty)) ∧ w' = w := by
  go_enter Tryd.func84, Tryd.ntmps84
  go_wp2
  go_loop [6] (fun i => ∃ k : Nat, k ≤ s.size ∧ i = .int .i64 k ∧ allD (s.data.toList.take k) = true) (fun i => s.size - (intOf i).toNat)
  case atStart => exact ⟨0, Nat.zero_le _, rfl, rfl⟩
  case round =>
    obtain ⟨k, hk, rfl, hall⟩ := hrel
    by_cases hlt : k < s.size
    · have hts := take_snoc s k hlt
      have hsn := allD_snoc (s.data.toList.take k) s[k]
      rw [← hts, hall, Bool.true_and] at hsn
      have HS : Hid (allD (s.data.toList.take (k + 1)) = digB s[k]) := hsn
      clear hsn hts hall
      by_cases c1 : (s[k].toNat : Int) < 48
      · have HF : Hid (allD s.data.toList = false) := allD_no (k := k + 1) (by rw [HS.out]; exact digB_lo c1)
        clear HS
        go_wp2
        go_ret
        exact ⟨ret_bool (by rw [HF.out]; rfl), rfl⟩
      · by_cases c2 : 57 < (s[k].toNat : Int)
        · have HF : Hid (allD s.data.toList = false) := allD_no (k := k + 1) (by rw [HS.out]; exact digB_hi c2)
          clear HS
          go_wp2
          go_ret
          exact ⟨ret_bool (by rw [HF.out]; rfl), rfl⟩
        · have HT : Hid (allD (s.data.toList.take (k + 1)) = true) := by rw [Hid, HS.out]; exact digB_yes (by omega) (by omega)
          clear HS
          go_wp2
          go_round
          case rel => exact ⟨k + 1, by omega, by go_num, HT.out⟩
          case measure => simp [intOf]; omega
    · have HA : Hid (allD s.data.toList = true) := by rw [List.take_of_length_le (by simp; omega)] at hall; exact hall
      clear hall
      go_wp2
      go_ret
      exact ⟨ret_bool (by rw [HA.out]; rfl), rfl⟩

theorem ret_ui {a b c d : Int} (h : a = b) (h2 : c = d) : Ending.returned (.tuple #[.int .u64 a, .int .i64 c]) = .returned (.tuple #[.int .u64 b, .int .i64 d]) := by rw [h, h2]

/-- What sizeOf answers: what the digits are worth, unless it is above m. -/
def sizV (l : List UInt8) (m : Nat) : Int := if dval l ≤ m then (dval l : Int) else 0
def sizE (l : List UInt8) (m : Nat) : Int := if dval l ≤ m then 0 else 11

set_option maxHeartbeats 400000 in
theorem size_of (s : ByteArray) (m : Nat) (w : World) (hs : s.size ≤ 100000) (hall : allD s.data.toList = true) (hm1 : 10 ≤ m) (hm2 : m ≤ 9223372036854775808) :
    Calls Tryd.prog 85 #[.string s, .int .u64 m] w fun e w' => e = .returned (.tuple #[.int .u64 (sizV s.data.toList m), .int .i64 (sizE s.data.toList m)]) ∧ w' = w := by
  have HA : Hid (allD s.data.toList = true) := hall
  clear hall
  go_enter Tryd.func85, Tryd.ntmps85
  go_wp2
  go_loop [6, 11] (fun z i => ∃ k D : Nat, k ≤ s.size ∧ i = .int .i64 k ∧ z = .int .u64 D ∧ Hid (dval (s.data.toList.take k) = D) ∧ D ≤ m) (fun _ i => s.size - (intOf i).toNat)
  case atStart => exact ⟨0, 0, Nat.zero_le _, rfl, rfl, rfl, Nat.zero_le _⟩
  case round =>
    obtain ⟨k, D, hk, rfl, rfl, HD, hDm⟩ := hrel
    by_cases hlt : k < s.size
    · have hts := take_snoc s k hlt
      have hsn := dval_snoc (s.data.toList.take k) s[k]
      rw [← hts, HD.out] at hsn
      have hdg : digB s[k] = true := by
        have h := allD_take (k + 1) HA.out
        rw [hts, allD_snoc, Bool.and_eq_true] at h
        exact h.2
      obtain ⟨g1, g2⟩ := digB_bd hdg
      have HS : Hid (dval (s.data.toList.take (k + 1)) = D * 10 + (s[k].toNat - 48)) := hsn
      clear hsn hts hdg
      have b1 : 48 ≤ (s[k].toNat : Int) := by omega
      have b2 : (s[k].toNat : Int) ≤ 57 := by omega
      by_cases hc : D * 10 + (s[k].toNat - 48) ≤ m
      · have ht : ¬ ((m : Int) - ((s[k].toNat : Int) - 48)) / 10 < (D : Int) := by omega
        have HN : Hid (D * 10 + (s[k].toNat - 48) ≤ m) := hc
        have EN : Hid ((D : Int) * 10 + ((s[k].toNat : Int) - 48) = ((D * 10 + (s[k].toNat - 48) : Nat) : Int)) := by rw [Hid]; omega
        clear hc g1 g2
        go_wp2
        go_round
        case rel => exact ⟨k + 1, D * 10 + (s[k].toNat - 48), by omega, by go_num, by rw [← EN.out], HS.out, HN.out⟩
        case measure => simp [intOf]; omega
      · have ht : ((m : Int) - ((s[k].toNat : Int) - 48)) / 10 < (D : Int) := by omega
        have HF : Hid (¬ dval s.data.toList ≤ m) := by
          intro h
          have := dval_take s.data.toList (k + 1)
          rw [HS.out] at this
          omega
        clear hc g1 g2 HS
        go_wp2
        go_ret2
        exact ⟨ret_ui (by unfold sizV; rw [if_neg HF.out]) (by unfold sizE; rw [if_neg HF.out]), rfl⟩
    · have HE : Hid (dval s.data.toList = D) := by
        have h := HD.out
        rw [List.take_of_length_le (by simp; omega)] at h
        exact h
      clear HD HA
      go_wp2
      go_ret2
      exact ⟨ret_ui (by unfold sizV; rw [HE.out, if_pos hDm]) (by unfold sizE; rw [HE.out, if_pos hDm]), rfl⟩
end Go.Proofs.YtfglmfldpmpofaaDoor
