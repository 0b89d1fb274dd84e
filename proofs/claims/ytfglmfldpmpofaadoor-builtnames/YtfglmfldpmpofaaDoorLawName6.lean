/- The walk of BuiltNames. -/
import Derived.Test.YtfglmfldpmpofaaDoorBtKnow
namespace Go.Proofs.YtfglmfldpmpofaaDoor
open Go.RowKit

theorem nm_known {j : Nat} (h : j < 21) : knownB (nameAt j) = true := known_found h rfl
theorem nm_two {j : Nat} (h : j < 21) : knownB (nameAt j ++ nameAt j) = false := by
  rcases lt21 h with rfl | rfl | rfl | rfl | rfl | rfl | rfl | rfl | rfl | rfl | rfl | rfl | rfl | rfl | rfl | rfl | rfl | rfl | rfl | rfl | rfl
  all_goals decide
theorem nm_size {j : Nat} (h : j < 21) : (nameAt j).size ≤ 7 := by
  rcases lt21 h with rfl | rfl | rfl | rfl | rfl | rfl | rfl | rfl | rfl | rfl | rfl | rfl | rfl | rfl | rfl | rfl | rfl | rfl | rfl | rfl | rfl
  all_goals decide
theorem nm_lo {j : Nat} (h : j < 21) : 0 ≤ loC j ∧ (hiC j < 0 ∨ loC j ≤ hiC j) := by
  rcases lt21 h with rfl | rfl | rfl | rfl | rfl | rfl | rfl | rfl | rfl | rfl | rfl | rfl | rfl | rfl | rfl | rfl | rfl | rfl | rfl | rfl | rfl
  all_goals decide

theorem nm_less {m : Nat} (h : m + 1 < 21) : Op.bytesLess (nameAt m).toList (nameAt (m + 1)).toList = true := by
  rw [Lib.toList_data, Lib.toList_data]
  rcases lt21 (show m < 21 by omega) with rfl | rfl | rfl | rfl | rfl | rfl | rfl | rfl | rfl | rfl | rfl | rfl | rfl | rfl | rfl | rfl | rfl | rfl | rfl | rfl | rfl
  all_goals first | decide | omega

set_option maxHeartbeats 4000000 in
set_option maxRecDepth 8000 in
theorem names_walk (k : Int) (w : World) (hk : inB k = true) (ht : TabW w) :
    Calls Tryd.prog 4 #[.int .i64 k] w fun e w' => e = .returned (.bool true) ∧ Below w.heap.size w w' := by
  have HT : Hid (TabW w) := ht
  clear ht
  go_enter Tryd.func4, Tryd.ntmps4
  go_wp2_with fail
  refine (known6 _ HT.out).mono ?_
  rintro e w1 ⟨rfl, hb1⟩
  obtain ⟨n1, Hn1⟩ : ∃ n1, Hid (w1.heap.size = n1) := ⟨_, rfl⟩
  go_wp2_with fail
  refine (names_any _).mono ?_
  rintro e w2 ⟨rfl, hm2, hb2⟩
  obtain ⟨n2, Hn2⟩ : ∃ n2, Hid (w2.heap.size = n2) := ⟨_, rfl⟩
  go_wp2_with fail
  refine (rnames_any _).mono ?_
  rintro e w3 ⟨rfl, hm3, hb3⟩
  have HA : Hid (NamesAt w3 n1) := by rw [← Hn1.out]; exact hm2.next hb3
  have HC : Hid (NamesAt w3 n2) := by rw [← Hn2.out]; exact hm3
  have b3 : Hid (Below w.heap.size w w3) := next_trans' (next_trans' hb1 hb2) hb3
  rw [Hn1.out, Hn2.out]
  clear hb1 hb2 hb3 hm2 hm3
  go_wp2
  go_loopw [5] (fun i wr => ∃ n : Nat, n ≤ 21 ∧ i = .int .i64 n ∧ Hid (SameW w3 wr)) (fun i _ => 21 - (intOf i).toNat)
  case atStart => exact ⟨0, Nat.zero_le _, rfl, SameW.refl _⟩
  case round =>
    obtain ⟨n, hn, rfl, HS⟩ := hrel
    by_cases hlt : n < 21
    · have hki : (n : Int) < 21 := by omega
      obtain ⟨X, HX⟩ : ∃ X, Hid (nameAt n = X) := ⟨_, rfl⟩
      have c1 := (HA.out.next (HS.out.below _)) n hlt
      have c2 := (HC.out.next (HS.out.below _)) n hlt
      rw [HX.out] at c1 c2
      have HK : Hid (knownB X = true) := by rw [← HX.out]; exact nm_known hlt
      have d1 : (X.toList != X.toList) = false := by simp
      have h0 : (0 : Int) ≤ (n : Int) := by omega
      by_cases hz : n = 0
      · have hz' : ¬ (0 : Int) < (n : Int) := by omega
        have hz2 : decide ((0 : Int) < (n : Int)) = false := decide_eq_false hz'
        have hz3 : decide (0 < n) = false := decide_eq_false (by omega)
        clear hz
        go_wp2
        go_quiet ((go_at_call 16; exact Calls.quiet_of_same (bknown_any X true _ HK.out)))
        go_wp2
        go_roundw
        case rel => exact ⟨n + 1, by omega, by go_num, HS.out.drewN _⟩
        case measure => simp [intOf]; omega
      · obtain ⟨m, rfl⟩ : ∃ m, n = m + 1 := ⟨n - 1, by omega⟩
        obtain ⟨Y, HY⟩ : ∃ Y, Hid (nameAt m = Y) := ⟨_, rfl⟩
        have c3 := (HA.out.next (HS.out.below _)) m (by omega)
        rw [HY.out] at c3
        have hz' : (0 : Int) < ((m + 1 : Nat) : Int) := by omega
        have hm1 : (m : Int) < 21 := by omega
        have hless : Op.bytesLess Y.toList X.toList = true := by rw [← HX.out, ← HY.out]; exact nm_less hlt
        go_wp2
        go_quiet ((go_at_call 16; exact Calls.quiet_of_same (bknown_any X true _ HK.out)))
        go_wp2
        go_roundw
        case rel => exact ⟨m + 1 + 1, by omega, by go_num, HS.out.drewN _⟩
        case measure => simp [intOf]; omega
    · have hki : ¬ (n : Int) < 21 := by omega
      have HAr : Hid (NamesAt wr n1) := HA.out.next (HS.out.below _)
      have br : Hid (Below w.heap.size w wr) := b3.out.trans (HS.out.below _)
      clear hlt
      by_cases hk0 : k < 0
      · go_wp2
        go_ret
        exact ⟨rfl, br.out⟩
      · obtain ⟨j, hj, hj2⟩ : ∃ j : Nat, k % 21 = (j : Int) ∧ j < 21 := ⟨(k % 21).toNat, by omega, by omega⟩
        have hk1 : (0 : Int) ≤ k := by omega
        have hj0 : (0 : Int) ≤ (j : Int) := by omega
        have hj1 : (j : Int) < 21 := by omega
        obtain ⟨X, HX⟩ : ∃ X, Hid (nameAt j = X) := ⟨_, rfl⟩
        have c1 := HAr.out j hj2
        rw [HX.out] at c1
        have HCx : Hid (code X = j) := by rw [← HX.out]; exact code_at hj2
        obtain ⟨lo, HL⟩ : ∃ lo, Hid (loC (code X) = lo) := ⟨_, rfl⟩
        obtain ⟨hi, HH⟩ : ∃ hi, Hid (hiC (code X) = hi) := ⟨_, rfl⟩
        have hb := nm_lo hj2
        rw [← HCx.out, HL.out, HH.out] at hb
        obtain ⟨hlo, hhi⟩ := hb
        have HK : Hid (knownB (X ++ X) = false) := by rw [← HX.out]; exact nm_two hj2
        have hsz : X.size ≤ 7 := by rw [← HX.out]; exact nm_size hj2
        have hs2 : ¬ 9223372036854775807 < X.size + X.size := by omega
        have hkb := (inB_iff k).1 hk
        obtain ⟨hkb1, hkb2⟩ := hkb
        rcases hhi with hhi | hhi
        · go_wp2_with (first
            | (go_at_call 13; refine (arity_any X lo hi _ HL.out HH.out).mono ?_; rintro e w4 ⟨rfl, rfl⟩)
            | (go_at_call 16; refine (bknown_any (X ++ X) false _ HK.out).mono ?_; rintro e w4 ⟨rfl, rfl⟩))
          go_ret
          exact ⟨rfl, br.out⟩
        · by_cases hh0 : hi < 0
          · go_wp2_with (first
              | (go_at_call 13; refine (arity_any X lo hi _ HL.out HH.out).mono ?_; rintro e w4 ⟨rfl, rfl⟩)
              | (go_at_call 16; refine (bknown_any (X ++ X) false _ HK.out).mono ?_; rintro e w4 ⟨rfl, rfl⟩))
            go_ret
            exact ⟨rfl, br.out⟩
          · have hh1 : decide (hi < 0) = false := decide_eq_false hh0
            go_wp2_with (first
              | (go_at_call 13; refine (arity_any X lo hi _ HL.out HH.out).mono ?_; rintro e w4 ⟨rfl, rfl⟩)
              | (go_at_call 16; refine (bknown_any (X ++ X) false _ HK.out).mono ?_; rintro e w4 ⟨rfl, rfl⟩))
            go_ret
            exact ⟨rfl, br.out⟩
end Go.Proofs.YtfglmfldpmpofaaDoor
