/- The walk of ReadDepths. -/
import Derived.Test.YthpmnomplhhfgaaGreatDoorLawBk5
import Derived.Test.YthpmnomplhhfgaaGreatDoorG9
namespace Go.Proofs.YthpmnomplhhfgaaGreatDoor
open Go.RowKit

set_option maxHeartbeats 16000000 in
set_option maxRecDepth 20000 in
theorem deps5_walk (n : Int) (w : World) (_hn : inB n = true) (h4 : Lib4 w) :
    Calls Tryz.prog 5 #[.int .i64 n] w fun e w' => e = .returned (.bool true) ∧ Below w.heap.size w w' := by
  have H4 : Hid (Lib4 w) := h4
  clear h4
  go_enter Tryz.func5, Tryz.ntmps5
  go_wp2_with fail
  refine (known5 w H4.out).mono ?_
  rintro e w1 ⟨rfl, hb1⟩
  have HB1 : Hid (Below w.heap.size w w1) := hb1
  clear hb1
  by_cases h0 : n < 0
  · go_wp2
    go_ret
    exact ⟨rfl, HB1.out⟩
  by_cases h6 : 60 < n
  · go_wp2
    go_ret
    exact ⟨rfl, HB1.out⟩
  obtain ⟨m, rfl⟩ : ∃ m : Nat, n = (m : Int) := ⟨n.toNat, by omega⟩
  have hm : m ≤ 60 := by omega
  go_wp2
  go_loopw [3, 4] (fun t q wr => ∃ (k : Nat) (S : ByteArray), k ≤ m ∧ q = .int .i64 k ∧ t = .string S ∧ Hid (S = baL (repL 40 k)) ∧ Hid (Below w.heap.size w wr)) (fun _ q _ => m - (intOf q).toNat)
  case atStart => exact ⟨0, _, Nat.zero_le _, rfl, rfl, rfl, HB1⟩
  case round =>
    obtain ⟨k, S, hk, rfl, rfl, HS, HB⟩ := hrel
    have hSz : S.size = k := by rw [HS.out, baL_size, repL_len]
    by_cases hlt : k < m
    · have hli : (k : Int) < (m : Int) := by omega
      have hn1 : ¬ 9223372036854775807 < S.size + 1 := by omega
      have HN : Hid (S ++ ⟨#[40]⟩ = baL (repL 40 (k + 1))) := by
        rw [Hid, HS.out, show (⟨#[40]⟩ : ByteArray) = baL [40] from rfl, baL_app]; rfl
      clear hSz
      go_wp2
      go_roundw
      case rel => exact ⟨k + 1, _, by omega, by go_num, rfl, HN, HB⟩
      case measure => simp [intOf]; omega
    · have hli : ¬ (k : Int) < (m : Int) := by omega
      obtain rfl : m = k := by omega
      have H0 : Hid (S = baL (repL 40 m ++ repL 41 0)) := by rw [Hid, HS.out]; exact congrArg baL (List.append_nil _).symm
      clear hSz HS
      go_wp2
      go_loopw [3, 5] (fun t q wq => ∃ (j : Nat) (S : ByteArray), j ≤ m ∧ q = .int .i64 j ∧ t = .string S ∧ Hid (S = baL (repL 40 m ++ repL 41 j)) ∧ Hid (Below w.heap.size w wq)) (fun _ q _ => m - (intOf q).toNat)
      case atStart => exact ⟨0, _, Nat.zero_le _, rfl, rfl, H0, HB⟩
      case round =>
        obtain ⟨j, S, hj, rfl, rfl, HS, HBq⟩ := hrel
        have hSz : S.size = m + j := by rw [HS.out, baL_size, List.length_append, repL_len, repL_len]
        by_cases hlt2 : j < m
        · have hlj : (j : Int) < (m : Int) := by omega
          have hn1 : ¬ 9223372036854775807 < S.size + 1 := by omega
          have HN : Hid (S ++ ⟨#[41]⟩ = baL (repL 40 m ++ repL 41 (j + 1))) := by
            rw [Hid, HS.out, show (⟨#[41]⟩ : ByteArray) = baL [41] from rfl, baL_app, List.append_assoc]; rfl
          clear hSz
          go_wp2
          go_roundw
          case rel => exact ⟨j + 1, _, by omega, by go_num, rfl, HN, HBq⟩
          case measure => simp [intOf]; omega
        · have hlj : ¬ (j : Int) < (m : Int) := by omega
          obtain rfl : m = j := by omega
          have HS2 : Hid (S = baL (depL m)) := HS
          have hTl : (depL m).length = m + m := by unfold depL; rw [List.length_append, repL_len, repL_len]
          clear HS H0
          by_cases h32 : 32 < m
          · have h32i : (32 : Int) < (m : Int) := by omega
            have HRd : Hid (Calls Tryz.prog 10 #[.slice (some ⟨wr.heap.size, 0, none⟩) (m + m) (grownCap wr (m + m) 0 5)] (Lib.bytesWorld wr 5 S) fun e w' => (∃ B, e = .returned (.tuple #[.slice none 0 0, .iface 59 (.pointer (some ⟨B, 0, none⟩))]) ∧ Chain w' 4 [([99, 104, 97, 114], 32)] (.iface 59 (.pointer (some ⟨B, 0, none⟩)))) ∧ Below wr.heap.size wr w') :=
              read_conv_no S (depL m) 32 4 wr (m + m) hSz HS2.out (by omega) (H4.out.next HBq.out).max (dep_gt m h32 hm) (by decide)
            have hcv := conv_str S wr
            rw [hSz] at hcv
            go_wp2_with fail
            refine HRd.out.mono ?_
            rintro e w2 ⟨⟨B, rfl, hC⟩, hb2⟩
            have HB2 : Hid (Below w.heap.size w w2) := next_trans HBq.out hb2
            have HC : Hid (Chain w2 4 [([99, 104, 97, 114], 32)] (.iface 59 (.pointer (some ⟨B, 0, none⟩)))) := hC
            clear hb2 hC hcv HRd
            go_wp2_with fail
            refine (wat_ex 32 4 w2).mono ?_
            rintro e w3 ⟨⟨b, rfl, _, hP⟩, hb3⟩
            have HB3 : Hid (Below w.heap.size w w3) := next_trans HB2.out hb3
            have HTl : Hid (Calls Tryz.prog 12 #[.iface 59 (.pointer (some ⟨B, 0, none⟩)), .agg #[.slice (some ⟨b, 0, none⟩) 1 1, .int .i64 4]] w3 fun e w' => e = .returned (.bool true) ∧ Below w3.heap.size w3 w') :=
              tells_one B b 32 4 w3 (HC.out.next hb3) hP (H4.out.next HB3.out) (by decide) (by decide) (by decide)
            clear hb3 hP
            go_wp2_with fail
            refine HTl.out.mono ?_
            rintro e w4 ⟨rfl, hb4⟩
            have HB4 : Hid (Below w.heap.size w w4) := next_trans HB3.out hb4
            clear hb4
            go_wp2
            go_ret
            exact ⟨rfl, HB4.out⟩
          · have h32i : ¬ (32 : Int) < (m : Int) := by omega
            by_cases hz : m = 0
            · subst hz
              have h00 := dep_0
              obtain ⟨R, HR⟩ : ∃ R, Hid (readQ (depL 0) = R) := ⟨_, rfl⟩
              rw [HR.out] at h00
              obtain ⟨L, ra, re⟩ := R
              simp only at h00
              obtain ⟨rfl, rfl⟩ := h00
              have HRd : Hid (Calls Tryz.prog 10 #[.slice (some ⟨wr.heap.size, 0, none⟩) 0 (grownCap wr 0 0 5)] (Lib.bytesWorld wr 5 S) fun e w' => (∃ ao cap, e = .returned (.tuple #[.slice ao 0 cap, .nilIface])) ∧ Below wr.heap.size wr w') := by
                refine (read_conv5 S (depL 0) [] ra wr 0 hSz HS2.out (by omega) (H4.out.next HBq.out).max HR.out).mono ?_
                rintro e w' ⟨⟨a, c, h1, _⟩, hb⟩
                exact ⟨⟨a, c, h1⟩, hb⟩
              have hcv := conv_str S wr
              rw [hSz] at hcv
              simp only [Nat.add_zero] at hcv
              go_wp2_with fail
              refine HRd.out.mono ?_
              rintro e w2 ⟨⟨a2, c2, rfl⟩, hb2⟩
              have HB2 : Hid (Below w.heap.size w w2) := next_trans HBq.out hb2
              clear hb2 hcv HRd
              go_wp2
              go_ret
              exact ⟨rfl, HB2.out⟩
            · obtain ⟨hre, x, hxl, hxc⟩ := dep_le m (by omega) (by omega)
              have hm0 : ((m : Int) == 0) = false := by simp; omega
              have hm1 : (0 : Int) < (m : Int) := by omega
              obtain ⟨R, HR⟩ : ∃ R, Hid (readQ (depL m) = R) := ⟨_, rfl⟩
              rw [HR.out] at hre hxl
              obtain ⟨L, ra, re⟩ := R
              simp only at hre hxl
              subst hre hxl
              have HXc : Hid (cntN x = m) := hxc
              have HRd : Hid (Calls Tryz.prog 10 #[.slice (some ⟨wr.heap.size, 0, none⟩) (m + m) (grownCap wr (m + m) 0 5)] (Lib.bytesWorld wr 5 S) fun e w' => (∃ ao cap, e = .returned (.tuple #[.slice ao 1 cap, .nilIface]) ∧ IsNds w' anyB ao [x]) ∧ Below wr.heap.size wr w') := by
                refine (read_conv5 S (depL m) [x] ra wr (m + m) hSz HS2.out (by omega) (H4.out.next HBq.out).max HR.out).mono ?_
                rintro e w' ⟨⟨a, c, h1, _, h2⟩, hb⟩
                exact ⟨⟨a, c, h1, h2⟩, hb⟩
              have hcv := conv_str S wr
              rw [hSz] at hcv
              clear hxc
              go_wp2_with fail
              refine HRd.out.mono ?_
              rintro e w2 ⟨⟨a2, c2, rfl, hN2⟩, hb2⟩
              have HB2 : Hid (Below w.heap.size w w2) := next_trans HBq.out hb2
              obtain ⟨b, o, ka, kc, rfl, hA⟩ := hN2.at (j := 0) rfl
              rw [Nat.zero_mul, Nat.add_zero] at hA
              have HCt : Hid (Calls Tryz.prog 19 #[ndV x ka kc] w2 fun e w' => e = .returned (.int .i64 (m : Int)) ∧ Below w2.heap.size w2 w') := by
                rw [← HXc.out]
                exact count_any x ka kc w2 (by rw [HXc.out]; omega) hA.hc hA.kids
              obtain ⟨d0, d1, d2, d3, d4, _, _⟩ := hA
              unfold ndV at HCt
              obtain ⟨xk, xa, xi, xs, xl⟩ := x
              simp only at d0 d1 d2 d3 d4 HCt
              obtain ⟨Q, HQ⟩ : ∃ Q, Hid (xl.length = Q) := ⟨_, rfl⟩
              rw [HQ.out] at d4 HCt
              clear hb2 hcv HRd hN2 HXc HR HQ
              go_wp2_with fail
              refine HCt.out.mono ?_
              rintro e w3 ⟨rfl, hb3⟩
              have HB3 : Hid (Below w.heap.size w w3) := next_trans HB2.out hb3
              clear hb3
              go_wp2
              go_ret
              exact ⟨rfl, HB3.out⟩
end Go.Proofs.YthpmnomplhhfgaaGreatDoor
