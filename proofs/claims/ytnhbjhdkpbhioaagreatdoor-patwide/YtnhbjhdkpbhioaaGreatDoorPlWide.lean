/- The walk of PatWide. -/
import Derived.Test.YtnhbjhdkpbhioaaGreatDoorPlKnow
namespace Go.Proofs.YtnhbjhdkpbhioaaGreatDoor
open Go.RowKit

theorem mat_wd (t ft : ByteArray) (id : Int) (L : List Val) : matP ⟨t, []⟩ ⟨id, ft, L⟩ [] = if ft = t then some [] else none := rfl
theorem alo_wd (t ft : ByteArray) (id : Int) (L : List Val) : alonB ⟨t, []⟩ ⟨id, ft, L⟩ = decide (ft = t) := by
  unfold alonB
  show (decide (ft = t) && true) = _
  rw [Bool.and_true]
theorem pick3 {q : Int} (h0 : 0 ≤ q) : q.tmod 3 = 0 ∨ q.tmod 3 = 1 ∨ q.tmod 3 = 2 := by
  have := Int.tmod_eq_emod_of_nonneg h0 (b := 3)
  omega

set_option linter.unusedSimpArgs false in
set_option maxHeartbeats 16000000 in
set_option maxRecDepth 8000 in
theorem wide11_walk (id : Int) (ft : ByteArray) (fo : Option Addr) (N fc : Nat) (L : List Val) (q : Int) (w : World) (hL : L.length = N) (hv : IsVals w fo L) (hq : 0 ≤ q ∧ q < 256) (h4 : TabW w ∧ MaxW w) :
    Calls Tryz.prog 6 #[.agg #[.int .i64 id, .string ft, .slice fo N fc], .int .u8 q] w fun e w' => e = .returned (.bool true) ∧ Below w.heap.size w w' := by
  have H4 : Hid (TabW w ∧ MaxW w) := h4
  have HL : Hid (L.length = N) := hL
  have HV : Hid (IsVals w fo L) := hv
  clear h4 hL hv
  obtain ⟨W0, HW0⟩ : ∃ W0, Hid (w.alloc (.cells #[.int .i64 id, .string ft, .slice fo N fc] 66) = W0) := ⟨_, rfl⟩
  have HX0 : Hid (Bx W0 w.heap.size #[.int .i64 id, .string ft, .slice fo N fc]) := Bx.made' HW0.out rfl
  have HB0 : Hid (Below w.heap.size w W0) := by rw [← HW0.out]; exact alloc_below _ _
  go_enter Tryz.func6, Tryz.ntmps6
  go_wp2_with fail
  rw [HW0.out]
  refine (known11 W0 (tab_next H4.out.1 HB0.out) (H4.out.2.next HB0.out)).mono ?_
  rintro e w1 ⟨rfl, hb1⟩
  have HB1 : Hid (Below w.heap.size w w1) := next_trans HB0.out hb1
  have HX1 : Hid (Bx w1 w.heap.size #[.int .i64 id, .string ft, .slice fo N fc]) := HX0.out.next hb1
  have x1 : w1.cell? ⟨w.heap.size, 1, none⟩ = some (.string ft) := HX1.out.cell 1
  have x0 : w1.cell? ⟨w.heap.size, 0, none⟩ = some (.int .i64 id) := HX1.out.cell 0
  have x2 : w1.cell? ⟨w.heap.size, 2, none⟩ = some (.slice fo N fc) := HX1.out.cell 2
  have hl1 : w.heap.size < w1.heap.size := HX1.out.lt
  clear hb1 HX0 HB0 HW0
  by_cases hN : 20 < N
  · have hNi : (20 : Int) < (N : Int) := by omega
    go_wp2
    go_ret
    exact ⟨rfl, HB1.out⟩
  have hNi : ¬ (20 : Int) < (N : Int) := by omega
  by_cases hT : 100 < ft.size
  · have hTi : (100 : Int) < (ft.size : Int) := by omega
    go_wp2
    go_ret
    exact ⟨rfl, HB1.out⟩
  have hTi : ¬ (100 : Int) < (ft.size : Int) := by omega
  have HMa : Hid (∀ W t, Below w1.heap.size w1 W → Calls Tryz.prog 29 #[.agg #[.string t, .slice none 0 0], .agg #[.int .i64 id, .string ft, .slice fo N fc], .slice none 0 0] W fun e w' => MtE w' (if ft = t then some [] else none) e ∧ Below W.heap.size W w') := by
    intro W t hB
    have := match_any ⟨t, []⟩ none 0 ⟨id, ft, L⟩ fo fc [] none 0 W (by simp) (fun j t hj => by simp at hj) (by rw [HL.out]; omega) (HV.out.next (next_trans HB1.out hB)) (by simp) (IsSls.nil _ _) (fun _ => ⟨rfl, rfl⟩)
    unfold ptV fcV at this
    simp only at this
    rw [HL.out] at this
    exact this
  have HAl : Hid (∀ W t, Below w1.heap.size w1 W → Calls Tryz.prog 33 #[.agg #[.string t, .slice none 0 0], .agg #[.int .i64 id, .string ft, .slice fo N fc]] W fun e w' => e = .returned (.bool (decide (ft = t))) ∧ Below W.heap.size W w') := by
    intro W t hB
    have := alone_any ⟨t, []⟩ none 0 ⟨id, ft, L⟩ fo fc W (by simp) (fun j t hj => by simp at hj) (by rw [HL.out]; omega) (HV.out.next (next_trans HB1.out hB))
    rw [alo_wd] at this
    unfold ptV fcV at this
    simp only at this
    rw [HL.out] at this
    exact this
  have HVa : Hid (∀ W t, Calls Tryz.prog 23 #[.agg #[.string t, .slice none 0 0]] W fun e w' => (∃ ro rc, e = .returned (.slice ro 0 rc)) ∧ Below W.heap.size W w') := by
    intro W t
    refine (vars_any ⟨t, []⟩ none 0 W (by simp) (fun j t hj => by simp at hj)).mono ?_
    rintro e w' ⟨⟨ro, rc, h1, _⟩, hb⟩
    exact ⟨⟨ro, rc, h1⟩, hb⟩
  have hpk := pick3 hq.1
  clear hq HV HL
  rcases hpk with hk | hk | hk
  · by_cases hft : ft = ⟨#[112]⟩
    · have hd : (ft.toList == [112]) = true := s_eq (l := [112]) (show Hid (baL [112] = ft) from hft.symm) rfl
      have HFt : Hid (ft = ⟨#[112]⟩) := hft
      clear hft
      obtain ⟨W5, HW5⟩ : ∃ W5, Hid ((w1.alloc (.cells #[.string ⟨#[112]⟩, .string ⟨#[113]⟩, .string ft] 9)).alloc (.cells #[.string ⟨#[112]⟩, .slice none 0 0] 36) = W5) := ⟨_, rfl⟩
      have hb5 : Below w1.heap.size w1 W5 := by rw [← HW5.out]; exact next_trans (alloc_below _ _) (alloc_below _ _)
      have HB5 : Hid (Below w1.heap.size w1 W5) := hb5
      have HP5 : Hid (Bx W5 (w1.heap.size + 1) #[.string ⟨#[112]⟩, .slice none 0 0]) := Bx.made' HW5.out (by simp)
      have HX5 : Hid (Bx W5 w.heap.size #[.int .i64 id, .string ft, .slice fo N fc]) := HX1.out.next hb5
      clear hb5
      go_wp2_with fail
      rw [HW5.out]
      refine (HMa.out W5 ⟨#[112]⟩ HB5.out).mono ?_
      rw [if_pos HFt.out]
      rintro e w6 ⟨⟨ro, rc, rfl, _⟩, hb6⟩
      have HB6 : Hid (Below w1.heap.size w1 w6) := next_trans HB5.out hb6
      have HP6 : Hid (Bx w6 (w1.heap.size + 1) #[.string ⟨#[112]⟩, .slice none 0 0]) := HP5.out.next hb6
      have HX6 : Hid (Bx w6 w.heap.size #[.int .i64 id, .string ft, .slice fo N fc]) := HX5.out.next hb6
      obtain ⟨p0, p1⟩ : w6.cell? ⟨w1.heap.size + 1, 0, none⟩ = some (.string ⟨#[112]⟩) ∧ w6.cell? ⟨w1.heap.size + 1, 1, none⟩ = some (.slice none 0 0) := ⟨HP6.out.cell 0, HP6.out.cell 1⟩
      obtain ⟨x0, x1, x2⟩ : w6.cell? ⟨w.heap.size, 0, none⟩ = some (.int .i64 id) ∧ w6.cell? ⟨w.heap.size, 1, none⟩ = some (.string ft) ∧ w6.cell? ⟨w.heap.size, 2, none⟩ = some (.slice fo N fc) := ⟨HX6.out.cell 0, HX6.out.cell 1, HX6.out.cell 2⟩
      simp only [List.length_nil]
      clear hb6 HMa HB5 HP5 HX5 HW5
      go_wp2_with fail
      refine (HAl.out _ ⟨#[112]⟩ HB6.out).mono ?_
      rw [decide_eq_true HFt.out]
      rintro e w7 ⟨rfl, hb7⟩
      have HB7 : Hid (Below w1.heap.size w1 w7) := next_trans HB6.out hb7
      obtain ⟨p0, p1⟩ : w7.cell? ⟨w1.heap.size + 1, 0, none⟩ = some (.string ⟨#[112]⟩) ∧ w7.cell? ⟨w1.heap.size + 1, 1, none⟩ = some (.slice none 0 0) := ⟨(HP6.out.next hb7).cell 0, (HP6.out.next hb7).cell 1⟩
      clear x0 x1 x2 hb7 HAl HX6 HP6
      go_wp2_with fail
      refine (HVa.out _ ⟨#[112]⟩).mono ?_
      rintro e w8 ⟨⟨vo, vc, rfl⟩, hb8⟩
      have HB8 : Hid (Below w.heap.size w w8) := next_trans HB1.out (next_trans HB7.out hb8)
      clear hb8 p0 p1 HVa HB7
      go_wp2
      go_ret
      exact ⟨rfl, HB8.out⟩
    · have hd : (ft.toList == [112]) = false := by rw [Lib.toList_data]; exact beq_eq_false_iff_ne.2 (fun h => hft (by rw [← ba_self ft, h]; rfl))
      have HFt : Hid (ft ≠ ⟨#[112]⟩) := hft
      clear hft
      obtain ⟨W5, HW5⟩ : ∃ W5, Hid ((w1.alloc (.cells #[.string ⟨#[112]⟩, .string ⟨#[113]⟩, .string ft] 9)).alloc (.cells #[.string ⟨#[112]⟩, .slice none 0 0] 36) = W5) := ⟨_, rfl⟩
      have hb5 : Below w1.heap.size w1 W5 := by rw [← HW5.out]; exact next_trans (alloc_below _ _) (alloc_below _ _)
      have HB5 : Hid (Below w1.heap.size w1 W5) := hb5
      have HP5 : Hid (Bx W5 (w1.heap.size + 1) #[.string ⟨#[112]⟩, .slice none 0 0]) := Bx.made' HW5.out (by simp)
      have HX5 : Hid (Bx W5 w.heap.size #[.int .i64 id, .string ft, .slice fo N fc]) := HX1.out.next hb5
      clear hb5
      go_wp2_with fail
      rw [HW5.out]
      refine (HMa.out W5 ⟨#[112]⟩ HB5.out).mono ?_
      rw [if_neg HFt.out]
      rintro e w6 ⟨rfl, hb6⟩
      have HB6 : Hid (Below w1.heap.size w1 w6) := next_trans HB5.out hb6
      have HP6 : Hid (Bx w6 (w1.heap.size + 1) #[.string ⟨#[112]⟩, .slice none 0 0]) := HP5.out.next hb6
      have HX6 : Hid (Bx w6 w.heap.size #[.int .i64 id, .string ft, .slice fo N fc]) := HX5.out.next hb6
      obtain ⟨p0, p1⟩ : w6.cell? ⟨w1.heap.size + 1, 0, none⟩ = some (.string ⟨#[112]⟩) ∧ w6.cell? ⟨w1.heap.size + 1, 1, none⟩ = some (.slice none 0 0) := ⟨HP6.out.cell 0, HP6.out.cell 1⟩
      obtain ⟨x0, x1, x2⟩ : w6.cell? ⟨w.heap.size, 0, none⟩ = some (.int .i64 id) ∧ w6.cell? ⟨w.heap.size, 1, none⟩ = some (.string ft) ∧ w6.cell? ⟨w.heap.size, 2, none⟩ = some (.slice fo N fc) := ⟨HX6.out.cell 0, HX6.out.cell 1, HX6.out.cell 2⟩
      skip
      clear hb6 HMa HB5 HP5 HX5 HW5
      go_wp2_with fail
      refine (HAl.out _ ⟨#[112]⟩ HB6.out).mono ?_
      rw [decide_eq_false HFt.out]
      rintro e w7 ⟨rfl, hb7⟩
      have HB7 : Hid (Below w1.heap.size w1 w7) := next_trans HB6.out hb7
      obtain ⟨p0, p1⟩ : w7.cell? ⟨w1.heap.size + 1, 0, none⟩ = some (.string ⟨#[112]⟩) ∧ w7.cell? ⟨w1.heap.size + 1, 1, none⟩ = some (.slice none 0 0) := ⟨(HP6.out.next hb7).cell 0, (HP6.out.next hb7).cell 1⟩
      clear x0 x1 x2 hb7 HAl HX6 HP6
      go_wp2_with fail
      refine (HVa.out _ ⟨#[112]⟩).mono ?_
      rintro e w8 ⟨⟨vo, vc, rfl⟩, hb8⟩
      have HB8 : Hid (Below w.heap.size w w8) := next_trans HB1.out (next_trans HB7.out hb8)
      clear hb8 p0 p1 HVa HB7
      go_wp2
      go_ret
      exact ⟨rfl, HB8.out⟩
  · by_cases hft : ft = ⟨#[113]⟩
    · have hd : (ft.toList == [113]) = true := s_eq (l := [113]) (show Hid (baL [113] = ft) from hft.symm) rfl
      have HFt : Hid (ft = ⟨#[113]⟩) := hft
      clear hft
      obtain ⟨W5, HW5⟩ : ∃ W5, Hid ((w1.alloc (.cells #[.string ⟨#[112]⟩, .string ⟨#[113]⟩, .string ft] 9)).alloc (.cells #[.string ⟨#[113]⟩, .slice none 0 0] 36) = W5) := ⟨_, rfl⟩
      have hb5 : Below w1.heap.size w1 W5 := by rw [← HW5.out]; exact next_trans (alloc_below _ _) (alloc_below _ _)
      have HB5 : Hid (Below w1.heap.size w1 W5) := hb5
      have HP5 : Hid (Bx W5 (w1.heap.size + 1) #[.string ⟨#[113]⟩, .slice none 0 0]) := Bx.made' HW5.out (by simp)
      have HX5 : Hid (Bx W5 w.heap.size #[.int .i64 id, .string ft, .slice fo N fc]) := HX1.out.next hb5
      clear hb5
      go_wp2_with fail
      rw [HW5.out]
      refine (HMa.out W5 ⟨#[113]⟩ HB5.out).mono ?_
      rw [if_pos HFt.out]
      rintro e w6 ⟨⟨ro, rc, rfl, _⟩, hb6⟩
      have HB6 : Hid (Below w1.heap.size w1 w6) := next_trans HB5.out hb6
      have HP6 : Hid (Bx w6 (w1.heap.size + 1) #[.string ⟨#[113]⟩, .slice none 0 0]) := HP5.out.next hb6
      have HX6 : Hid (Bx w6 w.heap.size #[.int .i64 id, .string ft, .slice fo N fc]) := HX5.out.next hb6
      obtain ⟨p0, p1⟩ : w6.cell? ⟨w1.heap.size + 1, 0, none⟩ = some (.string ⟨#[113]⟩) ∧ w6.cell? ⟨w1.heap.size + 1, 1, none⟩ = some (.slice none 0 0) := ⟨HP6.out.cell 0, HP6.out.cell 1⟩
      obtain ⟨x0, x1, x2⟩ : w6.cell? ⟨w.heap.size, 0, none⟩ = some (.int .i64 id) ∧ w6.cell? ⟨w.heap.size, 1, none⟩ = some (.string ft) ∧ w6.cell? ⟨w.heap.size, 2, none⟩ = some (.slice fo N fc) := ⟨HX6.out.cell 0, HX6.out.cell 1, HX6.out.cell 2⟩
      simp only [List.length_nil]
      clear hb6 HMa HB5 HP5 HX5 HW5
      go_wp2_with fail
      refine (HAl.out _ ⟨#[113]⟩ HB6.out).mono ?_
      rw [decide_eq_true HFt.out]
      rintro e w7 ⟨rfl, hb7⟩
      have HB7 : Hid (Below w1.heap.size w1 w7) := next_trans HB6.out hb7
      obtain ⟨p0, p1⟩ : w7.cell? ⟨w1.heap.size + 1, 0, none⟩ = some (.string ⟨#[113]⟩) ∧ w7.cell? ⟨w1.heap.size + 1, 1, none⟩ = some (.slice none 0 0) := ⟨(HP6.out.next hb7).cell 0, (HP6.out.next hb7).cell 1⟩
      clear x0 x1 x2 hb7 HAl HX6 HP6
      go_wp2_with fail
      refine (HVa.out _ ⟨#[113]⟩).mono ?_
      rintro e w8 ⟨⟨vo, vc, rfl⟩, hb8⟩
      have HB8 : Hid (Below w.heap.size w w8) := next_trans HB1.out (next_trans HB7.out hb8)
      clear hb8 p0 p1 HVa HB7
      go_wp2
      go_ret
      exact ⟨rfl, HB8.out⟩
    · have hd : (ft.toList == [113]) = false := by rw [Lib.toList_data]; exact beq_eq_false_iff_ne.2 (fun h => hft (by rw [← ba_self ft, h]; rfl))
      have HFt : Hid (ft ≠ ⟨#[113]⟩) := hft
      clear hft
      obtain ⟨W5, HW5⟩ : ∃ W5, Hid ((w1.alloc (.cells #[.string ⟨#[112]⟩, .string ⟨#[113]⟩, .string ft] 9)).alloc (.cells #[.string ⟨#[113]⟩, .slice none 0 0] 36) = W5) := ⟨_, rfl⟩
      have hb5 : Below w1.heap.size w1 W5 := by rw [← HW5.out]; exact next_trans (alloc_below _ _) (alloc_below _ _)
      have HB5 : Hid (Below w1.heap.size w1 W5) := hb5
      have HP5 : Hid (Bx W5 (w1.heap.size + 1) #[.string ⟨#[113]⟩, .slice none 0 0]) := Bx.made' HW5.out (by simp)
      have HX5 : Hid (Bx W5 w.heap.size #[.int .i64 id, .string ft, .slice fo N fc]) := HX1.out.next hb5
      clear hb5
      go_wp2_with fail
      rw [HW5.out]
      refine (HMa.out W5 ⟨#[113]⟩ HB5.out).mono ?_
      rw [if_neg HFt.out]
      rintro e w6 ⟨rfl, hb6⟩
      have HB6 : Hid (Below w1.heap.size w1 w6) := next_trans HB5.out hb6
      have HP6 : Hid (Bx w6 (w1.heap.size + 1) #[.string ⟨#[113]⟩, .slice none 0 0]) := HP5.out.next hb6
      have HX6 : Hid (Bx w6 w.heap.size #[.int .i64 id, .string ft, .slice fo N fc]) := HX5.out.next hb6
      obtain ⟨p0, p1⟩ : w6.cell? ⟨w1.heap.size + 1, 0, none⟩ = some (.string ⟨#[113]⟩) ∧ w6.cell? ⟨w1.heap.size + 1, 1, none⟩ = some (.slice none 0 0) := ⟨HP6.out.cell 0, HP6.out.cell 1⟩
      obtain ⟨x0, x1, x2⟩ : w6.cell? ⟨w.heap.size, 0, none⟩ = some (.int .i64 id) ∧ w6.cell? ⟨w.heap.size, 1, none⟩ = some (.string ft) ∧ w6.cell? ⟨w.heap.size, 2, none⟩ = some (.slice fo N fc) := ⟨HX6.out.cell 0, HX6.out.cell 1, HX6.out.cell 2⟩
      skip
      clear hb6 HMa HB5 HP5 HX5 HW5
      go_wp2_with fail
      refine (HAl.out _ ⟨#[113]⟩ HB6.out).mono ?_
      rw [decide_eq_false HFt.out]
      rintro e w7 ⟨rfl, hb7⟩
      have HB7 : Hid (Below w1.heap.size w1 w7) := next_trans HB6.out hb7
      obtain ⟨p0, p1⟩ : w7.cell? ⟨w1.heap.size + 1, 0, none⟩ = some (.string ⟨#[113]⟩) ∧ w7.cell? ⟨w1.heap.size + 1, 1, none⟩ = some (.slice none 0 0) := ⟨(HP6.out.next hb7).cell 0, (HP6.out.next hb7).cell 1⟩
      clear x0 x1 x2 hb7 HAl HX6 HP6
      go_wp2_with fail
      refine (HVa.out _ ⟨#[113]⟩).mono ?_
      rintro e w8 ⟨⟨vo, vc, rfl⟩, hb8⟩
      have HB8 : Hid (Below w.heap.size w w8) := next_trans HB1.out (next_trans HB7.out hb8)
      clear hb8 p0 p1 HVa HB7
      go_wp2
      go_ret
      exact ⟨rfl, HB8.out⟩
  · have hd : (ft.toList == ft.toList) = true := beq_self_eq_true _
    obtain ⟨W5, HW5⟩ : ∃ W5, Hid ((w1.alloc (.cells #[.string ⟨#[112]⟩, .string ⟨#[113]⟩, .string ft] 9)).alloc (.cells #[.string ft, .slice none 0 0] 36) = W5) := ⟨_, rfl⟩
    have hb5 : Below w1.heap.size w1 W5 := by rw [← HW5.out]; exact next_trans (alloc_below _ _) (alloc_below _ _)
    have HB5 : Hid (Below w1.heap.size w1 W5) := hb5
    have HP5 : Hid (Bx W5 (w1.heap.size + 1) #[.string ft, .slice none 0 0]) := Bx.made' HW5.out (by simp)
    have HX5 : Hid (Bx W5 w.heap.size #[.int .i64 id, .string ft, .slice fo N fc]) := HX1.out.next hb5
    clear hb5
    go_wp2_with fail
    rw [HW5.out]
    refine (HMa.out W5 ft HB5.out).mono ?_
    rw [if_pos (Eq.refl ft)]
    rintro e w6 ⟨⟨ro, rc, rfl, _⟩, hb6⟩
    have HB6 : Hid (Below w1.heap.size w1 w6) := next_trans HB5.out hb6
    have HP6 : Hid (Bx w6 (w1.heap.size + 1) #[.string ft, .slice none 0 0]) := HP5.out.next hb6
    have HX6 : Hid (Bx w6 w.heap.size #[.int .i64 id, .string ft, .slice fo N fc]) := HX5.out.next hb6
    obtain ⟨p0, p1⟩ : w6.cell? ⟨w1.heap.size + 1, 0, none⟩ = some (.string ft) ∧ w6.cell? ⟨w1.heap.size + 1, 1, none⟩ = some (.slice none 0 0) := ⟨HP6.out.cell 0, HP6.out.cell 1⟩
    obtain ⟨x0, x1, x2⟩ : w6.cell? ⟨w.heap.size, 0, none⟩ = some (.int .i64 id) ∧ w6.cell? ⟨w.heap.size, 1, none⟩ = some (.string ft) ∧ w6.cell? ⟨w.heap.size, 2, none⟩ = some (.slice fo N fc) := ⟨HX6.out.cell 0, HX6.out.cell 1, HX6.out.cell 2⟩
    simp only [List.length_nil]
    clear hb6 HMa HB5 HP5 HX5 HW5
    go_wp2_with fail
    refine (HAl.out _ ft HB6.out).mono ?_
    rw [decide_eq_true (Eq.refl ft)]
    rintro e w7 ⟨rfl, hb7⟩
    have HB7 : Hid (Below w1.heap.size w1 w7) := next_trans HB6.out hb7
    obtain ⟨p0, p1⟩ : w7.cell? ⟨w1.heap.size + 1, 0, none⟩ = some (.string ft) ∧ w7.cell? ⟨w1.heap.size + 1, 1, none⟩ = some (.slice none 0 0) := ⟨(HP6.out.next hb7).cell 0, (HP6.out.next hb7).cell 1⟩
    clear x0 x1 x2 hb7 HAl HX6 HP6
    go_wp2_with fail
    refine (HVa.out _ ft).mono ?_
    rintro e w8 ⟨⟨vo, vc, rfl⟩, hb8⟩
    have HB8 : Hid (Below w.heap.size w w8) := next_trans HB1.out (next_trans HB7.out hb8)
    clear hb8 p0 p1 HVa HB7
    go_wp2
    go_ret
    exact ⟨rfl, HB8.out⟩
end Go.Proofs.YtnhbjhdkpbhioaaGreatDoor
