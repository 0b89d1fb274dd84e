/- The walk of ReadOpen. -/
import Derived.Test.YthpmnomplhhfgaaGreatDoorG21
namespace Go.Proofs.YthpmnomplhhfgaaGreatDoor
open Go.RowKit

set_option maxHeartbeats 16000000 in
set_option maxRecDepth 20000 in
theorem open_walk (ao : Option Addr) (n cap : Nat) (l : List UInt8) (cut : Int) (w : World) (hl : l.length = n) (h : IsB w ao l) (hc : n ≤ cap) (_hcut : inB cut = true) (h4 : Lib4 w) :
    Calls Tryz.prog 8 #[.slice ao n cap, .int .i64 cut] w fun e w' => e = .returned (.bool true) ∧ Below w.heap.size w w' := by
  have H4 : Hid (Lib4 w) := h4
  have HI : Hid (IsB w ao l) := h
  have HL : Hid (l.length = n) := hl
  clear h hl h4
  go_enter Tryz.func8, Tryz.ntmps8
  go_wp2_with fail
  refine (known5 w H4.out).mono ?_
  rintro e w1 ⟨rfl, hb1⟩
  have HB1 : Hid (Below w.heap.size w w1) := hb1
  clear hb1
  by_cases hn0 : n = 0
  · subst hn0
    go_wp2
    go_ret
    exact ⟨rfl, HB1.out⟩
  have hn1 : ((n : Int) == 0) = false := by simp; omega
  by_cases hn : 1000 < n
  · have hni : (1000 : Int) < (n : Int) := by omega
    go_wp2
    go_ret
    exact ⟨rfl, HB1.out⟩
  have hni : ¬ (1000 : Int) < (n : Int) := by omega
  by_cases hc0 : cut < 0
  · go_wp2
    go_ret
    exact ⟨rfl, HB1.out⟩
  obtain ⟨c, rfl⟩ : ∃ c : Nat, cut = (c : Int) := ⟨cut.toNat, by omega⟩
  obtain ⟨k, hk, hkn⟩ : ∃ k : Nat, (c : Int).tmod (n : Int) = (k : Int) ∧ k < n := ⟨c % n, rfl, Nat.mod_lt _ (by omega)⟩
  have hsl := fun w => slice_to ao n cap k (k : Int) w rfl (by omega) hc
  have hz : ¬ (n : Int) = 0 := by omega
  have HI2 : Hid (IsB w ao (l.take k)) := HI.out.take k
  have HL2 : Hid ((l.take k).length = k) := by rw [Hid, List.length_take, HL.out]; omega
  obtain ⟨R, HR⟩ : ∃ R, Hid (readQ (l.take k) = R) := ⟨_, rfl⟩
  have HEr : Hid (R.e = 0 ∨ (errI R.e ∧ R.l = [] ∧ R.a < k)) := by
    have := readQ_err (l.take k)
    rw [HR.out, HL2.out] at this; exact this
  obtain ⟨L, ra, re⟩ := R
  by_cases he : re = 0
  · subst he
    clear HEr
    obtain ⟨M, HM⟩ : ∃ M, Hid (L.length = M) := ⟨_, rfl⟩
    have HS : Hid (Calls Tryz.prog 10 #[.slice ao k cap] w1 fun e w' => (∃ ao cap, e = .returned (.tuple #[.slice ao M cap, .nilIface])) ∧ Below w1.heap.size w1 w') := by
      refine (read_yes5 ao k cap (l.take k) L w1 HL2.out (HI2.out.next HB1.out) (by omega) (by omega) (H4.out.next HB1.out).max ra HR.out).mono ?_
      rintro e w' ⟨⟨a, c, h1, _⟩, hb⟩
      rw [HM.out] at h1
      exact ⟨⟨a, c, h1⟩, hb⟩
    have HS2 : Hid (∀ w2, Below w1.heap.size w1 w2 → Calls Tryz.prog 11 #[.slice ao k cap] w2 fun e w' => (∃ ao cap, e = .returned (.tuple #[.slice ao M cap, .agg #[.slice none 0 0, .int .i64 0]])) ∧ Below w2.heap.size w2 w') := fun w2 hb2 => by
      refine (rread_yes5 ao k cap (l.take k) L w2 HL2.out (HI2.out.next (next_trans HB1.out hb2)) (by omega) (by omega) ra HR.out).mono ?_
      rintro e w' ⟨⟨a, c, h1, _⟩, hb⟩
      rw [HM.out] at h1
      exact ⟨⟨a, c, h1⟩, hb⟩
    go_wp2_with fail
    refine HS.out.mono ?_
    rintro e w2 ⟨⟨a2, c2, rfl⟩, hb2⟩
    have HB2 : Hid (Below w1.heap.size w1 w2) := hb2
    clear hb2
    go_wp2_with fail
    refine (HS2.out w2 HB2.out).mono ?_
    rintro e w3 ⟨⟨a3, c3, rfl⟩, hb3⟩
    obtain ⟨W, HWe⟩ : ∃ W, Hid (w3.alloc (.cells #[.slice none 0 0, .int .i64 0] 32) = W) := ⟨_, rfl⟩
    have HB3 : Hid (Below w.heap.size w W) := by rw [← HWe.out]; exact next_trans HB1.out (next_trans HB2.out (next_trans hb3 (alloc_below _ _)))
    have v0 : W.cell? ⟨w3.heap.size, 0, none⟩ = some (.slice none 0 0) := by rw [← HWe.out]; exact box0 rfl
    have v1 : W.cell? ⟨w3.heap.size, 1, none⟩ = some (.int .i64 0) := by rw [← HWe.out]; exact box0 rfl
    clear hb3
    go_wp2_with fail
    rw [HWe.out]
    refine (tells_nil W).mono ?_
    rintro e w4 ⟨rfl, hb4⟩
    have HB4 : Hid (Below w.heap.size w w4) := next_trans HB3.out hb4
    have u0 := keep_cell hb4 v0
    have u1 := keep_cell hb4 v1
    clear hb4
    go_wp2
    go_ret
    exact ⟨rfl, HB4.out⟩
  · obtain ⟨herr, hl0, hra⟩ := HEr.out.resolve_left he
    simp only at he herr hl0 hra
    have hin := errI_in herr
    have hei : (re == 0) = false := by simpa using he
    have HS : Hid (Calls Tryz.prog 10 #[.slice ao k cap] w1 fun e w' => (∃ B, e = .returned (.tuple #[.slice none 0 0, .iface 59 (.pointer (some ⟨B, 0, none⟩))]) ∧ Chain w' re [([99, 104, 97, 114], (ra : Int))] (.iface 59 (.pointer (some ⟨B, 0, none⟩)))) ∧ Below w1.heap.size w1 w') :=
      read_no5 ao k cap (l.take k) ⟨L, ra, re⟩ w1 HL2.out (HI2.out.next HB1.out) (by omega) (by omega) (H4.out.next HB1.out).max HR.out he
    have HS2 : Hid (∀ w2, Below w1.heap.size w1 w2 → Calls Tryz.prog 11 #[.slice ao k cap] w2 fun e w' => (∃ b, e = .returned (.tuple #[.slice none 0 0, .agg #[.slice (some ⟨b, 0, none⟩) 1 1, .int .i64 re]]) ∧ PtAt w' b (ra : Int)) ∧ Below w2.heap.size w2 w') := fun w2 hb2 =>
      rread_no5 ao k cap (l.take k) ⟨L, ra, re⟩ w2 HL2.out (HI2.out.next (next_trans HB1.out hb2)) (by omega) (by omega) HR.out he
    go_wp2_with fail
    refine HS.out.mono ?_
    rintro e w2 ⟨⟨B, rfl, hC⟩, hb2⟩
    have HB2 : Hid (Below w1.heap.size w1 w2) := hb2
    have HC : Hid (Chain w2 re [([99, 104, 97, 114], (ra : Int))] (.iface 59 (.pointer (some ⟨B, 0, none⟩)))) := hC
    clear hb2 hC
    go_wp2_with fail
    refine (HS2.out w2 HB2.out).mono ?_
    rintro e w3 ⟨⟨b, rfl, hP⟩, hb3⟩
    obtain ⟨W, HWe⟩ : ∃ W, Hid (w3.alloc (.cells #[.slice (some ⟨b, 0, none⟩) 1 1, .int .i64 re] 32) = W) := ⟨_, rfl⟩
    have HBW : Hid (Below w3.heap.size w3 W) := by rw [← HWe.out]; exact alloc_below _ _
    have HB3 : Hid (Below w.heap.size w W) := next_trans HB1.out (next_trans HB2.out (next_trans hb3 HBW.out))
    have v0 : W.cell? ⟨w3.heap.size, 0, none⟩ = some (.slice (some ⟨b, 0, none⟩) 1 1) := by rw [← HWe.out]; exact box0 rfl
    have v1 : W.cell? ⟨w3.heap.size, 1, none⟩ = some (.int .i64 re) := by rw [← HWe.out]; exact box0 rfl
    have p1 := keep_cell HBW.out hP.2
    have HTl : Hid (Calls Tryz.prog 12 #[.iface 59 (.pointer (some ⟨B, 0, none⟩)), .agg #[.slice (some ⟨b, 0, none⟩) 1 1, .int .i64 re]] W fun e w' => e = .returned (.bool true) ∧ Below W.heap.size W w') :=
      tells_one B b ra re W (HC.out.next (next_trans hb3 HBW.out)) ⟨keep_cell HBW.out hP.1, p1⟩ (H4.out.next HB3.out) hin.1 hin.2 ((inB_iff _).2 (by omega))
    have ha0 : (0 : Int) ≤ (ra : Int) := by omega
    have ha1 : (ra : Int) < (k : Int) := by omega
    clear hb3 hP
    go_wp2_with fail
    rw [HWe.out]
    refine HTl.out.mono ?_
    rintro e w4 ⟨rfl, hb4⟩
    have HB4 : Hid (Below w.heap.size w w4) := next_trans HB3.out hb4
    have u0 := keep_cell hb4 v0
    have u1 := keep_cell hb4 v1
    have q1 := keep_cell hb4 p1
    clear hb4
    go_wp2
    go_ret
    exact ⟨rfl, HB4.out⟩
end Go.Proofs.YthpmnomplhhfgaaGreatDoor
