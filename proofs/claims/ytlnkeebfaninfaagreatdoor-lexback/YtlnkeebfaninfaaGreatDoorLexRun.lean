/- Contracts of package lex's inName, inWord and run. -/
import Derived.Test.YtlnkeebfaninfaaGreatDoorLexBase
namespace Go.Proofs.YtlnkeebfaninfaaGreatDoor
open Go.RowKit

def twoL (c : UInt8) : List UInt8 := [120, c]
theorem conv_two (W : World) (c : UInt8) :
    (convert 22 9 (.slice (some ⟨W.heap.size, 0, none⟩) 2 2)).run Tryz.prog (W.alloc (.cells #[.int .u8 120, .int .u8 (c.toNat : Int)] 5)) = .ok (.string (baL (twoL c))) (W.alloc (.cells #[.int .u8 120, .int .u8 (c.toNat : Int)] 5)) := by
  refine conv_at _ _ _ _ (twoL c) _ rfl ?_
  intro i hi
  have hi2 : i < 2 := hi
  rcases i with _ | _ | i
  · simp [twoL]
  · simp [twoL]
  · omega
theorem two_sign (c : UInt8) : rightB 2 0 (baL (twoL c)) = signB c := by
  rw [right_sym]
  have h1 : symB (baL (twoL c)) = (allS (twoL c) && !shapeL (twoL c)) := sym_some (by rw [baL_size]; simp [twoL]) (by rw [baL_size]; simp [twoL])
  rw [h1]
  have h2 : shapeL (twoL c) = false := by
    unfold shapeL twoL
    have : bodyL [120, c] = [120, c] := rfl
    rw [this]
    unfold allD
    simp [digB]
  rw [h2]
  unfold allS twoL
  have h3 : signB 120 = true := by decide
  simp [h3]
theorem two_name (c : UInt8) : goodB (baL (twoL c)) = partB c := by
  unfold goodB
  rw [baL_list]
  have h3 : letB 120 = true := by decide
  simp [goodL, twoL, okL, h3]
theorem two_size (c : UInt8) : (baL (twoL c)).size ≤ 100000 := by rw [baL_size]; simp [twoL]
theorem two_max (c : UInt8) : (baL (twoL c)).size ≤ maxLen := by rw [baL_size]; simp [twoL, maxLen]

theorem in_word (c : UInt8) (w : World) :
    Calls Tryz.prog 47 #[.int .u8 (c.toNat : Int)] w fun e w' => e = .returned (.bool (signB c)) ∧ Below w.heap.size w w' := by
  have hc2 := conv_two w c
  have hr : Hid (∀ w : World, Calls Tryz.prog 58 #[.agg #[.int .i64 (2), .int .i64 (0), .string (baL (twoL c))]] w fun e w' => e = .returned (.bool (signB c)) ∧ Below w.heap.size w w') := by
    intro w; rw [← two_sign]; exact right_any 2 0 _ w (two_size c)
  go_enter Tryz.func47, Tryz.ntmps47
  go_wp2_with fail
  refine (of_sym _ _).mono ?_
  rintro e w1 ⟨rfl, hb1⟩
  go_wp2_with fail
  refine (hr.out _).mono ?_
  rintro e w2 ⟨rfl, hb2⟩
  go_wp2
  go_ret
  exact ⟨rfl, below_next (below_next ((Below.refl _ _).alloc (Nat.le_refl _) _) hb1 (by simp)) hb2 (by have := hb1.size; simp at this; omega)⟩
theorem in_name (c : UInt8) (w : World) :
    Calls Tryz.prog 61 #[.int .u8 (c.toNat : Int)] w fun e w' => e = .returned (.bool (partB c)) ∧ Below w.heap.size w w' := by
  have hc2 := conv_two w c
  have hr : Hid (∀ w : World, Calls Tryz.prog 62 #[.string (baL (twoL c))] w fun e w' => e = .returned (.bool (partB c)) ∧ w' = w) := by
    intro w; rw [← two_name]; exact good_any _ w (two_max c)
  go_enter Tryz.func61, Tryz.ntmps61
  go_wp2_with (go_at_call 62; refine (hr.out _).mono ?_; rintro e w1 ⟨rfl, rfl⟩)
  go_ret
  exact ⟨rfl, (Below.refl _ _).alloc (Nat.le_refl _) _⟩
theorem ret_i64 {a b : Int} (h : a = b) : Ending.returned (.int .i64 a) = .returned (.int .i64 b) := by rw [h]
theorem next_trans {w w1 w2 : World} (h : Below w.heap.size w w1) (h2 : Below w1.heap.size w1 w2) : Below w.heap.size w w2 := below_next h h2 h.size
theorem at_byte {w w1 : World} {b o : Nat} {l : List UInt8} (h : Bs w b o l) (hb : Below w.heap.size w w1) (i : Nat) (hi : i < l.length) : w1.cell? ⟨b, o + i, none⟩ = some (.int .u8 (l[i].toNat : Int)) := keep_cell hb (h i hi)
theorem run_take_all (p : UInt8 → Bool) (l : List UInt8) (k : Nat) (h : k < l.length) (h0 : (l.take k).all p = true) (h1 : p l[k] = true) : (l.take (k + 1)).all p = true := by
  rw [List.take_succ_eq_append_getElem h, List.all_append, h0]
  simp [h1]

set_option maxHeartbeats 1000000 in
theorem run_name (ao : Option Addr) (n cap : Nat) (l : List UInt8) (w : World) (hl : l.length = n) (h : IsB w ao l) (hn : n ≤ 100000) :
    Calls Tryz.prog 46 #[.slice ao n cap, .func (.func 61) #[] #[]] w fun e w' => e = .returned (.int .i64 (runN partB l : Int)) ∧ Below w.heap.size w w' := by
  have HI : Hid (IsB w ao l) := h
  have HL : Hid (l.length = n) := hl
  clear h hl
  go_enter Tryz.func46, Tryz.ntmps46
  go_wp2
  go_loopw [9] (fun i wr => ∃ k : Nat, k ≤ n ∧ i = .int .i64 k ∧ Hid ((l.take k).all partB = true) ∧ Hid (Below w.heap.size w wr)) (fun i _ => n - (intOf i).toNat)
  case atStart => exact ⟨0, Nat.zero_le _, rfl, rfl, Below.refl _ _⟩
  case round =>
    obtain ⟨k, hk, rfl, HA, HW⟩ := hrel
    by_cases hlt : k < n
    · have hli : (k : Int) < (n : Int) := by omega
      have hkl : k < l.length := by rw [HL.out]; exact hlt
      obtain ⟨b, o, rfl, hc⟩ := HI.out (by omega)
      have c0 := at_byte hc HW.out k hkl
      obtain ⟨c, HC⟩ : ∃ c, Hid (l[k] = c) := ⟨l[k], by rw [Hid]⟩
      rw [HC.out] at c0
      obtain ⟨pc, HQ⟩ : ∃ pc, Hid (partB c = pc) := ⟨_, rfl⟩
      clear hc
      go_wp2_with fail
      refine (in_name c _).mono ?_
      rintro e w1 ⟨rfl, hb1⟩
      rw [HQ.out]
      cases pc
      · have HR : Hid (runN partB l = k) := run_at partB l k HA.out hkl (by rw [HC.out]; exact HQ.out)
        have HB : Hid (Below w.heap.size w w1) := next_trans HW.out hb1
        clear hb1 c0
        go_wp2
        go_ret
        exact ⟨ret_i64 (by rw [HR.out]), HB.out⟩
      · have HA2 : Hid ((l.take (k + 1)).all partB = true) := run_take_all partB l k hkl HA.out (by rw [HC.out]; exact HQ.out)
        have HB : Hid (Below w.heap.size w w1) := next_trans HW.out hb1
        clear hb1 c0
        go_wp2
        go_round
        case rel => exact ⟨k + 1, by omega, by go_num, HA2, HB⟩
        case measure => simp [intOf]; omega
    · have hli : ¬ (k : Int) < (n : Int) := by omega
      have HR : Hid (runN partB l = n) := by
        have h := HA.out
        rw [List.take_of_length_le (by have := HL.out; omega)] at h
        rw [Hid, run_end partB l h, HL.out]
      go_wp2
      go_ret
      exact ⟨ret_i64 (by rw [HR.out]), HW.out⟩
set_option maxHeartbeats 1000000 in
theorem run_word (ao : Option Addr) (n cap : Nat) (l : List UInt8) (w : World) (hl : l.length = n) (h : IsB w ao l) (hn : n ≤ 100000) :
    Calls Tryz.prog 46 #[.slice ao n cap, .func (.func 47) #[] #[]] w fun e w' => e = .returned (.int .i64 (runN signB l : Int)) ∧ Below w.heap.size w w' := by
  have HI : Hid (IsB w ao l) := h
  have HL : Hid (l.length = n) := hl
  clear h hl
  go_enter Tryz.func46, Tryz.ntmps46
  go_wp2
  go_loopw [9] (fun i wr => ∃ k : Nat, k ≤ n ∧ i = .int .i64 k ∧ Hid ((l.take k).all signB = true) ∧ Hid (Below w.heap.size w wr)) (fun i _ => n - (intOf i).toNat)
  case atStart => exact ⟨0, Nat.zero_le _, rfl, rfl, Below.refl _ _⟩
  case round =>
    obtain ⟨k, hk, rfl, HA, HW⟩ := hrel
    by_cases hlt : k < n
    · have hli : (k : Int) < (n : Int) := by omega
      have hkl : k < l.length := by rw [HL.out]; exact hlt
      obtain ⟨b, o, rfl, hc⟩ := HI.out (by omega)
      have c0 := at_byte hc HW.out k hkl
      obtain ⟨c, HC⟩ : ∃ c, Hid (l[k] = c) := ⟨l[k], by rw [Hid]⟩
      rw [HC.out] at c0
      obtain ⟨pc, HQ⟩ : ∃ pc, Hid (signB c = pc) := ⟨_, rfl⟩
      clear hc
      go_wp2_with fail
      refine (in_word c _).mono ?_
      rintro e w1 ⟨rfl, hb1⟩
      rw [HQ.out]
      cases pc
      · have HR : Hid (runN signB l = k) := run_at signB l k HA.out hkl (by rw [HC.out]; exact HQ.out)
        have HB : Hid (Below w.heap.size w w1) := next_trans HW.out hb1
        clear hb1 c0
        go_wp2
        go_ret
        exact ⟨ret_i64 (by rw [HR.out]), HB.out⟩
      · have HA2 : Hid ((l.take (k + 1)).all signB = true) := run_take_all signB l k hkl HA.out (by rw [HC.out]; exact HQ.out)
        have HB : Hid (Below w.heap.size w w1) := next_trans HW.out hb1
        clear hb1 c0
        go_wp2
        go_round
        case rel => exact ⟨k + 1, by omega, by go_num, HA2, HB⟩
        case measure => simp [intOf]; omega
    · have hli : ¬ (k : Int) < (n : Int) := by omega
      have HR : Hid (runN signB l = n) := by
        have h := HA.out
        rw [List.take_of_length_le (by have := HL.out; omega)] at h
        rw [Hid, run_end signB l h, HL.out]
      go_wp2
      go_ret
      exact ⟨ret_i64 (by rw [HR.out]), HW.out⟩
end Go.Proofs.YtlnkeebfaninfaaGreatDoor
