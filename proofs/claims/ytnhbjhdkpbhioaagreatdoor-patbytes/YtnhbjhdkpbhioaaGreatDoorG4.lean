import Derived.Laws.BytesArg
import Derived.Shelf.Bytes.SlSmallAll
import Derived.ChangeSame
import Derived.Test.YtnhbjhdkpbhioaaGreatDoorShelf
import Derived.Test.YtnhbjhdkpbhioaaGreatDoorG2
import Derived.Test.YtnhbjhdkpbhioaaGreatDoorG3
namespace Go.Proofs.YtnhbjhdkpbhioaaGreatDoor
open Go.RowKit
def Bs (w : World) (b o : Nat) (l : List UInt8) : Prop := ∀ i (h : i < l.length), w.cell? ⟨b, o + i, none⟩ = some (.int .u8 (l[i].toNat : Int))
def IsB (w : World) (ao : Option Addr) (l : List UInt8) : Prop := 0 < l.length → ∃ b o, ao = some ⟨b, o, none⟩ ∧ Bs w b o l
theorem Bs.next {w w' : World} {b o : Nat} {l : List UInt8} (h : Bs w b o l) (hb : Below w.heap.size w w') : Bs w' b o l := fun i hi => keep_cell hb (h i hi)
theorem IsB.next {w w' : World} {ao : Option Addr} {l : List UInt8} (h : IsB w ao l) (hb : Below w.heap.size w w') : IsB w' ao l := fun hl => by
  obtain ⟨b, o, h1, h2⟩ := h hl
  exact ⟨b, o, h1, h2.next hb⟩
theorem Bs.drop {w : World} {b o : Nat} {l : List UInt8} (h : Bs w b o l) (k : Nat) : Bs w b (o + k) (l.drop k) := fun i hi => by
  rw [List.getElem_drop, show o + k + i = o + (k + i) by omega]
  exact h (k + i) (by rw [List.length_drop] at hi; omega)
theorem Bs.take {w : World} {b o : Nat} {l : List UInt8} (h : Bs w b o l) (k : Nat) : Bs w b o (l.take k) := fun i hi => by
  rw [List.getElem_take]
  exact h i (by rw [List.length_take] at hi; omega)
theorem Bs.isB {w : World} {b o : Nat} {l : List UInt8} (h : Bs w b o l) : IsB w (some ⟨b, o, none⟩) l := fun _ => ⟨b, o, rfl, h⟩
theorem IsB.nil (w : World) (ao : Option Addr) : IsB w ao [] := fun h => absurd h (Nat.lt_irrefl 0)
def numsOf (l : List UInt8) : List Int := l.map fun c => (c.toNat : Int)
theorem nums_len (l : List UInt8) : (numsOf l).length = l.length := by unfold numsOf; simp
theorem nums_bytes (l : List UInt8) : Lib.bytesOf (numsOf l) = l := by
  unfold Lib.bytesOf numsOf
  rw [List.map_map]
  conv => rhs; rw [← List.map_id l]
  apply List.map_congr_left
  intro c _
  simp
theorem nums_str (l : List UInt8) : strOfNums (numsOf l) = ⟨l.toArray⟩ := by
  have h := nums_bytes l
  unfold Lib.bytesOf at h
  unfold strOfNums
  rw [h]
theorem nums_get (l : List UInt8) (i : Nat) (h : i < l.length) : (numsOf l).getD i 0 = (l[i].toNat : Int) := by
  unfold numsOf
  rw [List.getD_eq_getElem?_getD, List.getElem?_map, List.getElem?_eq_getElem h]; rfl
theorem nums_bd (l : List UInt8) : ∀ x ∈ numsOf l, 0 ≤ x ∧ x < 256 := by
  intro x hx
  unfold numsOf at hx
  rw [List.mem_map] at hx
  obtain ⟨c, _, rfl⟩ := hx
  have := c.toNat_lt
  omega
theorem IsB.bytesIn {w : World} {ao : Option Addr} {l : List UInt8} (h : IsB w ao l) : Lib.BytesIn w ao l.length (numsOf l) := fun hl => by
  obtain ⟨b, o, h1, h2⟩ := h hl
  exact ⟨b, o, h1, fun i hi => by rw [nums_get l i hi]; exact h2 i hi⟩
def baL (l : List UInt8) : ByteArray := ⟨l.toArray⟩
theorem baL_size (l : List UInt8) : (baL l).size = l.length := rfl
theorem baL_list (l : List UInt8) : (baL l).data.toList = l := rfl
theorem conv_at (b o n cap : Nat) (l : List UInt8) (w : World) (hl : l.length = n) (h : Bs w b o l) :
    (convert 22 9 (.slice (some ⟨b, o, none⟩) n cap)).run Tryz.prog w = .ok (.string (baL l)) w := by
  have := run_convert_bytes_arg (P := Tryz.prog) w 22 5 Tryz.underlying22 Tryz.underlying5 b o n cap (numsOf l) (by rw [nums_len, hl]) (fun i hi => by rw [nums_get l i (by omega)]; exact h i (by omega)) 9 Tryz.underlying9
  rw [this, nums_str]; rfl
def fromA (ao : Option Addr) (cap k : Nat) : Option Addr := if cap = k then ao else ao.map (fun a => a.add k)
theorem slice_from (ao : Option Addr) (n cap k : Nat) (K : Int) (w : World) (hK : K = (k : Int)) (hk : k ≤ n) :
    (Instr.slice 22 (.slice ao n cap) (some (.int .i64 K)) none none).run Tryz.prog w = .ok (.slice (fromA ao cap k) (n - k) (cap - k)) w := by
  subst hK
  have hz : Tryz.t5.size = 1 := by kernel_rfl
  have h := run_slice_l (P := Tryz.prog) w 22 ao n cap (by kernel_rfl) .i64 (k : Int) (by omega) (by omega)
  rw [h]
  have he : Tryz.prog.elem 22 = 5 := by kernel_rfl
  rw [he]
  simp [sizeOf, hz, sliced, fromA, Result.andThen]
theorem slice_to (ao : Option Addr) (n cap k : Nat) (K : Int) (w : World) (hK : K = (k : Int)) (hk : k ≤ n) (hn : n ≤ cap) :
    (Instr.slice 22 (.slice ao n cap) none (some (.int .i64 K)) none).run Tryz.prog w = .ok (.slice ao k cap) w := by
  subst hK
  have h := run_slice_h (P := Tryz.prog) w 22 ao n cap (by kernel_rfl) .i64 (k : Int) (by omega) (by omega)
  rw [h]
  have he : Tryz.prog.elem 22 = 5 := by kernel_rfl
  rw [he]
  simp [sizeOf, sliced, Result.andThen, Addr.add]
theorem from_isB {w : World} {b o cap : Nat} {l : List UInt8} (h : Bs w b o l) (k : Nat) (hc : l.length ≤ cap) : IsB w (fromA (some ⟨b, o, none⟩) cap k) (l.drop k) := fun hl => by
  rw [List.length_drop] at hl
  unfold fromA
  rw [if_neg (by omega)]
  exact ⟨b, o + k, congrArg some (Go.WideShapes.add_plain ..), h.drop k⟩
theorem from_at (b o cap k : Nat) (h : k < cap) : fromA (some ⟨b, o, none⟩) cap k = some ⟨b, o + k, none⟩ := by
  unfold fromA; rw [if_neg (by omega)]; exact congrArg some (Go.WideShapes.add_plain ..)
end Go.Proofs.YtnhbjhdkpbhioaaGreatDoor
namespace Go.Proofs.YtnhbjhdkpbhioaaGreatDoor
open Go.RowKit
def twoL (c : UInt8) : List UInt8 := [120, c]
theorem conv_two (W : World) (c : UInt8) :
    (convert 22 9 (.slice (some ⟨W.heap.size, 0, none⟩) 2 2)).run Tryz.prog (W.alloc (.cells #[.int .u8 120, .int .u8 (c.toNat : Int)] 5)) = .ok (.string (baL (twoL c))) (W.alloc (.cells #[.int .u8 120, .int .u8 (c.toNat : Int)] 5)) := by
  refine conv_at _ _ _ _ (twoL c) _ rfl ?_
  intro i hi
  have hi2 : i < 2 := hi
  rcases i with _ | _ | i
  · simp [twoL]
  · simp [twoL]
  · omega
theorem two_sign (c : UInt8) : rightB 2 0 (baL (twoL c)) = signB c := by
  rw [right_sym]
  have h1 : symB (baL (twoL c)) = (allS (twoL c) && !shapeL (twoL c)) := sym_some (by rw [baL_size]; simp [twoL]) (by rw [baL_size]; simp [twoL])
  rw [h1]
  have h2 : shapeL (twoL c) = false := by
    unfold shapeL twoL
    have : bodyL [120, c] = [120, c] := rfl
    rw [this]
    unfold allD
    simp [digB]
  rw [h2]
  unfold allS twoL
  have h3 : signB 120 = true := by decide
  simp [h3]
theorem two_name (c : UInt8) : goodB (baL (twoL c)) = partB c := by
  unfold goodB
  rw [baL_list]
  have h3 : letB 120 = true := by decide
  simp [goodL, twoL, okL, h3]
theorem two_size (c : UInt8) : (baL (twoL c)).size ≤ 300000 := by rw [baL_size]; simp [twoL]
theorem two_max (c : UInt8) : (baL (twoL c)).size ≤ maxLen := by rw [baL_size]; simp [twoL, maxLen]
theorem in_word (c : UInt8) (w : World) :
    Calls Tryz.prog 146 #[.int .u8 (c.toNat : Int)] w fun e w' => e = .returned (.bool (signB c)) ∧ Below w.heap.size w w' := by
  have hc2 := conv_two w c
  have hr : Hid (∀ w : World, Calls Tryz.prog 157 #[.agg #[.int .i64 (2), .int .i64 (0), .string (baL (twoL c))]] w fun e w' => e = .returned (.bool (signB c)) ∧ Below w.heap.size w w') := by
    intro w; rw [← two_sign]; exact right_any 2 0 _ w (two_size c)
  go_enter Tryz.func146, Tryz.ntmps146
  go_wp2_with fail
  refine (of_sym _ _).mono ?_
  rintro e w1 ⟨rfl, hb1⟩
  go_wp2_with fail
  refine (hr.out _).mono ?_
  rintro e w2 ⟨rfl, hb2⟩
  go_wp2
  go_ret
  exact ⟨rfl, below_next (below_next ((Below.refl _ _).alloc (Nat.le_refl _) _) hb1 (by simp)) hb2 (by have := hb1.size; simp at this; omega)⟩
theorem in_name (c : UInt8) (w : World) :
    Calls Tryz.prog 160 #[.int .u8 (c.toNat : Int)] w fun e w' => e = .returned (.bool (partB c)) ∧ Below w.heap.size w w' := by
  have hc2 := conv_two w c
  have hr : Hid (∀ w : World, Calls Tryz.prog 161 #[.string (baL (twoL c))] w fun e w' => e = .returned (.bool (partB c)) ∧ w' = w) := by
    intro w; rw [← two_name]; exact good_any _ w (two_max c)
  go_enter Tryz.func160, Tryz.ntmps160
  go_wp2_with (go_at_call 161; refine (hr.out _).mono ?_; rintro e w1 ⟨rfl, rfl⟩)
  go_ret
  exact ⟨rfl, (Below.refl _ _).alloc (Nat.le_refl _) _⟩
theorem ret_i64 {a b : Int} (h : a = b) : Ending.returned (.int .i64 a) = .returned (.int .i64 b) := by rw [h]
theorem next_trans {w w1 w2 : World} (h : Below w.heap.size w w1) (h2 : Below w1.heap.size w1 w2) : Below w.heap.size w w2 := below_next h h2 h.size
theorem at_byte {w w1 : World} {b o : Nat} {l : List UInt8} (h : Bs w b o l) (hb : Below w.heap.size w w1) (i : Nat) (hi : i < l.length) : w1.cell? ⟨b, o + i, none⟩ = some (.int .u8 (l[i].toNat : Int)) := keep_cell hb (h i hi)
theorem run_take_all (p : UInt8 → Bool) (l : List UInt8) (k : Nat) (h : k < l.length) (h0 : (l.take k).all p = true) (h1 : p l[k] = true) : (l.take (k + 1)).all p = true := by
  rw [List.take_succ_eq_append_getElem h, List.all_append, h0]
  simp [h1]
set_option maxHeartbeats 1000000 in
theorem run_name (ao : Option Addr) (n cap : Nat) (l : List UInt8) (w : World) (hl : l.length = n) (h : IsB w ao l) (hn : n ≤ 100000) :
    Calls Tryz.prog 145 #[.slice ao n cap, .func (.func 160) #[] #[]] w fun e w' => e = .returned (.int .i64 (runN partB l : Int)) ∧ Below w.heap.size w w' := by
  have HI : Hid (IsB w ao l) := h
  have HL : Hid (l.length = n) := hl
  clear h hl
  go_enter Tryz.func145, Tryz.ntmps145
  go_wp2
  go_loopw [9] (fun i wr => ∃ k : Nat, k ≤ n ∧ i = .int .i64 k ∧ Hid ((l.take k).all partB = true) ∧ Hid (Below w.heap.size w wr)) (fun i _ => n - (intOf i).toNat)
  case atStart => exact ⟨0, Nat.zero_le _, rfl, rfl, Below.refl _ _⟩
  case round =>
    obtain ⟨k, hk, rfl, HA, HW⟩ := hrel
    by_cases hlt : k < n
    · have hli : (k : Int) < (n : Int) := by omega
      have hkl : k < l.length := by rw [HL.out]; exact hlt
      obtain ⟨b, o, rfl, hc⟩ := HI.out (by omega)
      have c0 := at_byte hc HW.out k hkl
      obtain ⟨c, HC⟩ : ∃ c, Hid (l[k] = c) := ⟨l[k], by rw [Hid]⟩
      rw [HC.out] at c0
      obtain ⟨pc, HQ⟩ : ∃ pc, Hid (partB c = pc) := ⟨_, rfl⟩
      clear hc
      go_wp2_with fail
      refine (in_name c _).mono ?_
      rintro e w1 ⟨rfl, hb1⟩
      rw [HQ.out]
      cases pc
      · have HR : Hid (runN partB l = k) := run_at partB l k HA.out hkl (by rw [HC.out]; exact HQ.out)
        have HB : Hid (Below w.heap.size w w1) := next_trans HW.out hb1
        clear hb1 c0
        go_wp2
        go_ret
        exact ⟨ret_i64 (by rw [HR.out]), HB.out⟩
      · have HA2 : Hid ((l.take (k + 1)).all partB = true) := run_take_all partB l k hkl HA.out (by rw [HC.out]; exact HQ.out)
        have HB : Hid (Below w.heap.size w w1) := next_trans HW.out hb1
        clear hb1 c0
        go_wp2
        go_round
        case rel => exact ⟨k + 1, by omega, by go_num, HA2, HB⟩
        case measure => simp [intOf]; omega
    · have hli : ¬ (k : Int) < (n : Int) := by omega
      have HR : Hid (runN partB l = n) := by
        have h := HA.out
        rw [List.take_of_length_le (by have := HL.out; omega)] at h
        rw [Hid, run_end partB l h, HL.out]
      go_wp2
      go_ret
      exact ⟨ret_i64 (by rw [HR.out]), HW.out⟩
set_option maxHeartbeats 1000000 in
theorem run_word (ao : Option Addr) (n cap : Nat) (l : List UInt8) (w : World) (hl : l.length = n) (h : IsB w ao l) (hn : n ≤ 100000) :
    Calls Tryz.prog 145 #[.slice ao n cap, .func (.func 146) #[] #[]] w fun e w' => e = .returned (.int .i64 (runN signB l : Int)) ∧ Below w.heap.size w w' := by
  have HI : Hid (IsB w ao l) := h
  have HL : Hid (l.length = n) := hl
  clear h hl
  go_enter Tryz.func145, Tryz.ntmps145
  go_wp2
  go_loopw [9] (fun i wr => ∃ k : Nat, k ≤ n ∧ i = .int .i64 k ∧ Hid ((l.take k).all signB = true) ∧ Hid (Below w.heap.size w wr)) (fun i _ => n - (intOf i).toNat)
  case atStart => exact ⟨0, Nat.zero_le _, rfl, rfl, Below.refl _ _⟩
  case round =>
    obtain ⟨k, hk, rfl, HA, HW⟩ := hrel
    by_cases hlt : k < n
    · have hli : (k : Int) < (n : Int) := by omega
      have hkl : k < l.length := by rw [HL.out]; exact hlt
      obtain ⟨b, o, rfl, hc⟩ := HI.out (by omega)
      have c0 := at_byte hc HW.out k hkl
      obtain ⟨c, HC⟩ : ∃ c, Hid (l[k] = c) := ⟨l[k], by rw [Hid]⟩
      rw [HC.out] at c0
      obtain ⟨pc, HQ⟩ : ∃ pc, Hid (signB c = pc) := ⟨_, rfl⟩
      clear hc
      go_wp2_with fail
      refine (in_word c _).mono ?_
      rintro e w1 ⟨rfl, hb1⟩
      rw [HQ.out]
      cases pc
      · have HR : Hid (runN signB l = k) := run_at signB l k HA.out hkl (by rw [HC.out]; exact HQ.out)
        have HB : Hid (Below w.heap.size w w1) := next_trans HW.out hb1
        clear hb1 c0
        go_wp2
        go_ret
        exact ⟨ret_i64 (by rw [HR.out]), HB.out⟩
      · have HA2 : Hid ((l.take (k + 1)).all signB = true) := run_take_all signB l k hkl HA.out (by rw [HC.out]; exact HQ.out)
        have HB : Hid (Below w.heap.size w w1) := next_trans HW.out hb1
        clear hb1 c0
        go_wp2
        go_round
        case rel => exact ⟨k + 1, by omega, by go_num, HA2, HB⟩
        case measure => simp [intOf]; omega
    · have hli : ¬ (k : Int) < (n : Int) := by omega
      have HR : Hid (runN signB l = n) := by
        have h := HA.out
        rw [List.take_of_length_le (by have := HL.out; omega)] at h
        rw [Hid, run_end signB l h, HL.out]
      go_wp2
      go_ret
      exact ⟨ret_i64 (by rw [HR.out]), HW.out⟩
end Go.Proofs.YtnhbjhdkpbhioaaGreatDoor
namespace Go.Proofs.YtnhbjhdkpbhioaaGreatDoor
open Go.RowKit
def rdV (m : Rd) : Value := .tuple #[.agg #[.int .i64 (m.k), .int .i64 (0), .int .i64 (m.i), .string (baL m.s)], .int .i64 (m.z : Int), .int .i64 m.e]
def nameS (l : List UInt8) : List UInt8 := if nameE l = 0 then l.take (nameZ l) else []
theorem conv_isB (ao : Option Addr) (n cap : Nat) (l : List UInt8) (w : World) (hl : l.length = n) (h : IsB w ao l) :
    (convert 22 9 (.slice ao n cap)).run Tryz.prog w = .ok (.string (baL l)) w := by
  by_cases h0 : 0 < l.length
  · obtain ⟨b, o, rfl, hc⟩ := h h0
    exact conv_at b o n cap l w hl hc
  · have e : l = [] := List.eq_nil_of_length_eq_zero (by omega)
    subst e
    have e2 : n = 0 := hl.symm
    subst e2
    exact run_convert_bytes_zero (P := Tryz.prog) w 22 5 Tryz.underlying22 Tryz.underlying5 ao cap 9 Tryz.underlying9
theorem IsB.take {w : World} {ao : Option Addr} {l : List UInt8} (h : IsB w ao l) (k : Nat) : IsB w ao (l.take k) := fun hl => by
  rw [List.length_take] at hl
  obtain ⟨b, o, h1, h2⟩ := h (by omega)
  exact ⟨b, o, h1, h2.take k⟩
theorem ret_si {s t : ByteArray} {a b : Int} (h : s = t) (h2 : a = b) : Ending.returned (.tuple #[.string s, .int .i64 a]) = .returned (.tuple #[.string t, .int .i64 b]) := by rw [h, h2]
theorem nameE_long {l : List UInt8} (h : 40 < runN partB l) : nameE l = 4 := by unfold nameE; rw [if_pos (show 40 < nameZ l from h)]
theorem nameE_good {l : List UInt8} (h : ¬ 40 < runN partB l) (h2 : goodL (l.take (runN partB l)) = true) : nameE l = 0 := by
  unfold nameE; rw [if_neg (show ¬ 40 < nameZ l from h), if_pos (show goodL (l.take (nameZ l)) = true from h2)]
theorem nameE_none {l : List UInt8} (h : ¬ 40 < runN partB l) (h2 : goodL (l.take (runN partB l)) = false) : nameE l = 2 := by
  unfold nameE; rw [if_neg (show ¬ 40 < nameZ l from h), if_neg (by rw [show goodL (l.take (nameZ l)) = false from h2]; decide)]
theorem nameS_no {l : List UInt8} {e : Int} (h : nameE l = e) (h2 : e ≠ 0) : nameS l = [] := by unfold nameS; rw [if_neg (by rw [h]; exact h2)]
set_option maxHeartbeats 1000000 in
set_option maxRecDepth 4000 in
theorem read_name (ao : Option Addr) (n cap : Nat) (l : List UInt8) (w : World) (hl : l.length = n) (h : IsB w ao l) (hn : n ≤ 100000) (hc : n ≤ cap) :
    Calls Tryz.prog 144 #[.slice ao n cap] w fun e w' => e = .returned (.tuple #[.string (baL (nameS l)), .int .i64 (nameE l)]) ∧ Below w.heap.size w w' := by
  have hz := run_le partB l
  obtain ⟨z, HZ⟩ : ∃ z, Hid (runN partB l = z) := ⟨_, rfl⟩
  have hr : Hid (Calls Tryz.prog 145 #[.slice ao n cap, .func (.func 160) #[] #[]] w fun e w' => e = .returned (.int .i64 (z : Int)) ∧ Below w.heap.size w w') := by
    rw [Hid, ← HZ.out]; exact run_name ao n cap l w hl h hn
  rw [HZ.out, hl] at hz
  have hsl : ∀ w, (Instr.slice 22 (.slice ao n cap) none (some (.int .i64 (z : Int))) none).run Tryz.prog w = .ok (.slice ao z cap) w := fun w => slice_to ao n cap z _ w rfl hz hc
  have HI : Hid (IsB w ao l) := h
  clear h
  by_cases h40 : 40 < z
  · have hi : (40 : Int) < (z : Int) := by omega
    have HE : Hid (nameE l = 4) := nameE_long (by rw [HZ.out]; exact h40)
    go_enter Tryz.func144, Tryz.ntmps144
    go_wp2_with fail
    refine hr.out.mono ?_
    rintro e w1 ⟨rfl, hb1⟩
    have HB : Hid (Below w.heap.size w w1) := hb1
    clear hb1
    go_wp2
    go_ret2
    exact ⟨ret_si (by rw [nameS_no HE.out (by decide)]; rfl) HE.out.symm, HB.out⟩
  · have hi : ¬ (40 : Int) < (z : Int) := by omega
    have hgl : goodB (baL (l.take z)) = goodL (l.take z) := rfl
    cases hg : goodL (l.take z)
    · have HE : Hid (nameE l = 2) := nameE_none (by rw [HZ.out]; exact h40) (by rw [HZ.out]; exact hg)
      rw [hg] at hgl
      have hgd : Hid (∀ w : World, Calls Tryz.prog 161 #[.string (baL (l.take z))] w fun e w' => e = .returned (.bool false) ∧ w' = w) := by
        intro w; rw [← hgl]; exact good_any _ w (by rw [baL_size, List.length_take]; unfold maxLen; omega)
      clear hg hgl
      go_enter Tryz.func144, Tryz.ntmps144
      go_wp2_with fail
      refine hr.out.mono ?_
      rintro e w1 ⟨rfl, hb1⟩
      have HB : Hid (Below w.heap.size w w1) := hb1
      have hcv := conv_isB ao z cap (l.take z) w1 (by rw [List.length_take]; omega) ((HI.out.next hb1).take z)
      clear hb1
      go_wp2_with fail
      refine (hgd.out _).mono ?_
      rintro e w2 ⟨rfl, rfl⟩
      go_wp2
      go_ret2
      exact ⟨ret_si (by rw [nameS_no HE.out (by decide)]; rfl) HE.out.symm, HB.out⟩
    · have HE : Hid (nameE l = 0) := nameE_good (by rw [HZ.out]; exact h40) (by rw [HZ.out]; exact hg)
      have HS : Hid (nameS l = l.take z) := by unfold nameS; rw [Hid, if_pos HE.out, show nameZ l = z from HZ.out]
      rw [hg] at hgl
      have hgd : Hid (∀ w : World, Calls Tryz.prog 161 #[.string (baL (l.take z))] w fun e w' => e = .returned (.bool true) ∧ w' = w) := by
        intro w; rw [← hgl]; exact good_any _ w (by rw [baL_size, List.length_take]; unfold maxLen; omega)
      clear hg hgl
      go_enter Tryz.func144, Tryz.ntmps144
      go_wp2_with fail
      refine hr.out.mono ?_
      rintro e w1 ⟨rfl, hb1⟩
      have HB : Hid (Below w.heap.size w w1) := hb1
      have hcv := conv_isB ao z cap (l.take z) w1 (by rw [List.length_take]; omega) ((HI.out.next hb1).take z)
      clear hb1
      go_wp2_with fail
      refine (hgd.out _).mono ?_
      rintro e w2 ⟨rfl, rfl⟩
      go_wp2
      go_ret2
      exact ⟨ret_si (by rw [HS.out]) HE.out.symm, HB.out⟩
theorem below4 {B : Nat} {a w : World} (h : Below B a w) (C : Nat) (hC : B ≤ C) (v0 v1 v2 v3 : Value) :
    Below B a ((((w.setCell ⟨C, 0, none⟩ v0).setCell ⟨C, 1, none⟩ v1).setCell ⟨C, 2, none⟩ v2).setCell ⟨C, 3, none⟩ v3) :=
  (((h.setCell hC _).setCell hC _).setCell hC _).setCell hC _
theorem parse_bel (s : ByteArray) (V E : Int) (w : World) (hs : s.size ≤ 300000) (hV : parV s.data.toList = V) (hE : parE s.data.toList = E) :
    Calls Tryz.prog 147 #[.string s] w fun e w' => e = .returned (.tuple #[.int .i64 V, .int .i64 E]) ∧ Below w.heap.size w w' := by
  refine (parse_any s w hs).mono ?_
  rintro e w' ⟨rfl, hq⟩
  rw [hV, hE]
  exact ⟨rfl, (show SameW w w' from hq).below _⟩
theorem parE_cases (l : List UInt8) : parE l = 0 ∨ parE l = 11 ∨ parE l = 2 := by
  unfold parE
  split
  · unfold resE
    split
    · exact .inl rfl
    · exact .inr (.inl rfl)
  · exact .inr (.inr rfl)
theorem alloc_below (w : World) (o : Obj) : Below w.heap.size w (w.alloc o) := (Below.refl _ _).alloc (Nat.le_refl _) _
theorem word_some {l : List UInt8} {z : Nat} (hz : runN signB l = z) (h0 : z ≠ 0) : wordR l = wordOf (l.take z) z := by
  unfold wordR; rw [hz, if_neg h0]
set_option maxHeartbeats 2000000 in
set_option maxRecDepth 4000 in
theorem read_word (b o n cap : Nat) (l : List UInt8) (w : World) (hl : l.length = n) (h : Bs w b o l) (hn : n ≤ 100000) (hc : n ≤ cap) :
    Calls Tryz.prog 127 #[.slice (some ⟨b, o, none⟩) n cap] w fun e w' => e = .returned (rdV (wordR l)) ∧ Below w.heap.size w w' := by
  have hz := run_le signB l
  obtain ⟨z, HZ⟩ : ∃ z, Hid (runN signB l = z) := ⟨_, rfl⟩
  have hr : Hid (∀ w' : World, Below w.heap.size w w' → Calls Tryz.prog 145 #[.slice (some ⟨b, o, none⟩) n cap, .func (.func 146) #[] #[]] w' fun e w2 => e = .returned (.int .i64 (z : Int)) ∧ Below w'.heap.size w' w2) := by
    intro w' hb; rw [← HZ.out]; exact run_word _ n cap l w' hl (h.next hb).isB hn
  rw [HZ.out, hl] at hz
  have hsl : ∀ w, (Instr.slice 22 (.slice (some ⟨b, o, none⟩) n cap) none (some (.int .i64 (z : Int))) none).run Tryz.prog w = .ok (.slice (some ⟨b, o, none⟩) z cap) w := fun w => slice_to _ n cap z _ w rfl hz hc
  have HI : Hid (Bs w b o l) := h
  clear h
  by_cases h0 : z = 0
  · subst h0
    have HE : Hid (wordR l = badR 2) := by unfold wordR; rw [Hid, if_pos HZ.out]
    go_enter Tryz.func127, Tryz.ntmps127
    go_wp2_with fail
    refine (hr.out _ (alloc_below _ _)).mono ?_
    rintro e w1 ⟨rfl, hb1⟩
    obtain ⟨hcc, hff⟩ := bcells hb1
    have HB : Hid (Below w.heap.size w w1) := next_trans (alloc_below _ _) hb1
    clear hb1
    go_wp2
    rw [HE.out]
    exact bodyPost_ret (v := rdV (badR 2)) (by simp [results, Tryz.results127, go_sem, hcc, rdV, badR, baL]) rfl ⟨rfl, below4 HB.out _ (Nat.le_refl _) _ _ _ _⟩
  · have h0i : ((z : Int) == 0) = false := by simp; omega
    have HR : Hid (wordR l = wordOf (l.take z) z) := word_some HZ.out h0
    have hlen : Hid ((l.take z).length = z) := by rw [Hid, List.length_take]; omega
    have hs : Hid ((baL (l.take z)).size ≤ 300000) := by rw [Hid, baL_size, hlen.out]; omega
    obtain ⟨V, HV⟩ : ∃ V, Hid (parV (l.take z) = V) := ⟨_, rfl⟩
    rcases parE_cases (l.take z) with hE | hE | hE
    · have HP : Hid (∀ w : World, Calls Tryz.prog 147 #[.string (baL (l.take z))] w fun e w' => e = .returned (.tuple #[.int .i64 V, .int .i64 0]) ∧ Below w.heap.size w w') := fun w => parse_bel _ V 0 w hs.out HV.out hE
      have HM : Hid (wordR l = okR 1 V [] z) := by
        rw [Hid, HR.out]; unfold wordOf; rw [if_pos hE, HV.out]
      clear hE
      go_enter Tryz.func127, Tryz.ntmps127
      go_wp2_with fail
      refine (hr.out _ (alloc_below _ _)).mono ?_
      rintro e w1 ⟨rfl, hb1⟩
      have HB : Hid (Below w.heap.size w w1) := next_trans (alloc_below _ _) hb1
      have hcv := conv_at b o z cap (l.take z) w1 hlen.out ((HI.out.next HB.out).take z)
      go_wp2_with fail
      refine (HP.out _).mono ?_
      rintro e w2 ⟨rfl, hb2⟩
      have HB2 : Hid (Below w.heap.size w w2) := next_trans HB.out hb2
      obtain ⟨hcc, hff⟩ := bcells (next_trans hb1 hb2)
      clear hb1 hb2 hcv
      go_wp2
      rw [HM.out]
      exact bodyPost_ret (v := rdV (okR 1 V [] z)) (by simp [results, Tryz.results127, go_sem, hcc, rdV, okR, baL]) rfl ⟨rfl, below4 HB2.out _ (Nat.le_refl _) _ _ _ _⟩
    · have HP : Hid (∀ w : World, Calls Tryz.prog 147 #[.string (baL (l.take z))] w fun e w' => e = .returned (.tuple #[.int .i64 V, .int .i64 11]) ∧ Below w.heap.size w w') := fun w => parse_bel _ V 11 w hs.out HV.out hE
      have HM : Hid (wordR l = badR 11) := by
        rw [Hid, HR.out]; unfold wordOf; rw [if_neg (by rw [hE]; decide), if_pos hE]
      clear hE
      go_enter Tryz.func127, Tryz.ntmps127
      go_wp2_with fail
      refine (hr.out _ (alloc_below _ _)).mono ?_
      rintro e w1 ⟨rfl, hb1⟩
      have HB : Hid (Below w.heap.size w w1) := next_trans (alloc_below _ _) hb1
      have hcv := conv_at b o z cap (l.take z) w1 hlen.out ((HI.out.next HB.out).take z)
      go_wp2_with fail
      refine (HP.out _).mono ?_
      rintro e w2 ⟨rfl, hb2⟩
      have HB2 : Hid (Below w.heap.size w w2) := next_trans HB.out hb2
      obtain ⟨hcc, hff⟩ := bcells (next_trans hb1 hb2)
      clear hb1 hb2 hcv
      go_wp2
      rw [HM.out]
      exact bodyPost_ret (v := rdV (badR 11)) (by simp [results, Tryz.results127, go_sem, hcc, rdV, badR, baL]) rfl ⟨rfl, below4 HB2.out _ (Nat.le_refl _) _ _ _ _⟩
    · by_cases h40 : 40 < z
      · have hi : (40 : Int) < (z : Int) := by omega
        have HP : Hid (∀ w : World, Calls Tryz.prog 147 #[.string (baL (l.take z))] w fun e w' => e = .returned (.tuple #[.int .i64 V, .int .i64 2]) ∧ Below w.heap.size w w') := fun w => parse_bel _ V 2 w hs.out HV.out hE
        have HM : Hid (wordR l = badR 4) := by
          rw [Hid, HR.out]; unfold wordOf; rw [if_neg (by rw [hE]; decide), if_neg (by rw [hE]; decide), if_pos h40]
        clear hE
        go_enter Tryz.func127, Tryz.ntmps127
        go_wp2_with fail
        refine (hr.out _ (alloc_below _ _)).mono ?_
        rintro e w1 ⟨rfl, hb1⟩
        have HB : Hid (Below w.heap.size w w1) := next_trans (alloc_below _ _) hb1
        have hcv := conv_at b o z cap (l.take z) w1 hlen.out ((HI.out.next HB.out).take z)
        go_wp2_with fail
        refine (HP.out _).mono ?_
        rintro e w2 ⟨rfl, hb2⟩
        have HB2 : Hid (Below w.heap.size w w2) := next_trans HB.out hb2
        obtain ⟨hcc, hff⟩ := bcells (next_trans hb1 hb2)
        clear hb1 hb2 hcv
        go_wp2
        rw [HM.out]
        exact bodyPost_ret (v := rdV (badR 4)) (by simp [results, Tryz.results127, go_sem, hcc, rdV, badR, baL]) rfl ⟨rfl, below4 HB2.out _ (Nat.le_refl _) _ _ _ _⟩
      · have hi : ¬ (40 : Int) < (z : Int) := by omega
        have HP : Hid (∀ w : World, Calls Tryz.prog 147 #[.string (baL (l.take z))] w fun e w' => e = .returned (.tuple #[.int .i64 V, .int .i64 2]) ∧ Below w.heap.size w w') := fun w => parse_bel _ V 2 w hs.out HV.out hE
        have HM : Hid (wordR l = okR 2 0 (l.take z) z) := by
          rw [Hid, HR.out]; unfold wordOf; rw [if_neg (by rw [hE]; decide), if_neg (by rw [hE]; decide), if_neg h40]
        clear hE
        go_enter Tryz.func127, Tryz.ntmps127
        go_wp2_with fail
        refine (hr.out _ (alloc_below _ _)).mono ?_
        rintro e w1 ⟨rfl, hb1⟩
        have HB : Hid (Below w.heap.size w w1) := next_trans (alloc_below _ _) hb1
        have hcv := conv_at b o z cap (l.take z) w1 hlen.out ((HI.out.next HB.out).take z)
        go_wp2_with fail
        refine (HP.out _).mono ?_
        rintro e w2 ⟨rfl, hb2⟩
        have HB2 : Hid (Below w.heap.size w w2) := next_trans HB.out hb2
        obtain ⟨hcc, hff⟩ := bcells (next_trans hb1 hb2)
        clear hb1 hb2 hcv
        go_wp2
        rw [HM.out]
        exact bodyPost_ret (v := rdV (okR 2 0 (l.take z) z)) (by simp [results, Tryz.results127, go_sem, hcc, rdV, okR]) rfl ⟨rfl, below4 HB2.out _ (Nat.le_refl _) _ _ _ _⟩
end Go.Proofs.YtnhbjhdkpbhioaaGreatDoor
namespace Go.Proofs.YtnhbjhdkpbhioaaGreatDoor
open Go.RowKit
theorem nameE_cases (l : List UInt8) : nameE l = 4 ∨ nameE l = 2 ∨ (nameE l = 0 ∧ nameZ l ≤ 40 ∧ nameS l = l.take (nameZ l)) := by
  by_cases h : 40 < runN partB l
  · exact .inl (nameE_long h)
  · cases hg : goodL (l.take (runN partB l))
    · exact .inr (.inl (nameE_none h hg))
    · have := nameE_good h hg
      exact .inr (.inr ⟨this, by unfold nameZ; omega, by unfold nameS; rw [if_pos this]⟩)
theorem star_no {l : List UInt8} (h : l.length = 0) : starL l = false := by
  have := List.eq_nil_of_length_eq_zero h
  subst this; rfl
theorem star_at {l : List UInt8} (k : Nat) (h : k < l.length) : starL (l.drop k) = decide (l[k].toNat = 42) := by
  rw [Q_cons l k h]; rfl
theorem glob_bad {u : List UInt8} {e : Int} (h : nameE u = e) (h2 : e ≠ 0) : globR u = badR e := by unfold globR; rw [h, if_neg h2]
theorem plain_bad {u : List UInt8} {e : Int} (h : nameE u = e) (h2 : e ≠ 0) : plainR u = badR e := by unfold plainR; rw [h, if_neg h2]
theorem glob_no {u : List UInt8} (h : nameE u = 0) (h2 : starL (u.drop (nameZ u)) = false) : globR u = badR 2 := by unfold globR; rw [h, if_pos rfl, h2, if_neg (by decide)]
theorem glob_ok {u : List UInt8} (h : nameE u = 0) (h2 : starL (u.drop (nameZ u)) = true) : globR u = okR 7 0 (u.take (nameZ u)) (2 + nameZ u + 1) := by unfold globR; rw [h, if_pos rfl, h2, if_pos rfl]
theorem plain_ok {u : List UInt8} (h : nameE u = 0) : plainR u = okR 6 0 (u.take (nameZ u)) (1 + nameZ u) := by unfold plainR; rw [h, if_pos rfl]
theorem take_size (u : List UInt8) : (baL (u.take (nameZ u))).size = nameZ u := by
  rw [baL_size, List.length_take]
  have := run_le partB u
  unfold nameZ; omega
set_option maxHeartbeats 2000000 in
set_option maxRecDepth 4000 in
theorem read_glob (b o n cap : Nat) (l : List UInt8) (w : World) (hl : l.length = n) (h : Bs w b o l) (hn : n ≤ 100000) (hc : n ≤ cap) (h2 : 2 ≤ n) :
    Calls Tryz.prog 143 #[.slice (some ⟨b, o, none⟩) n cap] w fun e w' => e = .returned (rdV (globR (l.drop 2))) ∧ Below w.heap.size w w' := by
  have hsl : ∀ w, (Instr.slice 22 (.slice (some ⟨b, o, none⟩) n cap) (some (.int .i64 2)) none none).run Tryz.prog w = .ok (.slice (fromA (some ⟨b, o, none⟩) cap 2) (n - 2) (cap - 2)) w := fun w => slice_from _ n cap 2 _ w rfl h2
  obtain ⟨u, HU⟩ : ∃ u, Hid (l.drop 2 = u) := ⟨_, rfl⟩
  have hul : u.length = n - 2 := by rw [← HU.out, List.length_drop, hl]
  have hr : Hid (∀ w' : World, Below w.heap.size w w' → Calls Tryz.prog 144 #[.slice (fromA (some ⟨b, o, none⟩) cap 2) (n - 2) (cap - 2)] w' fun e w2 => e = .returned (.tuple #[.string (baL (nameS u)), .int .i64 (nameE u)]) ∧ Below w'.heap.size w' w2) := by
    intro w' hb
    have hi := from_isB (h.next hb) 2 (cap := cap) (by omega)
    rw [HU.out] at hi
    exact read_name _ _ _ u w' hul hi (by omega) (by omega)
  rw [HU.out]
  have HI : Hid (Bs w b o l) := h
  have HL : Hid (l.length = n) := hl
  clear h hl
  rcases nameE_cases u with hE | hE | ⟨hE, hz, hS⟩
  · have HM : Hid (globR u = badR 4) := glob_bad hE (by decide)
    have hr2 := hr.out
    rw [hE] at hr2
    clear hE hr
    go_enter Tryz.func143, Tryz.ntmps143
    go_wp2_with fail
    refine (hr2 _ (alloc_below _ _)).mono ?_
    rintro e w1 ⟨rfl, hb1⟩
    have HB : Hid (Below w.heap.size w w1) := next_trans (alloc_below _ _) hb1
    obtain ⟨hcc, hff⟩ := bcells hb1
    clear hb1 hr2
    go_wp2
    rw [HM.out]
    exact bodyPost_ret (v := rdV (badR 4)) (by simp [results, Tryz.results143, go_sem, hcc, rdV, badR, baL]) rfl ⟨rfl, below4 HB.out _ (Nat.le_refl _) _ _ _ _⟩
  · have HM : Hid (globR u = badR 2) := glob_bad hE (by decide)
    have hr2 := hr.out
    rw [hE] at hr2
    clear hE hr
    go_enter Tryz.func143, Tryz.ntmps143
    go_wp2_with fail
    refine (hr2 _ (alloc_below _ _)).mono ?_
    rintro e w1 ⟨rfl, hb1⟩
    have HB : Hid (Below w.heap.size w w1) := next_trans (alloc_below _ _) hb1
    obtain ⟨hcc, hff⟩ := bcells hb1
    clear hb1 hr2
    go_wp2
    rw [HM.out]
    exact bodyPost_ret (v := rdV (badR 2)) (by simp [results, Tryz.results143, go_sem, hcc, rdV, badR, baL]) rfl ⟨rfl, below4 HB.out _ (Nat.le_refl _) _ _ _ _⟩
  · have hr2 := hr.out
    rw [hE, hS] at hr2
    have hsz := take_size u
    obtain ⟨z, HZ⟩ : ∃ z, Hid (nameZ u = z) := ⟨_, rfl⟩
    rw [HZ.out] at hsz hz hr2
    have hzu : z ≤ n - 2 := by have := run_le partB u; rw [← HZ.out]; unfold nameZ; omega
    obtain ⟨X, HX⟩ : ∃ X, Hid (baL (u.take z) = X) := ⟨_, rfl⟩
    rw [HX.out] at hsz hr2
    clear hr hS
    by_cases he : 2 + z = n
    · have hei : ((2 + (z : Int)) == (n : Int)) = true := by simp; omega
      have HM : Hid (globR u = badR 2) := glob_no hE (star_no (by rw [List.length_drop, HZ.out]; omega))
      clear hE
      go_enter Tryz.func143, Tryz.ntmps143
      go_wp2_with fail
      refine (hr2 _ (alloc_below _ _)).mono ?_
      rintro e w1 ⟨rfl, hb1⟩
      have HB : Hid (Below w.heap.size w w1) := next_trans (alloc_below _ _) hb1
      obtain ⟨hcc, hff⟩ := bcells hb1
      clear hb1 hr2
      go_wp2
      rw [HM.out]
      exact bodyPost_ret (v := rdV (badR 2)) (by simp [results, Tryz.results143, go_sem, hcc, rdV, badR, baL]) rfl ⟨rfl, below4 HB.out _ (Nat.le_refl _) _ _ _ _⟩
    · have hei : ((2 + (z : Int)) == (n : Int)) = false := by simp; omega
      have hlt : (2 + (z : Int)) < (n : Int) := by omega
      have hkl : 2 + z < l.length := by rw [HL.out]; omega
      have hst : starL (u.drop (nameZ u)) = decide (l[2 + z].toNat = 42) := by
        rw [HZ.out, ← HU.out, List.drop_drop]
        exact star_at (2 + z) hkl
      obtain ⟨c, HC⟩ : ∃ c, Hid (l[2 + z] = c) := ⟨l[2 + z], by rw [Hid]⟩
      rw [HC.out] at hst
      by_cases h42 : c.toNat = 42
      · have d1 : ((c.toNat : Int) == 42) = true := by simp; omega
        have HM : Hid (globR u = okR 7 0 (u.take z) (2 + z + 1)) := by
          have := glob_ok hE (by rw [hst]; simpa using h42)
          rw [HZ.out] at this; exact this
        clear hE hst h42
        go_enter Tryz.func143, Tryz.ntmps143
        go_wp2_with fail
        refine (hr2 _ (alloc_below _ _)).mono ?_
        rintro e w1 ⟨rfl, hb1⟩
        have HB : Hid (Below w.heap.size w w1) := next_trans (alloc_below _ _) hb1
        obtain ⟨hcc, hff⟩ := bcells hb1
        have c0 := at_byte HI.out HB.out (2 + z) hkl
        rw [HC.out] at c0
        clear hb1 hr2
        go_wp2
        rw [HM.out]
        exact bodyPost_ret (v := rdV (okR 7 0 (u.take z) (2 + z + 1))) (by simp [results, Tryz.results143, go_sem, hcc, rdV, okR, HX.out]) rfl ⟨rfl, below4 HB.out _ (Nat.le_refl _) _ _ _ _⟩
      · have d1 : ((c.toNat : Int) == 42) = false := by simp; omega
        have HM : Hid (globR u = badR 2) := glob_no hE (by rw [hst]; simpa using h42)
        clear hE hst h42
        go_enter Tryz.func143, Tryz.ntmps143
        go_wp2_with fail
        refine (hr2 _ (alloc_below _ _)).mono ?_
        rintro e w1 ⟨rfl, hb1⟩
        have HB : Hid (Below w.heap.size w w1) := next_trans (alloc_below _ _) hb1
        obtain ⟨hcc, hff⟩ := bcells hb1
        have c0 := at_byte HI.out HB.out (2 + z) hkl
        rw [HC.out] at c0
        clear hb1 hr2
        go_wp2
        rw [HM.out]
        exact bodyPost_ret (v := rdV (badR 2)) (by simp [results, Tryz.results143, go_sem, hcc, rdV, badR, baL]) rfl ⟨rfl, below4 HB.out _ (Nat.le_refl _) _ _ _ _⟩
end Go.Proofs.YtnhbjhdkpbhioaaGreatDoor
