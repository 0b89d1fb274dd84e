/- The walk of ValuesMade. -/
import Derived.Test.YtinbnhjpgjagoaaDoorValKnown
namespace Go.Proofs.YtinbnhjpgjagoaaDoor
open Go.RowKit

theorem made_long (i : Int) (s : ByteArray) (b : Bool) (w : World) (hl : (1000 : Int) < (s.size : Int)) (ht : TabW w) :
    Calls Tryd.prog 6 #[.int .i64 i, .string s, .bool b] w fun e w' => e = .returned (.bool true) ∧ Below w.heap.size w w' := by
  go_enter Tryd.func6, Tryd.ntmps6
  go_wp2_with fail
  refine (known_yes w ht).mono ?_
  rintro e w1 ⟨rfl, hb1⟩
  clear ht
  go_wp2
  go_ret
  exact ⟨rfl, hb1⟩

set_option maxHeartbeats 8000000 in
set_option maxRecDepth 100000 in
theorem made_short (i : Int) (s t : ByteArray) (b : Bool) (w : World) (hs : s.size ≤ 1000) (HT : Hid (boolS b = t)) (ht : TabW w) :
    Calls Tryd.prog 6 #[.int .i64 i, .string s, .bool b] w fun e w' => e = .returned (.bool true) ∧ Below w.heap.size w w' := by
  obtain ⟨B, HB⟩ : ∃ B, Hid (w.heap.size = B) := ⟨_, rfl⟩
  have hob : Hid (∀ w : World, Calls Tryd.prog 20 #[.bool b] w fun e w' => e = .returned (.agg #[.int .i64 (2), .int .i64 (0), .string (t)]) ∧ Below w.heap.size w w') := by
    intro w; rw [← HT.out]; exact of_bool b w
  have hrb : Hid (∀ w : World, Calls Tryd.prog 25 #[.bool b] w fun e w' => e = .returned (.agg #[.int .i64 (2), .int .i64 (0), .string (t)]) ∧ Below w.heap.size w w') := by
    intro w; rw [← HT.out]; exact rbool_any b w
  go_enter Tryd.func6, Tryd.ntmps6
  go_wp2_with fail
  refine (known_yes w ht).mono ?_
  rintro e w0 ⟨rfl, hb0⟩
  clear ht
  go_wp2_with fail
  refine (of_int i _).mono ?_
  rintro e w1 ⟨rfl, hb1⟩
  go_wp2_with fail
  refine (of_sym s _).mono ?_
  rintro e w2 ⟨rfl, hb2⟩
  go_wp2_with fail
  refine (of_str s _).mono ?_
  rintro e w3 ⟨rfl, hb3⟩
  go_wp2_with fail
  refine (hob.out _).mono ?_
  rintro e w4 ⟨rfl, hb4⟩
  go_wp2_with fail
  obtain ⟨n1, hn1⟩ : ∃ n1, w1.heap.size = n1 := ⟨_, rfl⟩
  obtain ⟨n2, hn2⟩ : ∃ n2, w2.heap.size = n2 := ⟨_, rfl⟩
  obtain ⟨n3, hn3⟩ : ∃ n3, w3.heap.size = n3 := ⟨_, rfl⟩
  obtain ⟨n4, hn4⟩ : ∃ n4, w4.heap.size = n4 := ⟨_, rfl⟩
  have z0 : B ≤ w0.heap.size := by have := hb0.size; have := HB.out; omega
  have b0 : Below B w w0 := by rw [← HB.out]; exact hb0
  have z1 : B ≤ w1.heap.size := le_next z0 hb1
  have b1 : Below B w w1 := below_next b0 hb1 z0
  have z2 : B ≤ w2.heap.size := le_next (le_alloc z1) hb2
  have b2 : Below B w w2 := below_next (below_alloc b1 z1) hb2 (le_alloc z1)
  have z3 : B ≤ w3.heap.size := le_next (le_alloc z2) hb3
  have b3 : Below B w w3 := below_next (below_alloc b2 z2) hb3 (le_alloc z2)
  have z4 : B ≤ w4.heap.size := le_next (le_alloc z3) hb4
  have b4 : Below B w w4 := below_next (below_alloc b3 z3) hb4 (le_alloc z3)
  have c00 : (w4.alloc (.cells #[.int .i64 2, .int .i64 0, .string t] 23)).drew.cell? ⟨n1, 0, none⟩ = some (.int .i64 1) := alloc_cell (keep_cell hb4 (alloc_cell (keep_cell hb3 (alloc_cell (keep_cell hb2 (box_cell (cs := #[.int .i64 1, .int .i64 i, .string ⟨#[]⟩]) hn1.symm rfl))))))
  have c01 : (w4.alloc (.cells #[.int .i64 2, .int .i64 0, .string t] 23)).drew.cell? ⟨n1, 1, none⟩ = some (.int .i64 i) := alloc_cell (keep_cell hb4 (alloc_cell (keep_cell hb3 (alloc_cell (keep_cell hb2 (box_cell (cs := #[.int .i64 1, .int .i64 i, .string ⟨#[]⟩]) hn1.symm rfl))))))
  have c02 : (w4.alloc (.cells #[.int .i64 2, .int .i64 0, .string t] 23)).drew.cell? ⟨n1, 2, none⟩ = some (.string ⟨#[]⟩) := alloc_cell (keep_cell hb4 (alloc_cell (keep_cell hb3 (alloc_cell (keep_cell hb2 (box_cell (cs := #[.int .i64 1, .int .i64 i, .string ⟨#[]⟩]) hn1.symm rfl))))))
  have c10 : (w4.alloc (.cells #[.int .i64 2, .int .i64 0, .string t] 23)).drew.cell? ⟨n2, 0, none⟩ = some (.int .i64 2) := alloc_cell (keep_cell hb4 (alloc_cell (keep_cell hb3 (box_cell (cs := #[.int .i64 2, .int .i64 0, .string s]) hn2.symm rfl))))
  have c11 : (w4.alloc (.cells #[.int .i64 2, .int .i64 0, .string t] 23)).drew.cell? ⟨n2, 1, none⟩ = some (.int .i64 0) := alloc_cell (keep_cell hb4 (alloc_cell (keep_cell hb3 (box_cell (cs := #[.int .i64 2, .int .i64 0, .string s]) hn2.symm rfl))))
  have c12 : (w4.alloc (.cells #[.int .i64 2, .int .i64 0, .string t] 23)).drew.cell? ⟨n2, 2, none⟩ = some (.string s) := alloc_cell (keep_cell hb4 (alloc_cell (keep_cell hb3 (box_cell (cs := #[.int .i64 2, .int .i64 0, .string s]) hn2.symm rfl))))
  have c20 : (w4.alloc (.cells #[.int .i64 2, .int .i64 0, .string t] 23)).drew.cell? ⟨n3, 0, none⟩ = some (.int .i64 3) := alloc_cell (keep_cell hb4 (box_cell (cs := #[.int .i64 3, .int .i64 0, .string s]) hn3.symm rfl))
  have c21 : (w4.alloc (.cells #[.int .i64 2, .int .i64 0, .string t] 23)).drew.cell? ⟨n3, 1, none⟩ = some (.int .i64 0) := alloc_cell (keep_cell hb4 (box_cell (cs := #[.int .i64 3, .int .i64 0, .string s]) hn3.symm rfl))
  have c22 : (w4.alloc (.cells #[.int .i64 2, .int .i64 0, .string t] 23)).drew.cell? ⟨n3, 2, none⟩ = some (.string s) := alloc_cell (keep_cell hb4 (box_cell (cs := #[.int .i64 3, .int .i64 0, .string s]) hn3.symm rfl))
  have c30 : (w4.alloc (.cells #[.int .i64 2, .int .i64 0, .string t] 23)).drew.cell? ⟨n4, 0, none⟩ = some (.int .i64 2) := box_cell (cs := #[.int .i64 2, .int .i64 0, .string t]) hn4.symm rfl
  have c31 : (w4.alloc (.cells #[.int .i64 2, .int .i64 0, .string t] 23)).drew.cell? ⟨n4, 1, none⟩ = some (.int .i64 0) := box_cell (cs := #[.int .i64 2, .int .i64 0, .string t]) hn4.symm rfl
  have c32 : (w4.alloc (.cells #[.int .i64 2, .int .i64 0, .string t] 23)).drew.cell? ⟨n4, 2, none⟩ = some (.string t) := box_cell (cs := #[.int .i64 2, .int .i64 0, .string t]) hn4.symm rfl
  have s0 : Below B w (w4.alloc (.cells #[.int .i64 2, .int .i64 0, .string t] 23)).drew := (below_alloc b4 z4).drew
  have s1 : B ≤ (w4.alloc (.cells #[.int .i64 2, .int .i64 0, .string t] 23)).drew.heap.size := le_alloc z4
  have q1 : ∀ (k i : Int) (s : ByteArray), sameB k i s k i s = true := sameB_refl
  have q2 : trueB 2 0 t = b := by rw [← HT.out]; cases b <;> decide
  have q3 : rightB 1 i ⟨#[]⟩ = true := rfl
  have q4 : rightB 3 0 s = true := by rw [right_str]; exact decide_eq_true ⟨rfl, hs⟩
  have q5 : rightB 2 0 t = true := by rw [← HT.out]; cases b <;> decide
  have r1 : s.size ≤ 100000 := by omega
  have r2 : t.size ≤ 100000 := by rw [← HT.out]; cases b <;> decide
  have r3 : (⟨#[]⟩ : ByteArray).size ≤ 100000 := by decide
  rw [hn1, hn2, hn3, hn4]
  go_region_held3 (fun w' => w'.cell? ⟨n1, 0, none⟩ = some (.int .i64 1) ∧ w'.cell? ⟨n1, 1, none⟩ = some (.int .i64 i) ∧ w'.cell? ⟨n1, 2, none⟩ = some (.string ⟨#[]⟩) ∧ w'.cell? ⟨n2, 0, none⟩ = some (.int .i64 2) ∧ w'.cell? ⟨n2, 1, none⟩ = some (.int .i64 0) ∧ w'.cell? ⟨n2, 2, none⟩ = some (.string s) ∧ w'.cell? ⟨n3, 0, none⟩ = some (.int .i64 3) ∧ w'.cell? ⟨n3, 1, none⟩ = some (.int .i64 0) ∧ w'.cell? ⟨n3, 2, none⟩ = some (.string s) ∧ w'.cell? ⟨n4, 0, none⟩ = some (.int .i64 2) ∧ w'.cell? ⟨n4, 1, none⟩ = some (.int .i64 0) ∧ w'.cell? ⟨n4, 2, none⟩ = some (.string t) ∧ Below B w w' ∧ B ≤ w'.heap.size)
    (((try dsimp only); go_split_ands; refine ⟨?_, ?_, ?_, ?_, ?_, ?_, ?_, ?_, ?_, ?_, ?_, ?_, ?_, ?_⟩ <;> first | assumption | exact keep_cell (by assumption) (by assumption) | exact below_next (by assumption) (by assumption) (by assumption) | exact le_next (by assumption) (by assumption)))
    (first
      | (go_at_call 22; refine (rint_any _ _).mono ?_; rintro e w' ⟨rfl, hb⟩)
      | (go_at_call 23; refine (rsym_any _ _).mono ?_; rintro e w' ⟨rfl, hb⟩)
      | (go_at_call 24; refine (rstr_any _ _).mono ?_; rintro e w' ⟨rfl, hb⟩)
      | (go_at_call 25; refine (hrb.out _).mono ?_; rintro e w' ⟨rfl, hb⟩)
      | (go_at_call 21; refine (rsame_any _ _ _ _ _ _ _).mono ?_; rintro e w' ⟨rfl, hb⟩)
      | (go_at_call 26; refine (true_any _ _ _ _).mono ?_; rintro e w' ⟨rfl, hb⟩)
      | (go_at_call 27; refine (right_any _ _ _ _ (by assumption)).mono ?_; rintro e w' ⟨rfl, hb⟩))
  all_goals
    go_split_ands
    go_wp2
    go_ret
    refine ⟨rfl, ?_⟩
    rw [HB.out]
    assumption

theorem made_walk (i : Int) (s : ByteArray) (b : Bool) (w : World) (_ : inB i = true) (_ : s.size ≤ maxLen) (ht : TabW w) :
    Calls Tryd.prog 6 #[.int .i64 i, .string s, .bool b] w fun e w' => e = .returned (.bool true) ∧ Below w.heap.size w w' := by
  by_cases h : s.size ≤ 1000
  · exact made_short i s _ b w h rfl ht
  · exact made_long i s b w (by omega) ht
end Go.Proofs.YtinbnhjpgjagoaaDoor
