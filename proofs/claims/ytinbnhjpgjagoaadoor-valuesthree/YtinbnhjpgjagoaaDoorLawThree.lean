/- The walk of ValuesThree. -/
import Derived.Test.YtinbnhjpgjagoaaDoorValKnown
namespace Go.Proofs.YtinbnhjpgjagoaaDoor
open Go.RowKit

/-- A value lies in a block of its own. -/
def Bx (w : World) (n : Nat) (k i : Int) (s : ByteArray) : Prop := w.cell? ⟨n, 0, none⟩ = some (.int .i64 k) ∧ w.cell? ⟨n, 1, none⟩ = some (.int .i64 i) ∧ w.cell? ⟨n, 2, none⟩ = some (.string s)
theorem Bx.next {w w' : World} {n : Nat} {k i : Int} {s : ByteArray} (h : Bx w n k i s) (hb : Below w.heap.size w w') : Bx w' n k i s := ⟨keep_cell hb h.1, keep_cell hb h.2.1, keep_cell hb h.2.2⟩
theorem Bx.alloc {w : World} {n : Nat} {k i : Int} {s : ByteArray} (h : Bx w n k i s) (o : Obj) : Bx (w.alloc o) n k i s := ⟨alloc_cell h.1, alloc_cell h.2.1, alloc_cell h.2.2⟩
theorem Bx.made {w : World} {n : Nat} {k i : Int} {s : ByteArray} (hn : n = w.heap.size) : Bx (w.alloc (.cells #[.int .i64 k, .int .i64 i, .string s] 23)) n k i s := ⟨box_cell hn rfl, box_cell hn rfl, box_cell hn rfl⟩
/-- Three, and the old memory. -/
structure B3 (w0 w : World) (B : Nat) (k1 i1 : Int) (s1 : ByteArray) (k2 i2 : Int) (s2 : ByteArray) (k3 i3 : Int) (s3 : ByteArray) : Prop where
  a : Bx w B k1 i1 s1
  b : Bx w (B + 1) k2 i2 s2
  c : Bx w (B + 1 + 1) k3 i3 s3
  bel : Below B w0 w
  siz : B ≤ w.heap.size
  tab : TabW w
theorem B3.next {w0 w w' : World} {B : Nat} {k1 i1 : Int} {s1 : ByteArray} {k2 i2 : Int} {s2 : ByteArray} {k3 i3 : Int} {s3 : ByteArray} (h : B3 w0 w B k1 i1 s1 k2 i2 s2 k3 i3 s3) (hb : Below w.heap.size w w') : B3 w0 w' B k1 i1 s1 k2 i2 s2 k3 i3 s3 :=
  ⟨h.a.next hb, h.b.next hb, h.c.next hb, below_next h.bel hb h.siz, le_next h.siz hb, tab_next h.tab hb⟩
theorem B3.start (k1 i1 : Int) (s1 : ByteArray) (k2 i2 : Int) (s2 : ByteArray) (k3 i3 : Int) (s3 : ByteArray) (w : World) (ht : TabW w) : B3 w (((w.alloc (.cells #[.int .i64 k1, .int .i64 i1, .string s1] 23)).alloc (.cells #[.int .i64 k2, .int .i64 i2, .string s2] 23)).alloc (.cells #[.int .i64 k3, .int .i64 i3, .string s3] 23)) w.heap.size k1 i1 s1 k2 i2 s2 k3 i3 s3 :=
  ⟨((Bx.made rfl).alloc _).alloc _, (Bx.made (by simp)).alloc _, Bx.made (by simp), ((((Below.refl _ _).alloc (Nat.le_refl _) _).alloc (by simp) _).alloc (by simp; omega) _), by simp; omega, tab_alloc (tab_alloc (tab_alloc ht))⟩

set_option maxHeartbeats 1000000 in
theorem three_1 (k1 i1 : Int) (s1 : ByteArray) (k2 i2 : Int) (s2 : ByteArray) (k3 i3 : Int) (s3 : ByteArray) (w : World) (h1 : decide ((s1.size : Int) ≤ 1100) = false) (ht : TabW w) :
    Calls Tryd.prog 5 #[.agg #[.int .i64 (k1), .int .i64 (i1), .string (s1)], .agg #[.int .i64 (k2), .int .i64 (i2), .string (s2)], .agg #[.int .i64 (k3), .int .i64 (i3), .string (s3)]] w fun e w' => e = .returned (.bool true) ∧ Below w.heap.size w w' := by
  have K0 := B3.start k1 i1 s1 k2 i2 s2 k3 i3 s3 w ht
  clear ht
  go_enter Tryd.func5, Tryd.ntmps5
  go_wp2_with fail
  refine (known_yes _ K0.tab).mono ?_
  rintro e w1 ⟨rfl, hb⟩
  have K1 := K0.next hb
  obtain ⟨a0, a1, a2⟩ := K1.a
  obtain ⟨b0, b1, b2⟩ := K1.b
  obtain ⟨c0, c1, c2⟩ := K1.c
  clear hb
  go_wp2_with fail
  refine (few_any _ _ _ _).mono ?_
  rintro e w2 ⟨rfl, hb⟩
  have K2 := K1.next hb
  obtain ⟨a0, a1, a2⟩ := K2.a
  obtain ⟨b0, b1, b2⟩ := K2.b
  obtain ⟨c0, c1, c2⟩ := K2.c
  clear hb
  go_wp2
  go_ret
  exact ⟨rfl, K2.bel⟩

set_option maxHeartbeats 1000000 in
theorem three_2 (k1 i1 : Int) (s1 : ByteArray) (k2 i2 : Int) (s2 : ByteArray) (k3 i3 : Int) (s3 : ByteArray) (w : World) (h1 : (s1.size : Int) ≤ 1100) (h2 : decide ((s2.size : Int) ≤ 1100) = false) (ht : TabW w) :
    Calls Tryd.prog 5 #[.agg #[.int .i64 (k1), .int .i64 (i1), .string (s1)], .agg #[.int .i64 (k2), .int .i64 (i2), .string (s2)], .agg #[.int .i64 (k3), .int .i64 (i3), .string (s3)]] w fun e w' => e = .returned (.bool true) ∧ Below w.heap.size w w' := by
  have K0 := B3.start k1 i1 s1 k2 i2 s2 k3 i3 s3 w ht
  clear ht
  go_enter Tryd.func5, Tryd.ntmps5
  go_wp2_with fail
  refine (known_yes _ K0.tab).mono ?_
  rintro e w1 ⟨rfl, hb⟩
  have K1 := K0.next hb
  obtain ⟨a0, a1, a2⟩ := K1.a
  obtain ⟨b0, b1, b2⟩ := K1.b
  obtain ⟨c0, c1, c2⟩ := K1.c
  clear hb
  go_wp2_with fail
  refine (few_any _ _ _ _).mono ?_
  rintro e w2 ⟨rfl, hb⟩
  have K2 := K1.next hb
  obtain ⟨a0, a1, a2⟩ := K2.a
  obtain ⟨b0, b1, b2⟩ := K2.b
  obtain ⟨c0, c1, c2⟩ := K2.c
  clear hb
  go_wp2_with fail
  refine (few_any _ _ _ _).mono ?_
  rintro e w3 ⟨rfl, hb⟩
  have K3 := K2.next hb
  obtain ⟨a0, a1, a2⟩ := K3.a
  obtain ⟨b0, b1, b2⟩ := K3.b
  obtain ⟨c0, c1, c2⟩ := K3.c
  clear hb
  go_wp2
  go_ret
  exact ⟨rfl, K3.bel⟩

set_option maxHeartbeats 1000000 in
theorem three_3 (k1 i1 : Int) (s1 : ByteArray) (k2 i2 : Int) (s2 : ByteArray) (k3 i3 : Int) (s3 : ByteArray) (w : World) (h1 : (s1.size : Int) ≤ 1100) (h2 : (s2.size : Int) ≤ 1100) (h3 : decide ((s3.size : Int) ≤ 1100) = false) (ht : TabW w) :
    Calls Tryd.prog 5 #[.agg #[.int .i64 (k1), .int .i64 (i1), .string (s1)], .agg #[.int .i64 (k2), .int .i64 (i2), .string (s2)], .agg #[.int .i64 (k3), .int .i64 (i3), .string (s3)]] w fun e w' => e = .returned (.bool true) ∧ Below w.heap.size w w' := by
  have K0 := B3.start k1 i1 s1 k2 i2 s2 k3 i3 s3 w ht
  clear ht
  go_enter Tryd.func5, Tryd.ntmps5
  go_wp2_with fail
  refine (known_yes _ K0.tab).mono ?_
  rintro e w1 ⟨rfl, hb⟩
  have K1 := K0.next hb
  obtain ⟨a0, a1, a2⟩ := K1.a
  obtain ⟨b0, b1, b2⟩ := K1.b
  obtain ⟨c0, c1, c2⟩ := K1.c
  clear hb
  go_wp2_with fail
  refine (few_any _ _ _ _).mono ?_
  rintro e w2 ⟨rfl, hb⟩
  have K2 := K1.next hb
  obtain ⟨a0, a1, a2⟩ := K2.a
  obtain ⟨b0, b1, b2⟩ := K2.b
  obtain ⟨c0, c1, c2⟩ := K2.c
  clear hb
  go_wp2_with fail
  refine (few_any _ _ _ _).mono ?_
  rintro e w3 ⟨rfl, hb⟩
  have K3 := K2.next hb
  obtain ⟨a0, a1, a2⟩ := K3.a
  obtain ⟨b0, b1, b2⟩ := K3.b
  obtain ⟨c0, c1, c2⟩ := K3.c
  clear hb
  go_wp2_with fail
  refine (few_any _ _ _ _).mono ?_
  rintro e w4 ⟨rfl, hb⟩
  have K4 := K3.next hb
  obtain ⟨a0, a1, a2⟩ := K4.a
  obtain ⟨b0, b1, b2⟩ := K4.b
  obtain ⟨c0, c1, c2⟩ := K4.c
  clear hb
  go_wp2
  go_ret
  exact ⟨rfl, K4.bel⟩

set_option maxHeartbeats 4000000 in
theorem three_all (k1 i1 : Int) (s1 : ByteArray) (k2 i2 : Int) (s2 : ByteArray) (k3 i3 : Int) (s3 : ByteArray) (w : World) (h1 : (s1.size : Int) ≤ 1100) (h2 : (s2.size : Int) ≤ 1100) (h3 : (s3.size : Int) ≤ 1100) (ht : TabW w) :
    Calls Tryd.prog 5 #[.agg #[.int .i64 (k1), .int .i64 (i1), .string (s1)], .agg #[.int .i64 (k2), .int .i64 (i2), .string (s2)], .agg #[.int .i64 (k3), .int .i64 (i3), .string (s3)]] w fun e w' => e = .returned (.bool true) ∧ Below w.heap.size w w' := by
  obtain ⟨X, HX⟩ : ∃ X, Hid (cmpV k1 i1 s1 k2 i2 s2 = X) := ⟨_, rfl⟩
  obtain ⟨Y, HY⟩ : ∃ Y, Hid (cmpV k2 i2 s2 k3 i3 s3 = Y) := ⟨_, rfl⟩
  obtain ⟨Z, HZ⟩ : ∃ Z, Hid (cmpV k1 i1 s1 k3 i3 s3 = Z) := ⟨_, rfl⟩
  have hle : Hid (X ≤ 0 → Y ≤ 0 → Z ≤ 0) := by rw [← HX.out, ← HY.out, ← HZ.out]; exact cmpV_le _ _ _ _ _ _ _ _ _
  have hge : Hid (0 ≤ X → 0 ≤ Y → 0 ≤ Z) := by rw [← HX.out, ← HY.out, ← HZ.out]; exact cmpV_ge _ _ _ _ _ _ _ _ _
  have cx : Hid (∀ w : World, Calls Tryd.prog 16 #[.agg #[.int .i64 (k1), .int .i64 (i1), .string (s1)], .agg #[.int .i64 (k2), .int .i64 (i2), .string (s2)]] w fun e w' => e = .returned (.int .i64 X) ∧ Below w.heap.size w w') := by
    intro w; rw [← HX.out]; exact compare_any _ _ _ _ _ _ w
  have cy : Hid (∀ w : World, Calls Tryd.prog 16 #[.agg #[.int .i64 (k2), .int .i64 (i2), .string (s2)], .agg #[.int .i64 (k3), .int .i64 (i3), .string (s3)]] w fun e w' => e = .returned (.int .i64 Y) ∧ Below w.heap.size w w') := by
    intro w; rw [← HY.out]; exact compare_any _ _ _ _ _ _ w
  have cz : Hid (∀ w : World, Calls Tryd.prog 16 #[.agg #[.int .i64 (k1), .int .i64 (i1), .string (s1)], .agg #[.int .i64 (k3), .int .i64 (i3), .string (s3)]] w fun e w' => e = .returned (.int .i64 Z) ∧ Below w.heap.size w w') := by
    intro w; rw [← HZ.out]; exact compare_any _ _ _ _ _ _ w
  have K0 := B3.start k1 i1 s1 k2 i2 s2 k3 i3 s3 w ht
  clear ht
  go_enter Tryd.func5, Tryd.ntmps5
  go_wp2_with fail
  refine (known_yes _ K0.tab).mono ?_
  rintro e w1 ⟨rfl, hb⟩
  have K1 := K0.next hb
  obtain ⟨a0, a1, a2⟩ := K1.a
  obtain ⟨b0, b1, b2⟩ := K1.b
  obtain ⟨c0, c1, c2⟩ := K1.c
  clear hb
  go_wp2_with fail
  refine (few_any _ _ _ _).mono ?_
  rintro e w2 ⟨rfl, hb⟩
  have K2 := K1.next hb
  obtain ⟨a0, a1, a2⟩ := K2.a
  obtain ⟨b0, b1, b2⟩ := K2.b
  obtain ⟨c0, c1, c2⟩ := K2.c
  clear hb
  go_wp2_with fail
  refine (few_any _ _ _ _).mono ?_
  rintro e w3 ⟨rfl, hb⟩
  have K3 := K2.next hb
  obtain ⟨a0, a1, a2⟩ := K3.a
  obtain ⟨b0, b1, b2⟩ := K3.b
  obtain ⟨c0, c1, c2⟩ := K3.c
  clear hb
  go_wp2_with fail
  refine (few_any _ _ _ _).mono ?_
  rintro e w4 ⟨rfl, hb⟩
  have K4 := K3.next hb
  obtain ⟨a0, a1, a2⟩ := K4.a
  obtain ⟨b0, b1, b2⟩ := K4.b
  obtain ⟨c0, c1, c2⟩ := K4.c
  clear hb
  go_wp2_with fail
  refine (cx.out _).mono ?_
  rintro e w5 ⟨rfl, hb⟩
  have K5 := K4.next hb
  obtain ⟨a0, a1, a2⟩ := K5.a
  obtain ⟨b0, b1, b2⟩ := K5.b
  obtain ⟨c0, c1, c2⟩ := K5.c
  clear hb
  go_wp2_with fail
  refine (cy.out _).mono ?_
  rintro e w6 ⟨rfl, hb⟩
  have K6 := K5.next hb
  obtain ⟨a0, a1, a2⟩ := K6.a
  obtain ⟨b0, b1, b2⟩ := K6.b
  obtain ⟨c0, c1, c2⟩ := K6.c
  clear hb
  go_wp2_with fail
  refine (cz.out _).mono ?_
  rintro e w7 ⟨rfl, hb⟩
  have K7 := K6.next hb
  obtain ⟨a0, a1, a2⟩ := K7.a
  obtain ⟨b0, b1, b2⟩ := K7.b
  obtain ⟨c0, c1, c2⟩ := K7.c
  clear hb
  go_wp2
  all_goals
    go_ret
    refine ⟨ret_b ?_, K7.bel⟩
    have l := hle.out
    have g := hge.out
    clear hle hge
    first
      | rfl
      | (simp [*]; done)
      | (simp; omega)
      | (exfalso; omega)
      | (exfalso; clear l g; simp_all; done)

theorem three_walk (k1 i1 : Int) (s1 : ByteArray) (k2 i2 : Int) (s2 : ByteArray) (k3 i3 : Int) (s3 : ByteArray) (w : World) (_ : inB k1 = true) (_ : inB i1 = true) (_ : s1.size ≤ maxLen) (_ : inB k2 = true) (_ : inB i2 = true) (_ : s2.size ≤ maxLen) (_ : inB k3 = true) (_ : inB i3 = true) (_ : s3.size ≤ maxLen) (ht : TabW w) :
    Calls Tryd.prog 5 #[.agg #[.int .i64 (k1), .int .i64 (i1), .string (s1)], .agg #[.int .i64 (k2), .int .i64 (i2), .string (s2)], .agg #[.int .i64 (k3), .int .i64 (i3), .string (s3)]] w fun e w' => e = .returned (.bool true) ∧ Below w.heap.size w w' := by
  by_cases h1 : (s1.size : Int) ≤ 1100
  · by_cases h2 : (s2.size : Int) ≤ 1100
    · by_cases h3 : (s3.size : Int) ≤ 1100
      · exact three_all k1 i1 s1 k2 i2 s2 k3 i3 s3 w h1 h2 h3 ht
      · exact three_3 k1 i1 s1 k2 i2 s2 k3 i3 s3 w h1 h2 (decide_eq_false h3) ht
    · exact three_2 k1 i1 s1 k2 i2 s2 k3 i3 s3 w h1 (decide_eq_false h2) ht
  · exact three_1 k1 i1 s1 k2 i2 s2 k3 i3 s3 w (decide_eq_false h1) ht
end Go.Proofs.YtinbnhjpgjagoaaDoor
