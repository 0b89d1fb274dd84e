/- Patterns that are the same: the program's Same, the reference's. -/
import Derived.Test.YtnhbjhdkpbhioaaGreatDoorPtTerm
import Derived.Deep.RegionHeld3
namespace Go.Proofs.YtnhbjhdkpbhioaaGreatDoor
open Go.RowKit

set_option maxHeartbeats 8000000 in
set_option maxRecDepth 8000 in
theorem tequal_any (L : List Ts) (N : Nat) (ao bo : Option Addr) (ca cb : Nat) (w : World) (hL : L.length = N) (hN : N ≤ 1000) (h : IsTss w ao L) (h2 : IsTss w bo L) :
    Calls Tryz.prog 61 #[.slice ao N ca, .slice bo N cb] w fun e w' => e = .returned (.bool true) ∧ Below w.heap.size w w' := by
  have HL : Hid (L.length = N) := hL
  have HI : Hid (IsTss w ao L) := h
  have HJ : Hid (IsTss w bo L) := h2
  have hn : ((N : Int) != (N : Int)) = false := by simp
  clear hL h h2
  go_enter Tryz.func61, Tryz.ntmps61
  go_wp2
  go_loopw [13] (fun q wr => ∃ k : Nat, k ≤ N ∧ q = .int .i64 k ∧ Hid (Below w.heap.size w wr)) (fun q _ => N - (intOf q).toNat)
  case atStart => exact ⟨0, Nat.zero_le _, rfl, Below.refl _ _⟩
  case round =>
    obtain ⟨k, hk, rfl, HB⟩ := hrel
    by_cases hlt : k < N
    · have hki : (k : Int) < (N : Int) := by omega
      have hk0 : (0 : Int) ≤ (k : Int) := by omega
      obtain ⟨s, hs⟩ : ∃ s, L[k]? = some s := ⟨_, List.getElem?_eq_getElem (by rw [HL.out]; exact hlt)⟩
      obtain ⟨b, o, rfl, c0, c1, c2, c3, c4, c5⟩ := (HI.out.next HB.out) k s hs
      obtain ⟨b2, o2, rfl, d0, d1, d2, d3, d4, d5⟩ := (HJ.out.next HB.out) k s hs
      obtain ⟨tp, tn, tv, tk, ti, ts⟩ := s
      simp only at c0 c1 c2 c3 c4 c5 d0 d1 d2 d3 d4 d5
      clear hs
      go_wp2
      go_region_held3 (fun w' => w'.cell? ⟨b, o + k * 6, none⟩ = some (.int .i64 (tp : Int)) ∧ w'.cell? ⟨b, o + k * 6 + 1, none⟩ = some (.bool tn) ∧ w'.cell? ⟨b, o + k * 6 + 2, none⟩ = some (.string tv) ∧ w'.cell? ⟨b, o + k * 6 + 3, none⟩ = some (.int .i64 tk) ∧ w'.cell? ⟨b, o + k * 6 + 4, none⟩ = some (.int .i64 ti) ∧ w'.cell? ⟨b, o + k * 6 + 5, none⟩ = some (.string ts) ∧ w'.cell? ⟨b2, o2 + k * 6, none⟩ = some (.int .i64 (tp : Int)) ∧ w'.cell? ⟨b2, o2 + k * 6 + 1, none⟩ = some (.bool tn) ∧ w'.cell? ⟨b2, o2 + k * 6 + 2, none⟩ = some (.string tv) ∧ w'.cell? ⟨b2, o2 + k * 6 + 3, none⟩ = some (.int .i64 tk) ∧ w'.cell? ⟨b2, o2 + k * 6 + 4, none⟩ = some (.int .i64 ti) ∧ w'.cell? ⟨b2, o2 + k * 6 + 5, none⟩ = some (.string ts))
        (((try dsimp only); go_split_ands; refine ⟨?_, ?_, ?_, ?_, ?_, ?_, ?_, ?_, ?_, ?_, ?_, ?_⟩ <;> first | assumption | exact keep_cell (by assumption) (by assumption)))
        (fail)
      all_goals
        go_split_ands
        have HB2 : Hid (Below w.heap.size w wr.drew) := HB.out.drew
        go_wp2
        go_roundw
        case rel => exact ⟨k + 1, by omega, by go_num, HB2⟩
        case measure => simp [intOf]; omega
    · have hki : ¬ (k : Int) < (N : Int) := by omega
      go_wp2
      go_ret
      exact ⟨rfl, HB.out⟩

set_option maxHeartbeats 4000000 in
set_option maxRecDepth 8000 in
theorem psame_any (P : Ptn) (ao bo : Option Addr) (ca cb : Nat) (w : World) (hN : P.l.length ≤ 1000) (h : IsTss w ao P.l) (h2 : IsTss w bo P.l) :
    Calls Tryz.prog 18 #[ptV P ao ca, ptV P bo cb] w fun e w' => e = .returned (.bool true) ∧ Below w.heap.size w w' := by
  obtain ⟨tn, l⟩ := P
  unfold ptV
  simp only at hN h h2 ⊢
  obtain ⟨N, HN⟩ : ∃ N, Hid (l.length = N) := ⟨_, rfl⟩
  have HQ : Hid (∀ w', Below w.heap.size w w' → Calls Tryz.prog 61 #[.slice ao N ca, .slice bo N cb] w' fun e w2 => e = .returned (.bool true) ∧ Below w'.heap.size w' w2) := fun w' hw =>
    tequal_any l N ao bo ca cb w' HN.out (by rw [HN.out] at hN; exact hN) (h.next hw) (h2.next hw)
  rw [HN.out]
  have hd : (tn.toList == tn.toList) = true := by rw [beq_ba]; exact decide_eq_true rfl
  obtain ⟨W, HWe⟩ : ∃ W, Hid ((w.alloc (.cells #[.string tn, .slice ao N ca] 36)).alloc (.cells #[.string tn, .slice bo N cb] 36) = W) := ⟨_, rfl⟩
  have HB : Hid (Below w.heap.size w W) := by rw [← HWe.out]; exact next_trans (alloc_below _ _) (alloc_below _ _)
  clear h h2 hN
  go_enter Tryz.func18, Tryz.ntmps18
  go_wp2_with fail
  rw [HWe.out]
  refine (HQ.out W HB.out).mono ?_
  rintro e w1 ⟨rfl, hb⟩
  have HB1 : Hid (Below w.heap.size w w1) := next_trans HB.out hb
  clear hb
  go_wp2
  go_ret
  exact ⟨rfl, HB1.out⟩

set_option maxHeartbeats 8000000 in
set_option maxRecDepth 8000 in
theorem rpsame_any (P : Ptn) (ao bo : Option Addr) (ca cb : Nat) (w : World) (hN : P.l.length ≤ 1000) (h : IsTss w ao P.l) (h2 : IsTss w bo P.l) :
    Calls Tryz.prog 15 #[ptV P ao ca, ptV P bo cb] w fun e w' => e = .returned (.bool true) ∧ Below w.heap.size w w' := by
  obtain ⟨tn, l⟩ := P
  unfold ptV
  simp only at hN h h2 ⊢
  obtain ⟨N, HN⟩ : ∃ N, Hid (l.length = N) := ⟨_, rfl⟩
  rw [HN.out] at hN ⊢
  have HI : Hid (IsTss w ao l) := h
  have HJ : Hid (IsTss w bo l) := h2
  have hd : (tn.toList == tn.toList) = true := by rw [beq_ba]; exact decide_eq_true rfl
  have hn : ((N : Int) != (N : Int)) = false := by simp
  obtain ⟨W, HWe⟩ : ∃ W, Hid ((w.alloc (.cells #[.string tn, .slice ao N ca] 49)).alloc (.cells #[.string tn, .slice bo N cb] 49) = W) := ⟨_, rfl⟩
  have HB : Hid (Below w.heap.size w W) := by rw [← HWe.out]; exact next_trans (alloc_below _ _) (alloc_below _ _)
  have HA : Hid (Bx W w.heap.size #[.string tn, .slice ao N ca]) := by rw [← HWe.out]; exact (Bx.made _ _ _).alloc _
  have HC : Hid (Bx W (w.heap.size + 1) #[.string tn, .slice bo N cb]) := Bx.made' HWe.out (by simp)
  clear h h2
  go_enter Tryz.func15, Tryz.ntmps15
  go_wp2
  rw [HWe.out]
  clear HWe
  go_loopw [5] (fun q wr => ∃ k : Nat, k ≤ N ∧ q = .int .i64 k ∧ Hid (Below w.heap.size w wr) ∧ Hid (Bx wr w.heap.size #[.string tn, .slice ao N ca]) ∧ Hid (Bx wr (w.heap.size + 1) #[.string tn, .slice bo N cb])) (fun q _ => N - (intOf q).toNat)
  case atStart => exact ⟨0, Nat.zero_le _, rfl, HB, HA, HC⟩
  case round =>
    obtain ⟨k, hk, rfl, HB, HA, HC⟩ := hrel
    have x1 : wr.cell? ⟨w.heap.size, 1, none⟩ = some (.slice ao N ca) := HA.out.cell 1
    have y1 : wr.cell? ⟨w.heap.size + 1, 1, none⟩ = some (.slice bo N cb) := HC.out.cell 1
    by_cases hlt : k < N
    · have hki : (k : Int) < (N : Int) := by omega
      have hk0 : (0 : Int) ≤ (k : Int) := by omega
      obtain ⟨s, hs⟩ : ∃ s, l[k]? = some s := ⟨_, List.getElem?_eq_getElem (by rw [HN.out]; exact hlt)⟩
      obtain ⟨b, o, rfl, c0, c1, c2, c3, c4, c5⟩ := (HI.out.next HB.out) k s hs
      obtain ⟨b2, o2, rfl, d0, d1, d2, d3, d4, d5⟩ := (HJ.out.next HB.out) k s hs
      obtain ⟨tp, tnn, tv, tk, ti, ts⟩ := s
      simp only at c0 c1 c2 c3 c4 c5 d0 d1 d2 d3 d4 d5
      have hvd : (tv.toList == tv.toList) = true := by rw [beq_ba]; exact decide_eq_true rfl
      have htp : ((tp : Int) != (tp : Int)) = false := by simp
      have htn : (tnn != tnn) = false := by simp
      have hl0 : w.heap.size + 1 < wr.heap.size := HC.out.lt
      have hl1 : w.heap.size < wr.heap.size := HA.out.lt
      have hlb : b < wr.heap.size := World.block_lt_of_cell? wr _ c0
      have hlb2 : b2 < wr.heap.size := World.block_lt_of_cell? wr _ d0
      have HSm : Hid (∀ w : World, Calls Tryz.prog 56 #[.agg #[.int .i64 (tk), .int .i64 (ti), .string (ts)], .agg #[.int .i64 (tk), .int .i64 (ti), .string (ts)]] w fun e w' => e = .returned (.bool true) ∧ Below w.heap.size w w') := by
        intro w; rw [← sameB_refl tk ti ts]; exact rsame_any tk ti tk ti ts ts w
      obtain ⟨W2, HW2⟩ : ∃ W2, Hid ((wr.alloc (.cells #[.int .i64 (tp : Int), .bool tnn, .string tv, .int .i64 tk, .int .i64 ti, .string ts] 125)).alloc (.cells #[.int .i64 (tp : Int), .bool tnn, .string tv, .int .i64 tk, .int .i64 ti, .string ts] 125) = W2) := ⟨_, rfl⟩
      have hb2 : Below wr.heap.size wr W2 := by rw [← HW2.out]; exact next_trans (alloc_below _ _) (alloc_below _ _)
      have HB2 : Hid (Below w.heap.size w W2) := next_trans HB.out hb2
      have HA2 : Hid (Bx W2 w.heap.size #[.string tn, .slice (some ⟨b, o, none⟩) N ca]) := HA.out.next hb2
      have HC2 : Hid (Bx W2 (w.heap.size + 1) #[.string tn, .slice (some ⟨b2, o2, none⟩) N cb]) := HC.out.next hb2
      clear hs hb2
      go_wp2_with fail
      rw [HW2.out]
      refine (HSm.out W2).mono ?_
      rintro e w4 ⟨rfl, hb4⟩
      have HB4 : Hid (Below w.heap.size w w4) := next_trans HB2.out hb4
      have HA4 : Hid (Bx w4 w.heap.size #[.string tn, .slice (some ⟨b, o, none⟩) N ca]) := HA2.out.next hb4
      have HC4 : Hid (Bx w4 (w.heap.size + 1) #[.string tn, .slice (some ⟨b2, o2, none⟩) N cb]) := HC2.out.next hb4
      clear hb4 HW2 HB2 HA2 HC2 c0 c1 c2 c3 c4 c5 d0 d1 d2 d3 d4 d5 x1 y1
      go_wp2
      go_roundw
      case rel => exact ⟨k + 1, by omega, by go_num, HB4, HA4, HC4⟩
      case measure => simp [intOf]; omega
    · have hki : ¬ (k : Int) < (N : Int) := by omega
      go_wp2
      go_ret
      exact ⟨rfl, HB.out⟩
end Go.Proofs.YtnhbjhdkpbhioaaGreatDoor
