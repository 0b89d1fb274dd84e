/- The contract of package built's numbersOf. -/
import Derived.Test.YtfglmfldpmpofaaDoorBtVals
import Derived.Test.YtfglmfldpmpofaaDoorBtNums
import Derived.Test.YtfglmfldpmpofaaDoorKeep
import Derived.Deep.OwnRows
namespace Go.Proofs.YtfglmfldpmpofaaDoor
open Go.RowKit

theorem infoI64 : (Tryd.prog.info? 2).map (fun i => (i.zero, i.size, i.bytes)) = some (some (.int .i64 0), 1, 8) := by kernel_rfl
/-- What numbersOf answers. -/
def NofPost (L : List Val) (N B : Nat) (e : Ending) (w' : World) : Prop :=
  (allInt L = true ∧ e = .returned (.tuple #[.slice (some ⟨B, 0, none⟩) N N, .int .i64 0]) ∧ IntsW w' (some ⟨B, 0, none⟩) (numsV L)) ∨
  (allInt L = false ∧ e = .returned (.tuple #[.slice none 0 0, .int .i64 8]))
/-- The row behind k values. -/
def nofAt (L : List Val) (k : Nat) (j : Nat) : Value := .int .i64 (if j < k then (numsV L).getD j 0 else 0)
theorem nof_start {w : World} {N B : Nat} {L : List Val} (hB : w.heap.size = B) : (w.alloc (.cells (madeCells #[.int .i64 0] N) 2)).rowIs B 2 N (nofAt L 0) := by
  subst hB
  exact (World.rowIs_made w (.int .i64 0) N 2).congr fun i _ => by unfold nofAt; rw [if_neg (by omega)]
theorem nof_step {w : World} {N B k : Nat} {L : List Val} {v : Val} {o : Obj} (h : w.rowIs B 2 N (nofAt L k)) (hk : L[k]? = some v) : ((w.setCell ⟨B, k, none⟩ (.int .i64 v.i)).alloc o).rowIs B 2 N (nofAt L (k + 1)) := by
  refine ((h.set k (.int .i64 v.i)).alloc o).congr fun i _ => ?_
  unfold nofAt
  by_cases e : i = k
  · subst e
    rw [if_pos rfl, if_pos (by omega), List.getD_eq_getElem?_getD, numsV_get hk]
    rfl
  · rw [if_neg e]
    by_cases e2 : i < k
    · rw [if_pos e2, if_pos (by omega)]
    · rw [if_neg e2, if_neg (by omega)]
theorem nof_end {w : World} {N B k : Nat} {L : List Val} (h : w.rowIs B 2 N (nofAt L k)) (hN : L.length = N) (hk : N ≤ k) : IntsW w (some ⟨B, 0, none⟩) (numsV L) := by
  intro j z hj
  have hl : j < N := by rw [← hN, ← numsV_len]; exact (List.getElem?_eq_some_iff.1 hj).1
  refine ⟨B, 0, rfl, ?_⟩
  rw [Nat.zero_add, h.cell hl]
  unfold nofAt
  rw [if_pos (by omega), List.getD_eq_getElem?_getD, hj]
  rfl

set_option maxHeartbeats 1000000 in
set_option maxRecDepth 4000 in
theorem numsof_any (ao : Option Addr) (cap N B : Nat) (L : List Val) (w : World) (hB : w.heap.size = B) (hN : L.length = N) (hv : IsVals w ao L) (hm : N ≤ 1000) :
    Calls Tryd.prog 49 #[.slice ao N cap] w fun e w' => NofPost L N B e w' ∧ Below w.heap.size w w' := by
  have HV : Hid (IsVals w ao L) := hv
  have HB : Hid (w.heap.size = B) := hB
  have HN : Hid (L.length = N) := hN
  clear hv hN hB
  have hmk := run_make_row' (P := Tryd.prog) 40 2 (.int .i64 0) 8 Tryd.underlying40 infoI64 rfl .i64 .i64 N (by omega) (by omega)
  go_enter Tryd.func49, Tryd.ntmps49
  go_wp2
  clear hmk
  rw [HB.out]
  have hs0 : Hid ((w.alloc (.cells (madeCells #[.int .i64 0] N) 2)).rowIs B 2 N (nofAt L 0)) := nof_start HB.out
  have hb0 : Hid (Below B w (w.alloc (.cells (madeCells #[.int .i64 0] N) 2))) := (Below.refl _ _).alloc (by rw [HB.out]; exact Nat.le_refl _) _
  go_loopw [12] (fun i wr => ∃ k : Nat, k ≤ N ∧ i = .int .i64 k ∧ Hid (Below B w wr) ∧ Hid (wr.rowIs B 2 N (nofAt L k)) ∧ Hid (allInt (L.take k) = true)) (fun i _ => N - (intOf i).toNat)
  case atStart => exact ⟨0, Nat.zero_le _, rfl, hb0, hs0, rfl⟩
  case round =>
    obtain ⟨k, hk, rfl, HW, HR, HA⟩ := hrel
    clear hs0 hb0
    by_cases hlt : k < N
    · have hki : (k : Int) < (N : Int) := by omega
      obtain ⟨v, HG⟩ : ∃ v, Hid (L[k]? = some v) := ⟨_, List.getElem?_eq_getElem (by rw [HN.out]; exact hlt)⟩
      obtain ⟨b, o, rfl, c0, c1, c2⟩ := at_cells HV.out HB.out HW.out HG.out
      have q1 := HR.out.cell hlt
      have q2 := HR.out.frozen k
      have q3 : B < wr.heap.size := HR.out.lt
      have hbx : Hid (Below B w (wr.alloc (.cells #[.int .i64 v.k, .int .i64 v.i, .string v.s] 26))) := HW.out.alloc (by omega) _
      by_cases h1 : v.k = 1
      · have hrow : Hid (((wr.setCell ⟨B, k, none⟩ (.int .i64 v.i)).alloc (.cells #[.int .i64 v.k, .int .i64 v.i, .string v.s] 26)).rowIs B 2 N (nofAt L (k + 1))) := nof_step HR.out HG.out
        have hbe : Hid (Below B w ((wr.setCell ⟨B, k, none⟩ (.int .i64 v.i)).alloc (.cells #[.int .i64 v.k, .int .i64 v.i, .string v.s] 26))) := (HW.out.setCell (p := ⟨B, k, none⟩) (Nat.le_refl _) _).alloc (by simp [World.setCell]; omega) _
        have HA2 : Hid (allInt (L.take (k + 1)) = true) := by rw [Hid, allInt_take HG.out, HA.out, decide_eq_true h1]; rfl
        have d1 : (v.k != 1) = false := by simpa using h1
        clear h1
        go_wp2
        go_roundw
        case rel => exact ⟨k + 1, by omega, by go_num, hbe, hrow, HA2⟩
        case measure => simp [intOf]; omega
      · have HA2 : Hid (allInt L = false) := allInt_no (n := k + 1) (by rw [allInt_take HG.out, decide_eq_false h1]; simp)
        have d1 : (v.k != 1) = true := by simpa using h1
        clear h1
        go_wp2
        go_ret2
        exact ⟨.inr ⟨HA2.out, rfl⟩, by rw [HB.out]; exact hbx.out⟩
    · have hki : ¬ (k : Int) < (N : Int) := by omega
      have HI : Hid (IntsW wr (some ⟨B, 0, none⟩) (numsV L)) := nof_end HR.out HN.out (by omega)
      have HA2 : Hid (allInt L = true) := by
        have h := HA.out
        rw [List.take_of_length_le (by rw [HN.out]; omega)] at h
        exact h
      go_wp2
      go_ret2
      exact ⟨.inl ⟨HA2.out, rfl, HI.out⟩, by rw [HB.out]; exact HW.out⟩
end Go.Proofs.YtfglmfldpmpofaaDoor
