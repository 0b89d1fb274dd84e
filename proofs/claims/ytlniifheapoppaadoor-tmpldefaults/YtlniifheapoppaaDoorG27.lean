/- Templates that are the same: the program's Same, the reference's. -/
import Derived.Deep.RegionHeld3
import Derived.Test.YtlniifheapoppaaDoorG26
import Derived.Test.YtlniifheapoppaaDoorG25
namespace Go.Proofs.YtlniifheapoppaaDoor
open Go.RowKit

set_option maxHeartbeats 8000000 in
set_option maxRecDepth 8000 in
theorem sequal_any (L : List Sl) (N : Nat) (ao bo : Option Addr) (ca cb : Nat) (w : World) (hL : L.length = N) (hN : N ≤ 1000) (h : IsSls w ao L) (h2 : IsSls w bo L) :
    Calls Tryd.prog 33 #[.slice ao N ca, .slice bo N cb] w fun e w' => e = .returned (.bool true) ∧ Below w.heap.size w w' := by
  have HL : Hid (L.length = N) := hL
  have HI : Hid (IsSls w ao L) := h
  have HJ : Hid (IsSls w bo L) := h2
  have hn : ((N : Int) != (N : Int)) = false := by simp
  clear hL h h2
  go_enter Tryd.func33, Tryd.ntmps33
  go_wp2
  go_loopw [13] (fun q wr => ∃ k : Nat, k ≤ N ∧ q = .int .i64 k ∧ Hid (Below w.heap.size w wr)) (fun q _ => N - (intOf q).toNat)
  case atStart => exact ⟨0, Nat.zero_le _, rfl, Below.refl _ _⟩
  case round =>
    obtain ⟨k, hk, rfl, HB⟩ := hrel
    by_cases hlt : k < N
    · have hki : (k : Int) < (N : Int) := by omega
      have hk0 : (0 : Int) ≤ (k : Int) := by omega
      obtain ⟨s, hs⟩ : ∃ s, L[k]? = some s := ⟨_, List.getElem?_eq_getElem (by rw [HL.out]; exact hlt)⟩
      obtain ⟨b, o, rfl, c0, c1, c2, c3⟩ := (HI.out.next HB.out) k s hs
      obtain ⟨b2, o2, rfl, d0, d1, d2, d3⟩ := (HJ.out.next HB.out) k s hs
      obtain ⟨sn, sk, si, ss⟩ := s
      simp only at c0 c1 c2 c3 d0 d1 d2 d3
      clear hs
      go_wp2
      go_region_held3 (fun w' => w'.cell? ⟨b, o + k * 4, none⟩ = some (.string sn) ∧ w'.cell? ⟨b, o + k * 4 + 1, none⟩ = some (.int .i64 sk) ∧ w'.cell? ⟨b, o + k * 4 + 2, none⟩ = some (.int .i64 si) ∧ w'.cell? ⟨b, o + k * 4 + 3, none⟩ = some (.string ss) ∧ w'.cell? ⟨b2, o2 + k * 4, none⟩ = some (.string sn) ∧ w'.cell? ⟨b2, o2 + k * 4 + 1, none⟩ = some (.int .i64 sk) ∧ w'.cell? ⟨b2, o2 + k * 4 + 2, none⟩ = some (.int .i64 si) ∧ w'.cell? ⟨b2, o2 + k * 4 + 3, none⟩ = some (.string ss))
        (((try dsimp only); go_split_ands; refine ⟨?_, ?_, ?_, ?_, ?_, ?_, ?_, ?_⟩ <;> first | assumption | exact keep_cell (by assumption) (by assumption)))
        (fail)
      all_goals
        go_split_ands
        have HB2 : Hid (Below w.heap.size w wr.drew) := HB.out.drew
        go_wp2
        go_roundw
        case rel => exact ⟨k + 1, by omega, by go_num, HB2⟩
        case measure => simp [intOf]; omega
    · have hki : ¬ (k : Int) < (N : Int) := by omega
      go_wp2
      go_ret
      exact ⟨rfl, HB.out⟩

set_option maxHeartbeats 4000000 in
set_option maxRecDepth 8000 in
theorem tsame_any (T : Tp) (ao bo : Option Addr) (ca cb : Nat) (w : World) (hN : T.l.length ≤ 1000) (h : IsSls w ao T.l) (h2 : IsSls w bo T.l) :
    Calls Tryd.prog 16 #[tmV T ao ca, tmV T bo cb] w fun e w' => e = .returned (.bool true) ∧ Below w.heap.size w w' := by
  obtain ⟨tn, l⟩ := T
  unfold tmV
  simp only at hN h h2 ⊢
  obtain ⟨N, HN⟩ : ∃ N, Hid (l.length = N) := ⟨_, rfl⟩
  have HQ : Hid (∀ w', Below w.heap.size w w' → Calls Tryd.prog 33 #[.slice ao N ca, .slice bo N cb] w' fun e w2 => e = .returned (.bool true) ∧ Below w'.heap.size w' w2) := fun w' hw =>
    sequal_any l N ao bo ca cb w' HN.out (by rw [HN.out] at hN; exact hN) (h.next hw) (h2.next hw)
  rw [HN.out]
  have hd : (tn.toList == tn.toList) = true := by rw [beq_ba]; exact decide_eq_true rfl
  obtain ⟨W, HWe⟩ : ∃ W, Hid ((w.alloc (.cells #[.string tn, .slice ao N ca] 26)).alloc (.cells #[.string tn, .slice bo N cb] 26) = W) := ⟨_, rfl⟩
  have HB : Hid (Below w.heap.size w W) := by rw [← HWe.out]; exact next_trans (alloc_below _ _) (alloc_below _ _)
  clear h h2 hN
  go_enter Tryd.func16, Tryd.ntmps16
  go_wp2_with fail
  rw [HWe.out]
  refine (HQ.out W HB.out).mono ?_
  rintro e w1 ⟨rfl, hb⟩
  have HB1 : Hid (Below w.heap.size w w1) := next_trans HB.out hb
  clear hb
  go_wp2
  go_ret
  exact ⟨rfl, HB1.out⟩

end Go.Proofs.YtlniifheapoppaaDoor
