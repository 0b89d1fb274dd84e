/- Package pat: a pattern as a node. -/
import Derived.Test.YtnhbjhdkpbhioaaGreatDoorPtFind
import Derived.Test.YtnhbjhdkpbhioaaGreatDoorPtTerm
import Derived.Test.YtnhbjhdkpbhioaaGreatDoorG26
namespace Go.Proofs.YtnhbjhdkpbhioaaGreatDoor
open Go.RowKit

set_option maxHeartbeats 8000000 in
set_option maxRecDepth 8000 in
theorem tterm_any (t : Ts) (w : World) :
    Calls Tryz.prog 60 #[tsV t] w fun e w' => MkR w w' e (termNd t) ∧ Below w.heap.size w w' := by
  obtain ⟨x, HX⟩ : ∃ x, Hid (termNd t = x) := ⟨_, rfl⟩
  rw [HX.out]
  obtain ⟨tp, tn, tv, tk, ti, ts⟩ := t
  unfold tsV
  simp only
  by_cases hx : tv = noS
  · have he := isE_yes hx
    have HP : Hid (plainNd ⟨tp, tn, tv, tk, ti, ts⟩ = ⟨tk, 0, ti, ts.data.toList, []⟩) := by rw [Hid]; unfold plainNd; exact if_pos hx
    clear hx
    cases tn with
    | false =>
      have HXv : Hid (x = ⟨tk, 0, ti, ts.data.toList, []⟩) := by rw [Hid, ← HX.out, ← HP.out]; rfl
      clear HX HP
      go_enter Tryz.func60, Tryz.ntmps60
      go_wp2
      refine bodyPost_ret (v := .agg #[.int .i64 (tk), .int .i64 (0), .int .i64 (ti), .string (ts), .slice none 0 0]) (by simp [results, Tryz.results60, go_sem]) rfl ⟨⟨⟨tk, 0, ti, ts.data.toList, none, 0, 0⟩, ?_, ?_⟩, ?_⟩
      · unfold nodeV; simp only; rw [ba_self]; rfl
      · rw [HXv.out]; exact NcIs.leaf _ _ _ _ _ _
      · exact next_trans (next_trans (alloc_below _ _) (alloc_below _ _)) (alloc_below _ _)
    | true =>
      have HXv : Hid (x = ⟨8, 0, 0, [], [⟨tk, 0, ti, ts.data.toList, []⟩]⟩) := by rw [Hid, ← HX.out, ← HP.out]; rfl
      clear HX HP
      go_enter Tryz.func60, Tryz.ntmps60
      go_wp2
      refine bodyPost_ret (v := .agg #[.int .i64 (8), .int .i64 (0), .int .i64 (0), .string (⟨#[]⟩), .slice (some ⟨w.heap.size + 1 + 1 + 1, 0, none⟩) 1 1]) (by simp [results, Tryz.results60, go_sem]) rfl ⟨⟨⟨8, 0, 0, [], some ⟨w.heap.size + 1 + 1 + 1, 0, none⟩, 1, 1⟩, rfl, ?_⟩, ?_⟩
      · rw [HXv.out]
        refine ⟨rfl, rfl, rfl, rfl, rfl, Nat.le_refl _, ?_⟩
        refine lit_nds (L := [⟨tk, 0, ti, ts.data.toList, none, 0, 0⟩]) ?_ (by unfold geB; omega) ⟨NcIs.leaf _ _ _ _ _ _, trivial⟩
        show Bx _ _ #[.int .i64 tk, .int .i64 0, .int .i64 ti, .string (baL ts.data.toList), .slice none 0 0]
        rw [ba_self]
        exact Bx.made' rfl (by simp)
      · exact next_trans (next_trans (next_trans (alloc_below _ _) (alloc_below _ _)) (alloc_below _ _)) (alloc_below _ _)
  · have he := isE_no hx
    have HP : Hid (plainNd ⟨tp, tn, tv, tk, ti, ts⟩ = ⟨6, 0, 0, tv.data.toList, []⟩) := by rw [Hid]; unfold plainNd; exact if_neg hx
    clear hx
    cases tn with
    | false =>
      have HXv : Hid (x = ⟨6, 0, 0, tv.data.toList, []⟩) := by rw [Hid, ← HX.out, ← HP.out]; rfl
      clear HX HP
      go_enter Tryz.func60, Tryz.ntmps60
      go_wp2
      refine bodyPost_ret (v := .agg #[.int .i64 (6), .int .i64 (0), .int .i64 (0), .string (tv), .slice none 0 0]) (by simp [results, Tryz.results60, go_sem]) rfl ⟨⟨⟨6, 0, 0, tv.data.toList, none, 0, 0⟩, ?_, ?_⟩, ?_⟩
      · unfold nodeV; simp only; rw [ba_self]; rfl
      · rw [HXv.out]; exact NcIs.leaf _ _ _ _ _ _
      · exact next_trans (next_trans (alloc_below _ _) (alloc_below _ _)) (alloc_below _ _)
    | true =>
      have HXv : Hid (x = ⟨8, 0, 0, [], [⟨6, 0, 0, tv.data.toList, []⟩]⟩) := by rw [Hid, ← HX.out, ← HP.out]; rfl
      clear HX HP
      go_enter Tryz.func60, Tryz.ntmps60
      go_wp2
      refine bodyPost_ret (v := .agg #[.int .i64 (8), .int .i64 (0), .int .i64 (0), .string (⟨#[]⟩), .slice (some ⟨w.heap.size + 1 + 1 + 1, 0, none⟩) 1 1]) (by simp [results, Tryz.results60, go_sem]) rfl ⟨⟨⟨8, 0, 0, [], some ⟨w.heap.size + 1 + 1 + 1, 0, none⟩, 1, 1⟩, rfl, ?_⟩, ?_⟩
      · rw [HXv.out]
        refine ⟨rfl, rfl, rfl, rfl, rfl, Nat.le_refl _, ?_⟩
        refine lit_nds (L := [⟨6, 0, 0, tv.data.toList, none, 0, 0⟩]) ?_ (by unfold geB; omega) ⟨NcIs.leaf _ _ _ _ _ _, trivial⟩
        show Bx _ _ #[.int .i64 6, .int .i64 0, .int .i64 0, .string (baL tv.data.toList), .slice none 0 0]
        rw [ba_self]
        exact Bx.made' rfl (by simp)
      · exact next_trans (next_trans (next_trans (alloc_below _ _) (alloc_below _ _)) (alloc_below _ _)) (alloc_below _ _)
end Go.Proofs.YtnhbjhdkpbhioaaGreatDoor
