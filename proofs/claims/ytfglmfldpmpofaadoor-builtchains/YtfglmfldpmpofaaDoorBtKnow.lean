/- The laws' common first look answers true. -/
import Derived.Test.YtfglmfldpmpofaaDoorBtRow
namespace Go.Proofs.YtfglmfldpmpofaaDoor
open Go.RowKit

theorem lit_vals (w : World) (b : Nat) (L : List Val) (hb : b = w.heap.size) : IsVals (w.alloc (.cells (valsC L).toArray 26)) (some ⟨b, 0, none⟩) L := by
  intro j v hj
  have hc : ∀ q, q < 3 → (valsC L).toArray[j * 3 + q]? = (vC v)[q]? := fun q hq => by
    rw [List.getElem?_toArray]; exact vals_at L j q v hj hq
  refine ⟨b, 0, rfl, box_cell hb ?_, box_cell hb ?_, box_cell hb ?_⟩
  · have := hc 0 (by decide); simpa [vC] using this
  · have := hc 1 (by decide); rw [show 0 + j * 3 + 1 = j * 3 + 1 by omega, this]; rfl
  · have := hc 2 (by decide); rw [show 0 + j * 3 + 2 = j * 3 + 2 by omega, this]; rfl
theorem right_i (n : Int) (h : inB n = true) : rightV ⟨1, n, ⟨#[]⟩⟩ := ⟨rfl, h⟩
theorem ap1 : applyR (code ⟨#[43]⟩) [⟨1, 2, ⟨#[]⟩⟩, ⟨1, 3, ⟨#[]⟩⟩] = (⟨1, 5, ⟨#[]⟩⟩, 0) := by rfl
theorem ap2 : applyR (code ⟨#[60]⟩) [⟨1, 2, ⟨#[]⟩⟩, ⟨1, 3, ⟨#[]⟩⟩, ⟨1, 3, ⟨#[]⟩⟩] = (⟨2, 0, ⟨#[70, 65, 76, 83, 69]⟩⟩, 0) := by rfl
theorem ap3 : applyR (code ⟨#[110, 111, 112, 101]⟩) [] = (⟨0, 0, ⟨#[]⟩⟩, 5) := by rfl
theorem ap4 : applyR (code ⟨#[43]⟩) [⟨2, 0, ⟨#[97]⟩⟩] = (⟨0, 0, ⟨#[]⟩⟩, 8) := by rfl
theorem kn5 : knownB ⟨#[115, 116, 114, 45, 99, 97, 116]⟩ = true := by decide

set_option maxHeartbeats 4000000 in
set_option maxRecDepth 8000 in
theorem known6 (w : World) (ht : TabW w) : Calls Tryd.prog 9 #[] w fun e w' => e = .returned (.bool true) ∧ Below w.heap.size w w' := by
  have HT : Hid (TabW w) := ht
  clear ht
  go_enter Tryd.func9, Tryd.ntmps9
  go_wp2_with fail
  refine (rint_any 2 _).mono ?_
  rintro e w1 ⟨rfl, hb1⟩
  go_wp2_with fail
  refine (rint_any 3 _).mono ?_
  rintro e w2 ⟨rfl, hb2⟩
  have b2 : Hid (Below w.heap.size w w2) := next_trans' hb1 hb2
  clear hb1 hb2
  obtain ⟨n2, Hn2⟩ : ∃ n2, w2.heap.size = n2 := ⟨_, rfl⟩
  have I2 : Hid (IsVals (w2.alloc (.cells #[.int .i64 1, .int .i64 2, .string ⟨#[]⟩, .int .i64 1, .int .i64 3, .string ⟨#[]⟩] 26)) (some ⟨n2, 0, none⟩) [⟨1, 2, ⟨#[]⟩⟩, ⟨1, 3, ⟨#[]⟩⟩]) := lit_vals w2 n2 [⟨1, 2, ⟨#[]⟩⟩, ⟨1, 3, ⟨#[]⟩⟩] Hn2.symm
  have T2 : Hid (TabW (w2.alloc (.cells #[.int .i64 1, .int .i64 2, .string ⟨#[]⟩, .int .i64 1, .int .i64 3, .string ⟨#[]⟩] 26))) := tab_alloc (tab_next HT.out b2.out)
  go_wp2_with fail
  refine (apply_any ⟨#[43]⟩ 1 5 0 ⟨#[]⟩ _ 2 2 _ _ rfl (by decide) I2.out (by intro v hv; simp at hv; rcases hv with rfl | rfl <;> exact right_i _ (by decide)) T2.out ap1).mono ?_
  rintro e w3 ⟨rfl, hb3⟩
  have b3 : Hid (Below w.heap.size w w3) := next_trans' (next_trans' b2.out (alloc_below' _ _)) hb3
  obtain ⟨n3, Hn3⟩ : ∃ n3, w3.heap.size = n3 := ⟨_, rfl⟩
  have c3 : Hid ((w3.alloc (.cells #[.int .i64 1, .int .i64 5, .string ⟨#[]⟩] 26)).cell? ⟨n3, 1, none⟩ = some (.int .i64 5)) := box_cell Hn3.symm rfl
  clear hb3 I2 T2 Hn2
  go_wp2_with fail
  refine (rint_any 2 _).mono ?_
  rintro e w4 ⟨rfl, hb4⟩
  go_wp2_with fail
  refine (rint_any 3 _).mono ?_
  rintro e w5 ⟨rfl, hb5⟩
  go_wp2_with fail
  refine (rint_any 3 _).mono ?_
  rintro e w6 ⟨rfl, hb6⟩
  have b6 : Hid (Below w.heap.size w w6) := next_trans' (next_trans' (next_trans' (next_trans' b3.out (alloc_below' _ _)) hb4) hb5) hb6
  have c6 : Hid (w6.cell? ⟨n3, 1, none⟩ = some (.int .i64 5)) := keep_cell hb6 (keep_cell hb5 (keep_cell hb4 c3.out))
  clear hb4 hb5 hb6 b3 c3 Hn3
  obtain ⟨n6, Hn6⟩ : ∃ n6, w6.heap.size = n6 := ⟨_, rfl⟩
  have I6 : Hid (IsVals (w6.alloc (.cells #[.int .i64 1, .int .i64 2, .string ⟨#[]⟩, .int .i64 1, .int .i64 3, .string ⟨#[]⟩, .int .i64 1, .int .i64 3, .string ⟨#[]⟩] 26)) (some ⟨n6, 0, none⟩) [⟨1, 2, ⟨#[]⟩⟩, ⟨1, 3, ⟨#[]⟩⟩, ⟨1, 3, ⟨#[]⟩⟩]) := lit_vals w6 n6 [⟨1, 2, ⟨#[]⟩⟩, ⟨1, 3, ⟨#[]⟩⟩, ⟨1, 3, ⟨#[]⟩⟩] Hn6.symm
  have T6 : Hid (TabW (w6.alloc (.cells #[.int .i64 1, .int .i64 2, .string ⟨#[]⟩, .int .i64 1, .int .i64 3, .string ⟨#[]⟩, .int .i64 1, .int .i64 3, .string ⟨#[]⟩] 26))) := tab_alloc (tab_next HT.out b6.out)
  go_wp2_with fail
  refine (apply_any ⟨#[60]⟩ 2 0 0 ⟨#[70, 65, 76, 83, 69]⟩ _ 3 3 _ _ rfl (by decide) I6.out (by intro v hv; simp at hv; rcases hv with rfl | rfl <;> exact right_i _ (by decide)) T6.out ap2).mono ?_
  rintro e w7 ⟨rfl, hb7⟩
  have b7 : Hid (Below w.heap.size w w7) := next_trans' (next_trans' b6.out (alloc_below' _ _)) hb7
  have c7 : Hid (w7.cell? ⟨n3, 1, none⟩ = some (.int .i64 5)) := keep_cell hb7 (alloc_cell c6.out)
  obtain ⟨n7, Hn7⟩ : ∃ n7, w7.heap.size = n7 := ⟨_, rfl⟩
  have d7 : Hid ((w7.alloc (.cells #[.int .i64 2, .int .i64 0, .string ⟨#[70, 65, 76, 83, 69]⟩] 26)).cell? ⟨n7, 2, none⟩ = some (.string ⟨#[70, 65, 76, 83, 69]⟩)) := box_cell Hn7.symm rfl
  have T7 : Hid (TabW (w7.alloc (.cells #[.int .i64 2, .int .i64 0, .string ⟨#[70, 65, 76, 83, 69]⟩] 26))) := tab_alloc (tab_next HT.out b7.out)
  clear hb7 I6 T6 Hn6 b6 c6
  go_wp2_with fail
  refine (apply_any ⟨#[110, 111, 112, 101]⟩ 0 0 5 ⟨#[]⟩ none 0 0 [] _ rfl (by decide) (IsVals.nil _ _) (by intro v hv; simp at hv) T7.out ap3).mono ?_
  rintro e w8 ⟨rfl, hb8⟩
  have b8 : Hid (Below w.heap.size w w8) := next_trans' (next_trans' b7.out (alloc_below' _ _)) hb8
  have c8 : Hid (w8.cell? ⟨n3, 1, none⟩ = some (.int .i64 5)) := keep_cell hb8 (alloc_cell c7.out)
  have d8 : Hid (w8.cell? ⟨n7, 2, none⟩ = some (.string ⟨#[70, 65, 76, 83, 69]⟩)) := keep_cell hb8 d7.out
  clear hb8 T7 b7 c7 d7 Hn7
  go_wp2_with fail
  refine (rsym_any ⟨#[97]⟩ _).mono ?_
  rintro e w9 ⟨rfl, hb9⟩
  have b9 : Hid (Below w.heap.size w w9) := next_trans' (next_trans' b8.out (alloc_below' _ _)) hb9
  have c9 : Hid (w9.cell? ⟨n3, 1, none⟩ = some (.int .i64 5)) := keep_cell hb9 (alloc_cell c8.out)
  have d9 : Hid (w9.cell? ⟨n7, 2, none⟩ = some (.string ⟨#[70, 65, 76, 83, 69]⟩)) := keep_cell hb9 (alloc_cell d8.out)
  clear hb9 b8 c8 d8
  obtain ⟨n9, Hn9⟩ : ∃ n9, w9.heap.size = n9 := ⟨_, rfl⟩
  have I9 : Hid (IsVals (w9.alloc (.cells #[.int .i64 2, .int .i64 0, .string ⟨#[97]⟩] 26)) (some ⟨n9, 0, none⟩) [⟨2, 0, ⟨#[97]⟩⟩]) := lit_vals w9 n9 [⟨2, 0, ⟨#[97]⟩⟩] Hn9.symm
  have T9 : Hid (TabW (w9.alloc (.cells #[.int .i64 2, .int .i64 0, .string ⟨#[97]⟩] 26))) := tab_alloc (tab_next HT.out b9.out)
  go_wp2_with fail
  refine (apply_any ⟨#[43]⟩ 0 0 8 ⟨#[]⟩ _ 1 1 _ _ rfl (by decide) I9.out (by intro v hv; simp at hv; subst hv; exact ⟨by decide, by decide⟩) T9.out ap4).mono ?_
  rintro e wa ⟨rfl, hba⟩
  have ba : Hid (Below w.heap.size w wa) := next_trans' (next_trans' b9.out (alloc_below' _ _)) hba
  have ca : wa.cell? ⟨n3, 1, none⟩ = some (.int .i64 5) := keep_cell hba (alloc_cell c9.out)
  have da : wa.cell? ⟨n7, 2, none⟩ = some (.string ⟨#[70, 65, 76, 83, 69]⟩) := keep_cell hba (alloc_cell d9.out)
  clear hba I9 T9 b9 c9 d9 Hn9
  have k1 := World.block_lt_of_cell? _ _ ca
  have k2 := World.block_lt_of_cell? _ _ da
  go_wp2_with (first
    | (go_at_call 13; refine (arity_any ⟨#[100, 105, 118]⟩ 2 2 _ (by decide) (by decide)).mono ?_; rintro e wb ⟨rfl, rfl⟩)
    | (go_at_call 16; refine (bknown_any ⟨#[115, 116, 114, 45, 99, 97, 116]⟩ true _ kn5).mono ?_; rintro e wb ⟨rfl, rfl⟩))
  refine (names_any _).mono ?_
  rintro e wd ⟨rfl, _, hbd⟩
  go_wp2
  go_ret
  exact ⟨rfl, next_trans' (next_trans' ba.out (alloc_below' _ _)) hbd⟩
end Go.Proofs.YtfglmfldpmpofaaDoor
