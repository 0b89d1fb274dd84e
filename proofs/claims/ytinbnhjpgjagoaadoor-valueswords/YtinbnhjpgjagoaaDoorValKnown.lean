/- The laws' common first look answers true. -/
import Derived.Test.YtinbnhjpgjagoaaDoorValText
import Derived.Test.YtinbnhjpgjagoaaDoorValRight2
import Derived.Test.YtinbnhjpgjagoaaDoorValCmp2
import Derived.Test.YtinbnhjpgjagoaaDoorValHash
import Derived.Test.YtinbnhjpgjagoaaDoorKeep
namespace Go.Proofs.YtinbnhjpgjagoaaDoor
open Go.RowKit

theorem itoa_one (d : Nat) (h : d < 10) : Lib.itoa (d : Int) = [UInt8.ofNat (48 + d)] := by
  unfold Lib.itoa
  rw [if_neg (by omega), show ((d : Int)).toNat = d by omega, Lib.decDigits_one h]
theorem hash_one (g : Nat) (v : Val) (X : ByteArray) (w : World) (hok : v.ok) (hX : hashS [v] = X) (h0 : w.cell? ⟨g, 0, none⟩ = some (.int .i64 v.k)) (h1 : w.cell? ⟨g, 1, none⟩ = some (.int .i64 v.i)) (h2 : w.cell? ⟨g, 2, none⟩ = some (.string v.s)) (ht : TabW w) :
    Calls Tryd.prog 14 #[.slice (some ⟨g, 0, none⟩) 1 1] w fun e w' => e = .returned (.string X) ∧ Below w.heap.size w w' := by
  rw [← hX]
  refine hash_any (some ⟨g, 0, none⟩) 1 [v] w ?_ ?_ (by simp) ht
  · intro j u hj
    match j, hj with
    | 0, hj =>
      simp at hj
      subst hj
      exact ⟨g, 0, rfl, by simpa using h0, by simpa using h1, by simpa using h2⟩
  · intro u hu
    simp at hu
    subst hu
    exact hok
def val5 : Val := ⟨1, 5, ⟨#[]⟩⟩
def valx : Val := ⟨2, 0, ⟨#[120]⟩⟩
theorem val5_ok : val5.ok := ⟨by decide, by decide, by decide⟩
theorem valx_ok : valx.ok := ⟨by decide, by decide, by decide⟩
theorem hash5 : hashS [val5] = ⟨#[49, 32, 53, 32, 48, 32]⟩ := by
  have a := itoa_one 1 (by decide)
  have b := itoa_one 5 (by decide)
  have c := itoa_one 0 (by decide)
  unfold hashS
  rw [show hashL [val5] = hashOne val5 ++ [] from rfl]
  unfold hashOne
  rw [show Lib.itoa val5.k = _ from a, show Lib.itoa val5.i = _ from b, show Lib.itoa (val5.s.size : Int) = _ from c]
  rfl
theorem hashx : hashS [valx] = ⟨#[50, 32, 48, 32, 49, 32, 120]⟩ := by
  have a := itoa_one 2 (by decide)
  have b := itoa_one 0 (by decide)
  have c := itoa_one 1 (by decide)
  unfold hashS
  rw [show hashL [valx] = hashOne valx ++ [] from rfl]
  unfold hashOne
  rw [show Lib.itoa valx.k = _ from a, show Lib.itoa valx.i = _ from b, show Lib.itoa (valx.s.size : Int) = _ from c]
  rfl

set_option maxHeartbeats 8000000 in
set_option maxRecDepth 100000 in
theorem known_yes (w : World) (ht : TabW w) : Calls Tryd.prog 7 #[] w fun e w' => e = .returned (.bool true) ∧ Below w.heap.size w w' := by
  obtain ⟨B, HB⟩ : ∃ B, Hid (w.heap.size = B) := ⟨_, rfl⟩
  go_enter Tryd.func7, Tryd.ntmps7
  go_wp2_with fail
  refine (of_int 5 _).mono ?_
  rintro e w1 ⟨rfl, hb1⟩
  go_wp2_with fail
  refine (of_sym ⟨#[120]⟩ _).mono ?_
  rintro e w2 ⟨rfl, hb2⟩
  go_wp2_with fail
  refine (of_str ⟨#[113, 34, 114]⟩ _).mono ?_
  rintro e w3 ⟨rfl, hb3⟩
  go_wp2_with fail
  obtain ⟨n1, hn1⟩ : ∃ n1, w1.heap.size = n1 := ⟨_, rfl⟩
  obtain ⟨n2, hn2⟩ : ∃ n2, w2.heap.size = n2 := ⟨_, rfl⟩
  obtain ⟨n3, hn3⟩ : ∃ n3, w3.heap.size = n3 := ⟨_, rfl⟩
  have z1 : B ≤ w1.heap.size := by have := hb1.size; have := HB.out; omega
  have z2 : B ≤ w2.heap.size := le_next (le_alloc z1) hb2
  have z3 : B ≤ w3.heap.size := le_next (le_alloc z2) hb3
  have b1 : Below B w w1 := by rw [← HB.out]; exact hb1
  have b2 : Below B w w2 := below_next (below_alloc b1 z1) hb2 (le_alloc z1)
  have b3 : Below B w w3 := below_next (below_alloc b2 z2) hb3 (le_alloc z2)
  have ca0 : (w3.alloc (.cells #[.int .i64 3, .int .i64 0, .string ⟨#[113, 34, 114]⟩] 23)).drew.cell? ⟨n1, 0, none⟩ = some (.int .i64 1) := alloc_cell (keep_cell hb3 (alloc_cell (keep_cell hb2 (box_cell (cs := #[.int .i64 1, .int .i64 5, .string ⟨#[]⟩]) hn1.symm rfl))))
  have ca1 : (w3.alloc (.cells #[.int .i64 3, .int .i64 0, .string ⟨#[113, 34, 114]⟩] 23)).drew.cell? ⟨n1, 1, none⟩ = some (.int .i64 5) := alloc_cell (keep_cell hb3 (alloc_cell (keep_cell hb2 (box_cell (cs := #[.int .i64 1, .int .i64 5, .string ⟨#[]⟩]) hn1.symm rfl))))
  have ca2 : (w3.alloc (.cells #[.int .i64 3, .int .i64 0, .string ⟨#[113, 34, 114]⟩] 23)).drew.cell? ⟨n1, 2, none⟩ = some (.string ⟨#[]⟩) := alloc_cell (keep_cell hb3 (alloc_cell (keep_cell hb2 (box_cell (cs := #[.int .i64 1, .int .i64 5, .string ⟨#[]⟩]) hn1.symm rfl))))
  have cb0 : (w3.alloc (.cells #[.int .i64 3, .int .i64 0, .string ⟨#[113, 34, 114]⟩] 23)).drew.cell? ⟨n2, 0, none⟩ = some (.int .i64 2) := alloc_cell (keep_cell hb3 (box_cell (cs := #[.int .i64 2, .int .i64 0, .string ⟨#[120]⟩]) hn2.symm rfl))
  have cb1 : (w3.alloc (.cells #[.int .i64 3, .int .i64 0, .string ⟨#[113, 34, 114]⟩] 23)).drew.cell? ⟨n2, 1, none⟩ = some (.int .i64 0) := alloc_cell (keep_cell hb3 (box_cell (cs := #[.int .i64 2, .int .i64 0, .string ⟨#[120]⟩]) hn2.symm rfl))
  have cb2 : (w3.alloc (.cells #[.int .i64 3, .int .i64 0, .string ⟨#[113, 34, 114]⟩] 23)).drew.cell? ⟨n2, 2, none⟩ = some (.string ⟨#[120]⟩) := alloc_cell (keep_cell hb3 (box_cell (cs := #[.int .i64 2, .int .i64 0, .string ⟨#[120]⟩]) hn2.symm rfl))
  have cc0 : (w3.alloc (.cells #[.int .i64 3, .int .i64 0, .string ⟨#[113, 34, 114]⟩] 23)).drew.cell? ⟨n3, 0, none⟩ = some (.int .i64 3) := box_cell (cs := #[.int .i64 3, .int .i64 0, .string ⟨#[113, 34, 114]⟩]) hn3.symm rfl
  have cc1 : (w3.alloc (.cells #[.int .i64 3, .int .i64 0, .string ⟨#[113, 34, 114]⟩] 23)).drew.cell? ⟨n3, 1, none⟩ = some (.int .i64 0) := box_cell (cs := #[.int .i64 3, .int .i64 0, .string ⟨#[113, 34, 114]⟩]) hn3.symm rfl
  have cc2 : (w3.alloc (.cells #[.int .i64 3, .int .i64 0, .string ⟨#[113, 34, 114]⟩] 23)).drew.cell? ⟨n3, 2, none⟩ = some (.string ⟨#[113, 34, 114]⟩) := box_cell (cs := #[.int .i64 3, .int .i64 0, .string ⟨#[113, 34, 114]⟩]) hn3.symm rfl
  have s0 : Below B w (w3.alloc (.cells #[.int .i64 3, .int .i64 0, .string ⟨#[113, 34, 114]⟩] 23)).drew := (below_alloc b3 z3).drew
  have s1 : B ≤ (w3.alloc (.cells #[.int .i64 3, .int .i64 0, .string ⟨#[113, 34, 114]⟩] 23)).drew.heap.size := le_alloc z3
  have s2 : TabW (w3.alloc (.cells #[.int .i64 3, .int .i64 0, .string ⟨#[113, 34, 114]⟩] 23)).drew := tab_from ht s0 (by rw [HB.out]; exact Nat.le_refl _)
  have q1 : sameB 1 5 ⟨#[]⟩ 1 5 ⟨#[]⟩ = true := sameB_refl _ _ _
  have q2 : sameB 1 5 ⟨#[]⟩ 2 0 ⟨#[120]⟩ = false := sameB_no (by decide)
  have q3 : trueB 1 5 ⟨#[]⟩ = true := by decide
  have q4 : trueB 2 0 ⟨#[70, 65, 76, 83, 69]⟩ = false := by decide
  have q5 : rightB 3 0 ⟨#[113, 34, 114]⟩ = true := by decide
  have q6 : rightB 2 0 ⟨#[53]⟩ = false := by decide
  have q8 : textS 2 0 ⟨#[120]⟩ = ⟨#[120]⟩ := rfl
  have q9 : textS 3 0 ⟨#[113, 34, 114]⟩ = ⟨#[34, 113, 92, 34, 114, 34]⟩ := by decide
  have q7 : cmpV 1 5 ⟨#[]⟩ 2 0 ⟨#[120]⟩ = -1 := by decide
  rw [hn1, hn2, hn3]
  go_region_held3 (fun w' => w'.cell? ⟨n1, 0, none⟩ = some (.int .i64 1) ∧ w'.cell? ⟨n1, 1, none⟩ = some (.int .i64 5) ∧ w'.cell? ⟨n1, 2, none⟩ = some (.string ⟨#[]⟩) ∧ w'.cell? ⟨n2, 0, none⟩ = some (.int .i64 2) ∧ w'.cell? ⟨n2, 1, none⟩ = some (.int .i64 0) ∧ w'.cell? ⟨n2, 2, none⟩ = some (.string ⟨#[120]⟩) ∧ w'.cell? ⟨n3, 0, none⟩ = some (.int .i64 3) ∧ w'.cell? ⟨n3, 1, none⟩ = some (.int .i64 0) ∧ w'.cell? ⟨n3, 2, none⟩ = some (.string ⟨#[113, 34, 114]⟩) ∧ Below B w w' ∧ B ≤ w'.heap.size ∧ TabW w')
    (((try dsimp only); go_split_ands; refine ⟨?_, ?_, ?_, ?_, ?_, ?_, ?_, ?_, ?_, ?_, ?_, ?_⟩ <;> first | assumption | exact keep_cell (by assumption) (by assumption) | exact alloc_cell (by assumption) | exact below_next (by assumption) (by assumption) (by assumption) | exact below_alloc (by assumption) (by assumption) | exact le_alloc (by assumption) | exact le_next (by assumption) (by assumption) | exact tab_alloc (by assumption) | exact tab_next (by assumption) (by assumption)))
    (first
      | (go_at_call 11; go_split_ands; refine (text_val _ _ _ _ (by decide) (by decide) (by assumption)).mono ?_; rintro e w' ⟨rfl, hb⟩)
      | (go_at_call 16; refine (compare_any _ _ _ _ _ _ _).mono ?_; rintro e w' ⟨rfl, hb⟩)
      | (go_at_call 28; refine (same_any _ _ _ _ _ _ _).mono ?_; rintro e w' ⟨rfl, hb⟩)
      | (go_at_call 26; refine (true_any _ _ _ _).mono ?_; rintro e w' ⟨rfl, hb⟩)
      | (go_at_call 20; refine (of_bool false _).mono ?_; rintro e w' ⟨rfl, hb⟩)
      | (go_at_call 18; refine (of_sym _ _).mono ?_; rintro e w' ⟨rfl, hb⟩)
      | (go_at_call 27; refine (right_any _ _ _ _ (by decide)).mono ?_; rintro e w' ⟨rfl, hb⟩)
      | (go_at_call 14; go_split_ands; first
          | (refine (hash_one _ val5 _ _ val5_ok hash5 ?_ ?_ ?_ ?_).mono ?_; (first | exact box0 (cs := #[.int .i64 1, .int .i64 5, .string ⟨#[]⟩]) rfl | exact box1 (cs := #[.int .i64 1, .int .i64 5, .string ⟨#[]⟩]) rfl | exact alloc_cell (box0 (cs := #[.int .i64 1, .int .i64 5, .string ⟨#[]⟩]) rfl) | (apply keep_cell; assumption; exact box1 (cs := #[.int .i64 1, .int .i64 5, .string ⟨#[]⟩]) rfl) | (apply keep_cell; assumption; exact alloc_cell (box0 (cs := #[.int .i64 1, .int .i64 5, .string ⟨#[]⟩]) rfl)) | (apply keep_cell; assumption; exact box0 (cs := #[.int .i64 1, .int .i64 5, .string ⟨#[]⟩]) rfl)); (first | exact box0 (cs := #[.int .i64 1, .int .i64 5, .string ⟨#[]⟩]) rfl | exact box1 (cs := #[.int .i64 1, .int .i64 5, .string ⟨#[]⟩]) rfl | exact alloc_cell (box0 (cs := #[.int .i64 1, .int .i64 5, .string ⟨#[]⟩]) rfl) | (apply keep_cell; assumption; exact box1 (cs := #[.int .i64 1, .int .i64 5, .string ⟨#[]⟩]) rfl) | (apply keep_cell; assumption; exact alloc_cell (box0 (cs := #[.int .i64 1, .int .i64 5, .string ⟨#[]⟩]) rfl)) | (apply keep_cell; assumption; exact box0 (cs := #[.int .i64 1, .int .i64 5, .string ⟨#[]⟩]) rfl)); (first | exact box0 (cs := #[.int .i64 1, .int .i64 5, .string ⟨#[]⟩]) rfl | exact box1 (cs := #[.int .i64 1, .int .i64 5, .string ⟨#[]⟩]) rfl | exact alloc_cell (box0 (cs := #[.int .i64 1, .int .i64 5, .string ⟨#[]⟩]) rfl) | (apply keep_cell; assumption; exact box1 (cs := #[.int .i64 1, .int .i64 5, .string ⟨#[]⟩]) rfl) | (apply keep_cell; assumption; exact alloc_cell (box0 (cs := #[.int .i64 1, .int .i64 5, .string ⟨#[]⟩]) rfl)) | (apply keep_cell; assumption; exact box0 (cs := #[.int .i64 1, .int .i64 5, .string ⟨#[]⟩]) rfl)); assumption; rintro e w' ⟨rfl, hb⟩)
          | (refine (hash_one _ valx _ _ valx_ok hashx ?_ ?_ ?_ ?_).mono ?_; (first | exact box0 (cs := #[.int .i64 2, .int .i64 0, .string ⟨#[120]⟩]) rfl | exact box1 (cs := #[.int .i64 2, .int .i64 0, .string ⟨#[120]⟩]) rfl | exact alloc_cell (box0 (cs := #[.int .i64 2, .int .i64 0, .string ⟨#[120]⟩]) rfl) | (apply keep_cell; assumption; exact box1 (cs := #[.int .i64 2, .int .i64 0, .string ⟨#[120]⟩]) rfl) | (apply keep_cell; assumption; exact alloc_cell (box0 (cs := #[.int .i64 2, .int .i64 0, .string ⟨#[120]⟩]) rfl)) | (apply keep_cell; assumption; exact box0 (cs := #[.int .i64 2, .int .i64 0, .string ⟨#[120]⟩]) rfl)); (first | exact box0 (cs := #[.int .i64 2, .int .i64 0, .string ⟨#[120]⟩]) rfl | exact box1 (cs := #[.int .i64 2, .int .i64 0, .string ⟨#[120]⟩]) rfl | exact alloc_cell (box0 (cs := #[.int .i64 2, .int .i64 0, .string ⟨#[120]⟩]) rfl) | (apply keep_cell; assumption; exact box1 (cs := #[.int .i64 2, .int .i64 0, .string ⟨#[120]⟩]) rfl) | (apply keep_cell; assumption; exact alloc_cell (box0 (cs := #[.int .i64 2, .int .i64 0, .string ⟨#[120]⟩]) rfl)) | (apply keep_cell; assumption; exact box0 (cs := #[.int .i64 2, .int .i64 0, .string ⟨#[120]⟩]) rfl)); (first | exact box0 (cs := #[.int .i64 2, .int .i64 0, .string ⟨#[120]⟩]) rfl | exact box1 (cs := #[.int .i64 2, .int .i64 0, .string ⟨#[120]⟩]) rfl | exact alloc_cell (box0 (cs := #[.int .i64 2, .int .i64 0, .string ⟨#[120]⟩]) rfl) | (apply keep_cell; assumption; exact box1 (cs := #[.int .i64 2, .int .i64 0, .string ⟨#[120]⟩]) rfl) | (apply keep_cell; assumption; exact alloc_cell (box0 (cs := #[.int .i64 2, .int .i64 0, .string ⟨#[120]⟩]) rfl)) | (apply keep_cell; assumption; exact box0 (cs := #[.int .i64 2, .int .i64 0, .string ⟨#[120]⟩]) rfl)); assumption; rintro e w' ⟨rfl, hb⟩)))
  all_goals
    go_split_ands
    go_wp2
    go_ret
    refine ⟨rfl, ?_⟩
    rw [HB.out]
    assumption
end Go.Proofs.YtinbnhjpgjagoaaDoor
