/- Contracts of what goes by a name alone: bounds, comparisons, sums of two. -/
import Derived.Test.YtfglmfldpmpofaaDoorBtMath
import Derived.Test.YtfglmfldpmpofaaDoorRefOps
import Derived.Test.YtfglmfldpmpofaaDoorValOf
import Derived.Test.YtfglmfldpmpofaaDoorProg
import Derived.WalkKit
namespace Go.Proofs.YtfglmfldpmpofaaDoor
open Go.RowKit

theorem ne_list {s : ByteArray} {l : List UInt8} (h : s ≠ ⟨l.toArray⟩) : (s.toList == l) = false := by
  rw [Lib.toList_data]
  cases e : (s.data.toList == l)
  · rfl
  · rw [beq_iff_eq] at e
    refine absurd ?_ h
    subst e
    rfl
/-- What is none is told apart from each name. -/
theorem none_tests {s : ByteArray} (h : s ≠ ⟨#[42]⟩ ∧ s ≠ ⟨#[43]⟩ ∧ s ≠ ⟨#[45]⟩ ∧ s ≠ ⟨#[60]⟩ ∧ s ≠ ⟨#[60, 61]⟩ ∧ s ≠ ⟨#[60, 62]⟩ ∧ s ≠ ⟨#[61]⟩ ∧ s ≠ ⟨#[62]⟩ ∧ s ≠ ⟨#[62, 61]⟩ ∧ s ≠ ⟨#[97, 98, 115]⟩ ∧ s ≠ ⟨#[100, 105, 118]⟩ ∧ s ≠ ⟨#[101, 113]⟩ ∧ s ≠ ⟨#[108, 101, 110, 103, 116, 104]⟩ ∧ s ≠ ⟨#[109, 97, 120]⟩ ∧ s ≠ ⟨#[109, 105, 110]⟩ ∧ s ≠ ⟨#[109, 111, 100]⟩ ∧ s ≠ ⟨#[110, 101, 113]⟩ ∧ s ≠ ⟨#[110, 111, 116]⟩ ∧ s ≠ ⟨#[115, 116, 114, 45, 99, 97, 116]⟩ ∧ s ≠ ⟨#[115, 121, 109, 45, 99, 97, 116]⟩ ∧ s ≠ ⟨#[116, 121, 112, 101]⟩) : (s.toList == [42]) = false ∧ (s.toList == [43]) = false ∧ (s.toList == [45]) = false ∧ (s.toList == [60]) = false ∧ (s.toList == [60, 61]) = false ∧ (s.toList == [60, 62]) = false ∧ (s.toList == [61]) = false ∧ (s.toList == [62]) = false ∧ (s.toList == [62, 61]) = false ∧ (s.toList == [97, 98, 115]) = false ∧ (s.toList == [100, 105, 118]) = false ∧ (s.toList == [101, 113]) = false ∧ (s.toList == [108, 101, 110, 103, 116, 104]) = false ∧ (s.toList == [109, 97, 120]) = false ∧ (s.toList == [109, 105, 110]) = false ∧ (s.toList == [109, 111, 100]) = false ∧ (s.toList == [110, 101, 113]) = false ∧ (s.toList == [110, 111, 116]) = false ∧ (s.toList == [115, 116, 114, 45, 99, 97, 116]) = false ∧ (s.toList == [115, 121, 109, 45, 99, 97, 116]) = false ∧ (s.toList == [116, 121, 112, 101]) = false := by
  obtain ⟨h0, h1, h2, h3, h4, h5, h6, h7, h8, h9, h10, h11, h12, h13, h14, h15, h16, h17, h18, h19, h20⟩ := h
  exact ⟨ne_list h0, ne_list h1, ne_list h2, ne_list h3, ne_list h4, ne_list h5, ne_list h6, ne_list h7, ne_list h8, ne_list h9, ne_list h10, ne_list h11, ne_list h12, ne_list h13, ne_list h14, ne_list h15, ne_list h16, ne_list h17, ne_list h18, ne_list h19, ne_list h20⟩
set_option maxRecDepth 4000 in
theorem arity_0 (w : World) :
    Calls Tryd.prog 13 #[.string ⟨#[42]⟩] w fun e w' => e = .returned (.tuple #[.int .i64 0, .int .i64 (-1)]) ∧ w' = w := by
  go_enter Tryd.func13, Tryd.ntmps13
  go_wp2
  go_ret2
  exact ⟨rfl, rfl⟩
set_option maxRecDepth 4000 in
theorem arity_1 (w : World) :
    Calls Tryd.prog 13 #[.string ⟨#[43]⟩] w fun e w' => e = .returned (.tuple #[.int .i64 0, .int .i64 (-1)]) ∧ w' = w := by
  go_enter Tryd.func13, Tryd.ntmps13
  go_wp2
  go_ret2
  exact ⟨rfl, rfl⟩
set_option maxRecDepth 4000 in
theorem arity_2 (w : World) :
    Calls Tryd.prog 13 #[.string ⟨#[45]⟩] w fun e w' => e = .returned (.tuple #[.int .i64 1, .int .i64 (-1)]) ∧ w' = w := by
  go_enter Tryd.func13, Tryd.ntmps13
  go_wp2
  go_ret2
  exact ⟨rfl, rfl⟩
set_option maxRecDepth 4000 in
theorem arity_3 (w : World) :
    Calls Tryd.prog 13 #[.string ⟨#[60]⟩] w fun e w' => e = .returned (.tuple #[.int .i64 2, .int .i64 (-1)]) ∧ w' = w := by
  go_enter Tryd.func13, Tryd.ntmps13
  go_wp2
  go_ret2
  exact ⟨rfl, rfl⟩
set_option maxRecDepth 4000 in
theorem arity_4 (w : World) :
    Calls Tryd.prog 13 #[.string ⟨#[60, 61]⟩] w fun e w' => e = .returned (.tuple #[.int .i64 2, .int .i64 (-1)]) ∧ w' = w := by
  go_enter Tryd.func13, Tryd.ntmps13
  go_wp2
  go_ret2
  exact ⟨rfl, rfl⟩
set_option maxRecDepth 4000 in
theorem arity_5 (w : World) :
    Calls Tryd.prog 13 #[.string ⟨#[60, 62]⟩] w fun e w' => e = .returned (.tuple #[.int .i64 2, .int .i64 (2)]) ∧ w' = w := by
  go_enter Tryd.func13, Tryd.ntmps13
  go_wp2
  go_ret2
  exact ⟨rfl, rfl⟩
set_option maxRecDepth 4000 in
theorem arity_6 (w : World) :
    Calls Tryd.prog 13 #[.string ⟨#[61]⟩] w fun e w' => e = .returned (.tuple #[.int .i64 2, .int .i64 (2)]) ∧ w' = w := by
  go_enter Tryd.func13, Tryd.ntmps13
  go_wp2
  go_ret2
  exact ⟨rfl, rfl⟩
set_option maxRecDepth 4000 in
theorem arity_7 (w : World) :
    Calls Tryd.prog 13 #[.string ⟨#[62]⟩] w fun e w' => e = .returned (.tuple #[.int .i64 2, .int .i64 (-1)]) ∧ w' = w := by
  go_enter Tryd.func13, Tryd.ntmps13
  go_wp2
  go_ret2
  exact ⟨rfl, rfl⟩
set_option maxRecDepth 4000 in
theorem arity_8 (w : World) :
    Calls Tryd.prog 13 #[.string ⟨#[62, 61]⟩] w fun e w' => e = .returned (.tuple #[.int .i64 2, .int .i64 (-1)]) ∧ w' = w := by
  go_enter Tryd.func13, Tryd.ntmps13
  go_wp2
  go_ret2
  exact ⟨rfl, rfl⟩
set_option maxRecDepth 4000 in
theorem arity_9 (w : World) :
    Calls Tryd.prog 13 #[.string ⟨#[97, 98, 115]⟩] w fun e w' => e = .returned (.tuple #[.int .i64 1, .int .i64 (1)]) ∧ w' = w := by
  go_enter Tryd.func13, Tryd.ntmps13
  go_wp2
  go_ret2
  exact ⟨rfl, rfl⟩
set_option maxRecDepth 4000 in
theorem arity_10 (w : World) :
    Calls Tryd.prog 13 #[.string ⟨#[100, 105, 118]⟩] w fun e w' => e = .returned (.tuple #[.int .i64 2, .int .i64 (2)]) ∧ w' = w := by
  go_enter Tryd.func13, Tryd.ntmps13
  go_wp2
  go_ret2
  exact ⟨rfl, rfl⟩
set_option maxRecDepth 4000 in
theorem arity_11 (w : World) :
    Calls Tryd.prog 13 #[.string ⟨#[101, 113]⟩] w fun e w' => e = .returned (.tuple #[.int .i64 2, .int .i64 (2)]) ∧ w' = w := by
  go_enter Tryd.func13, Tryd.ntmps13
  go_wp2
  go_ret2
  exact ⟨rfl, rfl⟩
set_option maxRecDepth 4000 in
theorem arity_12 (w : World) :
    Calls Tryd.prog 13 #[.string ⟨#[108, 101, 110, 103, 116, 104]⟩] w fun e w' => e = .returned (.tuple #[.int .i64 1, .int .i64 (1)]) ∧ w' = w := by
  go_enter Tryd.func13, Tryd.ntmps13
  go_wp2
  go_ret2
  exact ⟨rfl, rfl⟩
set_option maxRecDepth 4000 in
theorem arity_13 (w : World) :
    Calls Tryd.prog 13 #[.string ⟨#[109, 97, 120]⟩] w fun e w' => e = .returned (.tuple #[.int .i64 1, .int .i64 (-1)]) ∧ w' = w := by
  go_enter Tryd.func13, Tryd.ntmps13
  go_wp2
  go_ret2
  exact ⟨rfl, rfl⟩
set_option maxRecDepth 4000 in
theorem arity_14 (w : World) :
    Calls Tryd.prog 13 #[.string ⟨#[109, 105, 110]⟩] w fun e w' => e = .returned (.tuple #[.int .i64 1, .int .i64 (-1)]) ∧ w' = w := by
  go_enter Tryd.func13, Tryd.ntmps13
  go_wp2
  go_ret2
  exact ⟨rfl, rfl⟩
set_option maxRecDepth 4000 in
theorem arity_15 (w : World) :
    Calls Tryd.prog 13 #[.string ⟨#[109, 111, 100]⟩] w fun e w' => e = .returned (.tuple #[.int .i64 2, .int .i64 (2)]) ∧ w' = w := by
  go_enter Tryd.func13, Tryd.ntmps13
  go_wp2
  go_ret2
  exact ⟨rfl, rfl⟩
set_option maxRecDepth 4000 in
theorem arity_16 (w : World) :
    Calls Tryd.prog 13 #[.string ⟨#[110, 101, 113]⟩] w fun e w' => e = .returned (.tuple #[.int .i64 2, .int .i64 (2)]) ∧ w' = w := by
  go_enter Tryd.func13, Tryd.ntmps13
  go_wp2
  go_ret2
  exact ⟨rfl, rfl⟩
set_option maxRecDepth 4000 in
theorem arity_17 (w : World) :
    Calls Tryd.prog 13 #[.string ⟨#[110, 111, 116]⟩] w fun e w' => e = .returned (.tuple #[.int .i64 1, .int .i64 (1)]) ∧ w' = w := by
  go_enter Tryd.func13, Tryd.ntmps13
  go_wp2
  go_ret2
  exact ⟨rfl, rfl⟩
set_option maxRecDepth 4000 in
theorem arity_18 (w : World) :
    Calls Tryd.prog 13 #[.string ⟨#[115, 116, 114, 45, 99, 97, 116]⟩] w fun e w' => e = .returned (.tuple #[.int .i64 0, .int .i64 (-1)]) ∧ w' = w := by
  go_enter Tryd.func13, Tryd.ntmps13
  go_wp2
  go_ret2
  exact ⟨rfl, rfl⟩
set_option maxRecDepth 4000 in
theorem arity_19 (w : World) :
    Calls Tryd.prog 13 #[.string ⟨#[115, 121, 109, 45, 99, 97, 116]⟩] w fun e w' => e = .returned (.tuple #[.int .i64 1, .int .i64 (-1)]) ∧ w' = w := by
  go_enter Tryd.func13, Tryd.ntmps13
  go_wp2
  go_ret2
  exact ⟨rfl, rfl⟩
set_option maxRecDepth 4000 in
theorem arity_20 (w : World) :
    Calls Tryd.prog 13 #[.string ⟨#[116, 121, 112, 101]⟩] w fun e w' => e = .returned (.tuple #[.int .i64 1, .int .i64 (1)]) ∧ w' = w := by
  go_enter Tryd.func13, Tryd.ntmps13
  go_wp2
  go_ret2
  exact ⟨rfl, rfl⟩
set_option maxRecDepth 4000 in
theorem arity_none (s : ByteArray) (w : World) (h : s ≠ ⟨#[42]⟩ ∧ s ≠ ⟨#[43]⟩ ∧ s ≠ ⟨#[45]⟩ ∧ s ≠ ⟨#[60]⟩ ∧ s ≠ ⟨#[60, 61]⟩ ∧ s ≠ ⟨#[60, 62]⟩ ∧ s ≠ ⟨#[61]⟩ ∧ s ≠ ⟨#[62]⟩ ∧ s ≠ ⟨#[62, 61]⟩ ∧ s ≠ ⟨#[97, 98, 115]⟩ ∧ s ≠ ⟨#[100, 105, 118]⟩ ∧ s ≠ ⟨#[101, 113]⟩ ∧ s ≠ ⟨#[108, 101, 110, 103, 116, 104]⟩ ∧ s ≠ ⟨#[109, 97, 120]⟩ ∧ s ≠ ⟨#[109, 105, 110]⟩ ∧ s ≠ ⟨#[109, 111, 100]⟩ ∧ s ≠ ⟨#[110, 101, 113]⟩ ∧ s ≠ ⟨#[110, 111, 116]⟩ ∧ s ≠ ⟨#[115, 116, 114, 45, 99, 97, 116]⟩ ∧ s ≠ ⟨#[115, 121, 109, 45, 99, 97, 116]⟩ ∧ s ≠ ⟨#[116, 121, 112, 101]⟩) :
    Calls Tryd.prog 13 #[.string s] w fun e w' => e = .returned (.tuple #[.int .i64 0, .int .i64 0]) ∧ w' = w := by
  obtain ⟨h0, h1, h2, h3, h4, h5, h6, h7, h8, h9, h10, h11, h12, h13, h14, h15, h16, h17, h18, h19, h20⟩ := none_tests h
  clear h
  go_enter Tryd.func13, Tryd.ntmps13
  go_wp2
  go_ret2
  exact ⟨rfl, rfl⟩
theorem arity_any (s : ByteArray) (lo hi : Int) (w : World) (hl : loC (code s) = lo) (hh : hiC (code s) = hi) :
    Calls Tryd.prog 13 #[.string s] w fun e w' => e = .returned (.tuple #[.int .i64 lo, .int .i64 hi]) ∧ w' = w := by
  subst hl hh
  rcases code_cases s with rfl | rfl | rfl | rfl | rfl | rfl | rfl | rfl | rfl | rfl | rfl | rfl | rfl | rfl | rfl | rfl | rfl | rfl | rfl | rfl | rfl | hn
  · exact arity_0 w
  · exact arity_1 w
  · exact arity_2 w
  · exact arity_3 w
  · exact arity_4 w
  · exact arity_5 w
  · exact arity_6 w
  · exact arity_7 w
  · exact arity_8 w
  · exact arity_9 w
  · exact arity_10 w
  · exact arity_11 w
  · exact arity_12 w
  · exact arity_13 w
  · exact arity_14 w
  · exact arity_15 w
  · exact arity_16 w
  · exact arity_17 w
  · exact arity_18 w
  · exact arity_19 w
  · exact arity_20 w
  · rw [code_none hn]; exact arity_none s w hn
set_option maxRecDepth 4000 in
theorem rarity_0 (w : World) :
    Calls Tryd.prog 14 #[.string ⟨#[42]⟩] w fun e w' => e = .returned (.tuple #[.int .i64 0, .int .i64 (-1)]) ∧ w' = w := by
  go_enter Tryd.func14, Tryd.ntmps14
  go_wp2
  go_ret2
  exact ⟨rfl, rfl⟩
set_option maxRecDepth 4000 in
theorem rarity_1 (w : World) :
    Calls Tryd.prog 14 #[.string ⟨#[43]⟩] w fun e w' => e = .returned (.tuple #[.int .i64 0, .int .i64 (-1)]) ∧ w' = w := by
  go_enter Tryd.func14, Tryd.ntmps14
  go_wp2
  go_ret2
  exact ⟨rfl, rfl⟩
set_option maxRecDepth 4000 in
theorem rarity_2 (w : World) :
    Calls Tryd.prog 14 #[.string ⟨#[45]⟩] w fun e w' => e = .returned (.tuple #[.int .i64 1, .int .i64 (-1)]) ∧ w' = w := by
  go_enter Tryd.func14, Tryd.ntmps14
  go_wp2
  go_ret2
  exact ⟨rfl, rfl⟩
set_option maxRecDepth 4000 in
theorem rarity_3 (w : World) :
    Calls Tryd.prog 14 #[.string ⟨#[60]⟩] w fun e w' => e = .returned (.tuple #[.int .i64 2, .int .i64 (-1)]) ∧ w' = w := by
  go_enter Tryd.func14, Tryd.ntmps14
  go_wp2
  go_ret2
  exact ⟨rfl, rfl⟩
set_option maxRecDepth 4000 in
theorem rarity_4 (w : World) :
    Calls Tryd.prog 14 #[.string ⟨#[60, 61]⟩] w fun e w' => e = .returned (.tuple #[.int .i64 2, .int .i64 (-1)]) ∧ w' = w := by
  go_enter Tryd.func14, Tryd.ntmps14
  go_wp2
  go_ret2
  exact ⟨rfl, rfl⟩
set_option maxRecDepth 4000 in
theorem rarity_5 (w : World) :
    Calls Tryd.prog 14 #[.string ⟨#[60, 62]⟩] w fun e w' => e = .returned (.tuple #[.int .i64 2, .int .i64 (2)]) ∧ w' = w := by
  go_enter Tryd.func14, Tryd.ntmps14
  go_wp2
  go_ret2
  exact ⟨rfl, rfl⟩
set_option maxRecDepth 4000 in
theorem rarity_6 (w : World) :
    Calls Tryd.prog 14 #[.string ⟨#[61]⟩] w fun e w' => e = .returned (.tuple #[.int .i64 2, .int .i64 (2)]) ∧ w' = w := by
  go_enter Tryd.func14, Tryd.ntmps14
  go_wp2
  go_ret2
  exact ⟨rfl, rfl⟩
set_option maxRecDepth 4000 in
theorem rarity_7 (w : World) :
    Calls Tryd.prog 14 #[.string ⟨#[62]⟩] w fun e w' => e = .returned (.tuple #[.int .i64 2, .int .i64 (-1)]) ∧ w' = w := by
  go_enter Tryd.func14, Tryd.ntmps14
  go_wp2
  go_ret2
  exact ⟨rfl, rfl⟩
set_option maxRecDepth 4000 in
theorem rarity_8 (w : World) :
    Calls Tryd.prog 14 #[.string ⟨#[62, 61]⟩] w fun e w' => e = .returned (.tuple #[.int .i64 2, .int .i64 (-1)]) ∧ w' = w := by
  go_enter Tryd.func14, Tryd.ntmps14
  go_wp2
  go_ret2
  exact ⟨rfl, rfl⟩
set_option maxRecDepth 4000 in
theorem rarity_9 (w : World) :
    Calls Tryd.prog 14 #[.string ⟨#[97, 98, 115]⟩] w fun e w' => e = .returned (.tuple #[.int .i64 1, .int .i64 (1)]) ∧ w' = w := by
  go_enter Tryd.func14, Tryd.ntmps14
  go_wp2
  go_ret2
  exact ⟨rfl, rfl⟩
set_option maxRecDepth 4000 in
theorem rarity_10 (w : World) :
    Calls Tryd.prog 14 #[.string ⟨#[100, 105, 118]⟩] w fun e w' => e = .returned (.tuple #[.int .i64 2, .int .i64 (2)]) ∧ w' = w := by
  go_enter Tryd.func14, Tryd.ntmps14
  go_wp2
  go_ret2
  exact ⟨rfl, rfl⟩
set_option maxRecDepth 4000 in
theorem rarity_11 (w : World) :
    Calls Tryd.prog 14 #[.string ⟨#[101, 113]⟩] w fun e w' => e = .returned (.tuple #[.int .i64 2, .int .i64 (2)]) ∧ w' = w := by
  go_enter Tryd.func14, Tryd.ntmps14
  go_wp2
  go_ret2
  exact ⟨rfl, rfl⟩
set_option maxRecDepth 4000 in
theorem rarity_12 (w : World) :
    Calls Tryd.prog 14 #[.string ⟨#[108, 101, 110, 103, 116, 104]⟩] w fun e w' => e = .returned (.tuple #[.int .i64 1, .int .i64 (1)]) ∧ w' = w := by
  go_enter Tryd.func14, Tryd.ntmps14
  go_wp2
  go_ret2
  exact ⟨rfl, rfl⟩
set_option maxRecDepth 4000 in
theorem rarity_13 (w : World) :
    Calls Tryd.prog 14 #[.string ⟨#[109, 97, 120]⟩] w fun e w' => e = .returned (.tuple #[.int .i64 1, .int .i64 (-1)]) ∧ w' = w := by
  go_enter Tryd.func14, Tryd.ntmps14
  go_wp2
  go_ret2
  exact ⟨rfl, rfl⟩
set_option maxRecDepth 4000 in
theorem rarity_14 (w : World) :
    Calls Tryd.prog 14 #[.string ⟨#[109, 105, 110]⟩] w fun e w' => e = .returned (.tuple #[.int .i64 1, .int .i64 (-1)]) ∧ w' = w := by
  go_enter Tryd.func14, Tryd.ntmps14
  go_wp2
  go_ret2
  exact ⟨rfl, rfl⟩
set_option maxRecDepth 4000 in
theorem rarity_15 (w : World) :
    Calls Tryd.prog 14 #[.string ⟨#[109, 111, 100]⟩] w fun e w' => e = .returned (.tuple #[.int .i64 2, .int .i64 (2)]) ∧ w' = w := by
  go_enter Tryd.func14, Tryd.ntmps14
  go_wp2
  go_ret2
  exact ⟨rfl, rfl⟩
set_option maxRecDepth 4000 in
theorem rarity_16 (w : World) :
    Calls Tryd.prog 14 #[.string ⟨#[110, 101, 113]⟩] w fun e w' => e = .returned (.tuple #[.int .i64 2, .int .i64 (2)]) ∧ w' = w := by
  go_enter Tryd.func14, Tryd.ntmps14
  go_wp2
  go_ret2
  exact ⟨rfl, rfl⟩
set_option maxRecDepth 4000 in
theorem rarity_17 (w : World) :
    Calls Tryd.prog 14 #[.string ⟨#[110, 111, 116]⟩] w fun e w' => e = .returned (.tuple #[.int .i64 1, .int .i64 (1)]) ∧ w' = w := by
  go_enter Tryd.func14, Tryd.ntmps14
  go_wp2
  go_ret2
  exact ⟨rfl, rfl⟩
set_option maxRecDepth 4000 in
theorem rarity_18 (w : World) :
    Calls Tryd.prog 14 #[.string ⟨#[115, 116, 114, 45, 99, 97, 116]⟩] w fun e w' => e = .returned (.tuple #[.int .i64 0, .int .i64 (-1)]) ∧ w' = w := by
  go_enter Tryd.func14, Tryd.ntmps14
  go_wp2
  go_ret2
  exact ⟨rfl, rfl⟩
set_option maxRecDepth 4000 in
theorem rarity_19 (w : World) :
    Calls Tryd.prog 14 #[.string ⟨#[115, 121, 109, 45, 99, 97, 116]⟩] w fun e w' => e = .returned (.tuple #[.int .i64 1, .int .i64 (-1)]) ∧ w' = w := by
  go_enter Tryd.func14, Tryd.ntmps14
  go_wp2
  go_ret2
  exact ⟨rfl, rfl⟩
set_option maxRecDepth 4000 in
theorem rarity_20 (w : World) :
    Calls Tryd.prog 14 #[.string ⟨#[116, 121, 112, 101]⟩] w fun e w' => e = .returned (.tuple #[.int .i64 1, .int .i64 (1)]) ∧ w' = w := by
  go_enter Tryd.func14, Tryd.ntmps14
  go_wp2
  go_ret2
  exact ⟨rfl, rfl⟩
set_option maxRecDepth 4000 in
theorem rarity_none (s : ByteArray) (w : World) (h : s ≠ ⟨#[42]⟩ ∧ s ≠ ⟨#[43]⟩ ∧ s ≠ ⟨#[45]⟩ ∧ s ≠ ⟨#[60]⟩ ∧ s ≠ ⟨#[60, 61]⟩ ∧ s ≠ ⟨#[60, 62]⟩ ∧ s ≠ ⟨#[61]⟩ ∧ s ≠ ⟨#[62]⟩ ∧ s ≠ ⟨#[62, 61]⟩ ∧ s ≠ ⟨#[97, 98, 115]⟩ ∧ s ≠ ⟨#[100, 105, 118]⟩ ∧ s ≠ ⟨#[101, 113]⟩ ∧ s ≠ ⟨#[108, 101, 110, 103, 116, 104]⟩ ∧ s ≠ ⟨#[109, 97, 120]⟩ ∧ s ≠ ⟨#[109, 105, 110]⟩ ∧ s ≠ ⟨#[109, 111, 100]⟩ ∧ s ≠ ⟨#[110, 101, 113]⟩ ∧ s ≠ ⟨#[110, 111, 116]⟩ ∧ s ≠ ⟨#[115, 116, 114, 45, 99, 97, 116]⟩ ∧ s ≠ ⟨#[115, 121, 109, 45, 99, 97, 116]⟩ ∧ s ≠ ⟨#[116, 121, 112, 101]⟩) :
    Calls Tryd.prog 14 #[.string s] w fun e w' => e = .returned (.tuple #[.int .i64 0, .int .i64 0]) ∧ w' = w := by
  obtain ⟨h0, h1, h2, h3, h4, h5, h6, h7, h8, h9, h10, h11, h12, h13, h14, h15, h16, h17, h18, h19, h20⟩ := none_tests h
  clear h
  go_enter Tryd.func14, Tryd.ntmps14
  go_wp2
  go_ret2
  exact ⟨rfl, rfl⟩
theorem rarity_any (s : ByteArray) (lo hi : Int) (w : World) (hl : loC (code s) = lo) (hh : hiC (code s) = hi) :
    Calls Tryd.prog 14 #[.string s] w fun e w' => e = .returned (.tuple #[.int .i64 lo, .int .i64 hi]) ∧ w' = w := by
  subst hl hh
  rcases code_cases s with rfl | rfl | rfl | rfl | rfl | rfl | rfl | rfl | rfl | rfl | rfl | rfl | rfl | rfl | rfl | rfl | rfl | rfl | rfl | rfl | rfl | hn
  · exact rarity_0 w
  · exact rarity_1 w
  · exact rarity_2 w
  · exact rarity_3 w
  · exact rarity_4 w
  · exact rarity_5 w
  · exact rarity_6 w
  · exact rarity_7 w
  · exact rarity_8 w
  · exact rarity_9 w
  · exact rarity_10 w
  · exact rarity_11 w
  · exact rarity_12 w
  · exact rarity_13 w
  · exact rarity_14 w
  · exact rarity_15 w
  · exact rarity_16 w
  · exact rarity_17 w
  · exact rarity_18 w
  · exact rarity_19 w
  · exact rarity_20 w
  · rw [code_none hn]; exact rarity_none s w hn
theorem hi_none {c : Nat} (h : c < 21) : hiC c ≠ 0 := by
  unfold hiC
  split
  · decide
  split
  · omega
  split <;> decide
theorem code_le (s : ByteArray) : code s ≤ 21 := by
  by_cases h : code s = 21
  · omega
  · have := (code_lt h).2; omega
/-- Is it a name? -/
def knownB (s : ByteArray) : Bool := decide (code s ≠ 21)
theorem bknown_any (s : ByteArray) (b : Bool) (w : World) (hb : knownB s = b) :
    Calls Tryd.prog 16 #[.string s] w fun e w' => e = .returned (.bool b) ∧ w' = w := by
  have hx : (hiC (code s) != 0) = b := by
    rw [← hb]
    unfold knownB
    by_cases h : code s = 21
    · rw [h]; rfl
    · have h1 := hi_none (c := code s) (by have := code_le s; omega)
      rw [decide_eq_true h]
      simpa using h1
  obtain ⟨lo, HL⟩ : ∃ lo, Hid (loC (code s) = lo) := ⟨_, rfl⟩
  obtain ⟨hi, HH⟩ : ∃ hi, Hid (hiC (code s) = hi) := ⟨_, rfl⟩
  rw [HH.out] at hx
  go_enter Tryd.func16, Tryd.ntmps16
  go_wp2_with (go_at_call 13; refine (arity_any s lo hi _ HL.out HH.out).mono ?_; rintro e w' ⟨rfl, rfl⟩)
  go_ret
  exact ⟨rfl, rfl⟩
theorem fit_is (c : Nat) (n : Nat) (lo hi : Int) (hl : loC c = lo) (hh : hiC c = hi) : fitC c n = decide (lo ≤ (n : Int) ∧ (hi < 0 ∨ (n : Int) ≤ hi)) := by subst hl hh; rfl

set_option maxRecDepth 4000 in
theorem stand_6 (a b : Int) (r : Bool) (w : World) (hr : standB 6 a b = r) :
    Calls Tryd.prog 63 #[.string ⟨#[61]⟩, .int .i64 a, .int .i64 b] w fun e w' => e = .returned (.bool r) ∧ w' = w := by
  have hd : decide (a = b) = r := hr
  clear hr
  by_cases c1 : a = b
  · subst c1
    go_enter Tryd.func63, Tryd.ntmps63
    go_wp2
    go_ret
    refine ⟨ret_b ?_, rfl⟩
    rw [← hd]; simp
  · by_cases c2 : a < b
    · have d1 : (a == b) = false := by simpa using c1
      have d2 : (a != b) = true := by simpa using c1
      go_enter Tryd.func63, Tryd.ntmps63
      go_wp2
      go_ret
      refine ⟨ret_b ?_, rfl⟩
      rw [← hd]; first | rfl | exact (decide_eq_true (by omega)).symm | exact (decide_eq_false (by omega)).symm | (simp; omega) | (trace_state; done)
    · have d1 : (a == b) = false := by simpa using c1
      have d2 : (a != b) = true := by simpa using c1
      have c3 : b < a := by omega
      go_enter Tryd.func63, Tryd.ntmps63
      go_wp2
      go_ret
      refine ⟨ret_b ?_, rfl⟩
      rw [← hd]; first | rfl | exact (decide_eq_true (by omega)).symm | exact (decide_eq_false (by omega)).symm | (simp; omega) | (trace_state; done)
set_option maxRecDepth 4000 in
theorem stand_5 (a b : Int) (r : Bool) (w : World) (hr : standB 5 a b = r) :
    Calls Tryd.prog 63 #[.string ⟨#[60, 62]⟩, .int .i64 a, .int .i64 b] w fun e w' => e = .returned (.bool r) ∧ w' = w := by
  have hd : decide (a ≠ b) = r := hr
  clear hr
  by_cases c1 : a = b
  · subst c1
    go_enter Tryd.func63, Tryd.ntmps63
    go_wp2
    go_ret
    refine ⟨ret_b ?_, rfl⟩
    rw [← hd]; simp
  · by_cases c2 : a < b
    · have d1 : (a == b) = false := by simpa using c1
      have d2 : (a != b) = true := by simpa using c1
      go_enter Tryd.func63, Tryd.ntmps63
      go_wp2
      go_ret
      refine ⟨ret_b ?_, rfl⟩
      rw [← hd]; first | rfl | exact (decide_eq_true (by omega)).symm | exact (decide_eq_false (by omega)).symm | (simp; omega) | (trace_state; done)
    · have d1 : (a == b) = false := by simpa using c1
      have d2 : (a != b) = true := by simpa using c1
      have c3 : b < a := by omega
      go_enter Tryd.func63, Tryd.ntmps63
      go_wp2
      go_ret
      refine ⟨ret_b ?_, rfl⟩
      rw [← hd]; first | rfl | exact (decide_eq_true (by omega)).symm | exact (decide_eq_false (by omega)).symm | (simp; omega) | (trace_state; done)
set_option maxRecDepth 4000 in
theorem stand_3 (a b : Int) (r : Bool) (w : World) (hr : standB 3 a b = r) :
    Calls Tryd.prog 63 #[.string ⟨#[60]⟩, .int .i64 a, .int .i64 b] w fun e w' => e = .returned (.bool r) ∧ w' = w := by
  have hd : decide (a < b) = r := hr
  clear hr
  by_cases c1 : a = b
  · subst c1
    go_enter Tryd.func63, Tryd.ntmps63
    go_wp2
    go_ret
    refine ⟨ret_b ?_, rfl⟩
    rw [← hd]; simp
  · by_cases c2 : a < b
    · have d1 : (a == b) = false := by simpa using c1
      have d2 : (a != b) = true := by simpa using c1
      go_enter Tryd.func63, Tryd.ntmps63
      go_wp2
      go_ret
      refine ⟨ret_b ?_, rfl⟩
      rw [← hd]; first | rfl | exact (decide_eq_true (by omega)).symm | exact (decide_eq_false (by omega)).symm | (simp; omega) | (trace_state; done)
    · have d1 : (a == b) = false := by simpa using c1
      have d2 : (a != b) = true := by simpa using c1
      have c3 : b < a := by omega
      go_enter Tryd.func63, Tryd.ntmps63
      go_wp2
      go_ret
      refine ⟨ret_b ?_, rfl⟩
      rw [← hd]; first | rfl | exact (decide_eq_true (by omega)).symm | exact (decide_eq_false (by omega)).symm | (simp; omega) | (trace_state; done)
set_option maxRecDepth 4000 in
theorem stand_4 (a b : Int) (r : Bool) (w : World) (hr : standB 4 a b = r) :
    Calls Tryd.prog 63 #[.string ⟨#[60, 61]⟩, .int .i64 a, .int .i64 b] w fun e w' => e = .returned (.bool r) ∧ w' = w := by
  have hd : decide (a ≤ b) = r := hr
  clear hr
  by_cases c1 : a = b
  · subst c1
    go_enter Tryd.func63, Tryd.ntmps63
    go_wp2
    go_ret
    refine ⟨ret_b ?_, rfl⟩
    rw [← hd]; simp
  · by_cases c2 : a < b
    · have d1 : (a == b) = false := by simpa using c1
      have d2 : (a != b) = true := by simpa using c1
      go_enter Tryd.func63, Tryd.ntmps63
      go_wp2
      go_ret
      refine ⟨ret_b ?_, rfl⟩
      rw [← hd]; first | rfl | exact (decide_eq_true (by omega)).symm | exact (decide_eq_false (by omega)).symm | (simp; omega) | (trace_state; done)
    · have d1 : (a == b) = false := by simpa using c1
      have d2 : (a != b) = true := by simpa using c1
      have c3 : b < a := by omega
      go_enter Tryd.func63, Tryd.ntmps63
      go_wp2
      go_ret
      refine ⟨ret_b ?_, rfl⟩
      rw [← hd]; first | rfl | exact (decide_eq_true (by omega)).symm | exact (decide_eq_false (by omega)).symm | (simp; omega) | (trace_state; done)
set_option maxRecDepth 4000 in
theorem stand_7 (a b : Int) (r : Bool) (w : World) (hr : standB 7 a b = r) :
    Calls Tryd.prog 63 #[.string ⟨#[62]⟩, .int .i64 a, .int .i64 b] w fun e w' => e = .returned (.bool r) ∧ w' = w := by
  have hd : decide (b < a) = r := hr
  clear hr
  by_cases c1 : a = b
  · subst c1
    go_enter Tryd.func63, Tryd.ntmps63
    go_wp2
    go_ret
    refine ⟨ret_b ?_, rfl⟩
    rw [← hd]; simp
  · by_cases c2 : a < b
    · have d1 : (a == b) = false := by simpa using c1
      have d2 : (a != b) = true := by simpa using c1
      go_enter Tryd.func63, Tryd.ntmps63
      go_wp2
      go_ret
      refine ⟨ret_b ?_, rfl⟩
      rw [← hd]; first | rfl | exact (decide_eq_true (by omega)).symm | exact (decide_eq_false (by omega)).symm | (simp; omega) | (trace_state; done)
    · have d1 : (a == b) = false := by simpa using c1
      have d2 : (a != b) = true := by simpa using c1
      have c3 : b < a := by omega
      go_enter Tryd.func63, Tryd.ntmps63
      go_wp2
      go_ret
      refine ⟨ret_b ?_, rfl⟩
      rw [← hd]; first | rfl | exact (decide_eq_true (by omega)).symm | exact (decide_eq_false (by omega)).symm | (simp; omega) | (trace_state; done)
set_option maxRecDepth 4000 in
theorem stand_8 (a b : Int) (r : Bool) (w : World) (hr : standB 8 a b = r) :
    Calls Tryd.prog 63 #[.string ⟨#[62, 61]⟩, .int .i64 a, .int .i64 b] w fun e w' => e = .returned (.bool r) ∧ w' = w := by
  have hd : decide (b ≤ a) = r := hr
  clear hr
  by_cases c1 : a = b
  · subst c1
    go_enter Tryd.func63, Tryd.ntmps63
    go_wp2
    go_ret
    refine ⟨ret_b ?_, rfl⟩
    rw [← hd]; simp
  · by_cases c2 : a < b
    · have d1 : (a == b) = false := by simpa using c1
      have d2 : (a != b) = true := by simpa using c1
      go_enter Tryd.func63, Tryd.ntmps63
      go_wp2
      go_ret
      refine ⟨ret_b ?_, rfl⟩
      rw [← hd]; first | rfl | exact (decide_eq_true (by omega)).symm | exact (decide_eq_false (by omega)).symm | (simp; omega) | (trace_state; done)
    · have d1 : (a == b) = false := by simpa using c1
      have d2 : (a != b) = true := by simpa using c1
      have c3 : b < a := by omega
      go_enter Tryd.func63, Tryd.ntmps63
      go_wp2
      go_ret
      refine ⟨ret_b ?_, rfl⟩
      rw [← hd]; first | rfl | exact (decide_eq_true (by omega)).symm | exact (decide_eq_false (by omega)).symm | (simp; omega) | (trace_state; done)
theorem stand_any (s : ByteArray) (a b : Int) (r : Bool) (w : World) (hc : cmpC (code s) = true) (hr : standB (code s) a b = r) :
    Calls Tryd.prog 63 #[.string s, .int .i64 a, .int .i64 b] w fun e w' => e = .returned (.bool r) ∧ w' = w := by
  rcases code_cases s with rfl | rfl | rfl | rfl | rfl | rfl | rfl | rfl | rfl | rfl | rfl | rfl | rfl | rfl | rfl | rfl | rfl | rfl | rfl | rfl | rfl | hn
  · exact absurd hc (by decide)
  · exact absurd hc (by decide)
  · exact absurd hc (by decide)
  · exact stand_3 a b r w hr
  · exact stand_4 a b r w hr
  · exact stand_5 a b r w hr
  · exact stand_6 a b r w hr
  · exact stand_7 a b r w hr
  · exact stand_8 a b r w hr
  · exact absurd hc (by decide)
  · exact absurd hc (by decide)
  · exact absurd hc (by decide)
  · exact absurd hc (by decide)
  · exact absurd hc (by decide)
  · exact absurd hc (by decide)
  · exact absurd hc (by decide)
  · exact absurd hc (by decide)
  · exact absurd hc (by decide)
  · exact absurd hc (by decide)
  · exact absurd hc (by decide)
  · exact absurd hc (by decide)
  · rw [code_none hn] at hc; exact absurd hc (by decide)
set_option maxRecDepth 4000 in
theorem holds_6 (a b : Int) (r : Bool) (w : World) (hr : standB 6 a b = r) :
    Calls Tryd.prog 40 #[.string ⟨#[61]⟩, .int .i64 a, .int .i64 b] w fun e w' => e = .returned (.bool r) ∧ w' = w := by
  have hd : decide (a = b) = r := hr
  clear hr
  by_cases c1 : a = b
  · subst c1
    go_enter Tryd.func40, Tryd.ntmps40
    go_wp2
    go_ret
    refine ⟨ret_b ?_, rfl⟩
    rw [← hd]; simp
  · by_cases c2 : a < b
    · have d1 : (a == b) = false := by simpa using c1
      have d2 : (a != b) = true := by simpa using c1
      go_enter Tryd.func40, Tryd.ntmps40
      go_wp2
      go_ret
      refine ⟨ret_b ?_, rfl⟩
      rw [← hd]; first | rfl | exact (decide_eq_true (by omega)).symm | exact (decide_eq_false (by omega)).symm | (simp; omega) | (trace_state; done)
    · have d1 : (a == b) = false := by simpa using c1
      have d2 : (a != b) = true := by simpa using c1
      have c3 : b < a := by omega
      go_enter Tryd.func40, Tryd.ntmps40
      go_wp2
      go_ret
      refine ⟨ret_b ?_, rfl⟩
      rw [← hd]; first | rfl | exact (decide_eq_true (by omega)).symm | exact (decide_eq_false (by omega)).symm | (simp; omega) | (trace_state; done)
set_option maxRecDepth 4000 in
theorem holds_5 (a b : Int) (r : Bool) (w : World) (hr : standB 5 a b = r) :
    Calls Tryd.prog 40 #[.string ⟨#[60, 62]⟩, .int .i64 a, .int .i64 b] w fun e w' => e = .returned (.bool r) ∧ w' = w := by
  have hd : decide (a ≠ b) = r := hr
  clear hr
  by_cases c1 : a = b
  · subst c1
    go_enter Tryd.func40, Tryd.ntmps40
    go_wp2
    go_ret
    refine ⟨ret_b ?_, rfl⟩
    rw [← hd]; simp
  · by_cases c2 : a < b
    · have d1 : (a == b) = false := by simpa using c1
      have d2 : (a != b) = true := by simpa using c1
      go_enter Tryd.func40, Tryd.ntmps40
      go_wp2
      go_ret
      refine ⟨ret_b ?_, rfl⟩
      rw [← hd]; first | rfl | exact (decide_eq_true (by omega)).symm | exact (decide_eq_false (by omega)).symm | (simp; omega) | (trace_state; done)
    · have d1 : (a == b) = false := by simpa using c1
      have d2 : (a != b) = true := by simpa using c1
      have c3 : b < a := by omega
      go_enter Tryd.func40, Tryd.ntmps40
      go_wp2
      go_ret
      refine ⟨ret_b ?_, rfl⟩
      rw [← hd]; first | rfl | exact (decide_eq_true (by omega)).symm | exact (decide_eq_false (by omega)).symm | (simp; omega) | (trace_state; done)
set_option maxRecDepth 4000 in
theorem holds_3 (a b : Int) (r : Bool) (w : World) (hr : standB 3 a b = r) :
    Calls Tryd.prog 40 #[.string ⟨#[60]⟩, .int .i64 a, .int .i64 b] w fun e w' => e = .returned (.bool r) ∧ w' = w := by
  have hd : decide (a < b) = r := hr
  clear hr
  by_cases c1 : a = b
  · subst c1
    go_enter Tryd.func40, Tryd.ntmps40
    go_wp2
    go_ret
    refine ⟨ret_b ?_, rfl⟩
    rw [← hd]; simp
  · by_cases c2 : a < b
    · have d1 : (a == b) = false := by simpa using c1
      have d2 : (a != b) = true := by simpa using c1
      go_enter Tryd.func40, Tryd.ntmps40
      go_wp2
      go_ret
      refine ⟨ret_b ?_, rfl⟩
      rw [← hd]; first | rfl | exact (decide_eq_true (by omega)).symm | exact (decide_eq_false (by omega)).symm | (simp; omega) | (trace_state; done)
    · have d1 : (a == b) = false := by simpa using c1
      have d2 : (a != b) = true := by simpa using c1
      have c3 : b < a := by omega
      go_enter Tryd.func40, Tryd.ntmps40
      go_wp2
      go_ret
      refine ⟨ret_b ?_, rfl⟩
      rw [← hd]; first | rfl | exact (decide_eq_true (by omega)).symm | exact (decide_eq_false (by omega)).symm | (simp; omega) | (trace_state; done)
set_option maxRecDepth 4000 in
theorem holds_4 (a b : Int) (r : Bool) (w : World) (hr : standB 4 a b = r) :
    Calls Tryd.prog 40 #[.string ⟨#[60, 61]⟩, .int .i64 a, .int .i64 b] w fun e w' => e = .returned (.bool r) ∧ w' = w := by
  have hd : decide (a ≤ b) = r := hr
  clear hr
  by_cases c1 : a = b
  · subst c1
    go_enter Tryd.func40, Tryd.ntmps40
    go_wp2
    go_ret
    refine ⟨ret_b ?_, rfl⟩
    rw [← hd]; simp
  · by_cases c2 : a < b
    · have d1 : (a == b) = false := by simpa using c1
      have d2 : (a != b) = true := by simpa using c1
      go_enter Tryd.func40, Tryd.ntmps40
      go_wp2
      go_ret
      refine ⟨ret_b ?_, rfl⟩
      rw [← hd]; first | rfl | exact (decide_eq_true (by omega)).symm | exact (decide_eq_false (by omega)).symm | (simp; omega) | (trace_state; done)
    · have d1 : (a == b) = false := by simpa using c1
      have d2 : (a != b) = true := by simpa using c1
      have c3 : b < a := by omega
      go_enter Tryd.func40, Tryd.ntmps40
      go_wp2
      go_ret
      refine ⟨ret_b ?_, rfl⟩
      rw [← hd]; first | rfl | exact (decide_eq_true (by omega)).symm | exact (decide_eq_false (by omega)).symm | (simp; omega) | (trace_state; done)
set_option maxRecDepth 4000 in
theorem holds_7 (a b : Int) (r : Bool) (w : World) (hr : standB 7 a b = r) :
    Calls Tryd.prog 40 #[.string ⟨#[62]⟩, .int .i64 a, .int .i64 b] w fun e w' => e = .returned (.bool r) ∧ w' = w := by
  have hd : decide (b < a) = r := hr
  clear hr
  by_cases c1 : a = b
  · subst c1
    go_enter Tryd.func40, Tryd.ntmps40
    go_wp2
    go_ret
    refine ⟨ret_b ?_, rfl⟩
    rw [← hd]; simp
  · by_cases c2 : a < b
    · have d1 : (a == b) = false := by simpa using c1
      have d2 : (a != b) = true := by simpa using c1
      go_enter Tryd.func40, Tryd.ntmps40
      go_wp2
      go_ret
      refine ⟨ret_b ?_, rfl⟩
      rw [← hd]; first | rfl | exact (decide_eq_true (by omega)).symm | exact (decide_eq_false (by omega)).symm | (simp; omega) | (trace_state; done)
    · have d1 : (a == b) = false := by simpa using c1
      have d2 : (a != b) = true := by simpa using c1
      have c3 : b < a := by omega
      go_enter Tryd.func40, Tryd.ntmps40
      go_wp2
      go_ret
      refine ⟨ret_b ?_, rfl⟩
      rw [← hd]; first | rfl | exact (decide_eq_true (by omega)).symm | exact (decide_eq_false (by omega)).symm | (simp; omega) | (trace_state; done)
set_option maxRecDepth 4000 in
theorem holds_8 (a b : Int) (r : Bool) (w : World) (hr : standB 8 a b = r) :
    Calls Tryd.prog 40 #[.string ⟨#[62, 61]⟩, .int .i64 a, .int .i64 b] w fun e w' => e = .returned (.bool r) ∧ w' = w := by
  have hd : decide (b ≤ a) = r := hr
  clear hr
  by_cases c1 : a = b
  · subst c1
    go_enter Tryd.func40, Tryd.ntmps40
    go_wp2
    go_ret
    refine ⟨ret_b ?_, rfl⟩
    rw [← hd]; simp
  · by_cases c2 : a < b
    · have d1 : (a == b) = false := by simpa using c1
      have d2 : (a != b) = true := by simpa using c1
      go_enter Tryd.func40, Tryd.ntmps40
      go_wp2
      go_ret
      refine ⟨ret_b ?_, rfl⟩
      rw [← hd]; first | rfl | exact (decide_eq_true (by omega)).symm | exact (decide_eq_false (by omega)).symm | (simp; omega) | (trace_state; done)
    · have d1 : (a == b) = false := by simpa using c1
      have d2 : (a != b) = true := by simpa using c1
      have c3 : b < a := by omega
      go_enter Tryd.func40, Tryd.ntmps40
      go_wp2
      go_ret
      refine ⟨ret_b ?_, rfl⟩
      rw [← hd]; first | rfl | exact (decide_eq_true (by omega)).symm | exact (decide_eq_false (by omega)).symm | (simp; omega) | (trace_state; done)
theorem holds_any (s : ByteArray) (a b : Int) (r : Bool) (w : World) (hc : cmpC (code s) = true) (hr : standB (code s) a b = r) :
    Calls Tryd.prog 40 #[.string s, .int .i64 a, .int .i64 b] w fun e w' => e = .returned (.bool r) ∧ w' = w := by
  rcases code_cases s with rfl | rfl | rfl | rfl | rfl | rfl | rfl | rfl | rfl | rfl | rfl | rfl | rfl | rfl | rfl | rfl | rfl | rfl | rfl | rfl | rfl | hn
  · exact absurd hc (by decide)
  · exact absurd hc (by decide)
  · exact absurd hc (by decide)
  · exact holds_3 a b r w hr
  · exact holds_4 a b r w hr
  · exact holds_5 a b r w hr
  · exact holds_6 a b r w hr
  · exact holds_7 a b r w hr
  · exact holds_8 a b r w hr
  · exact absurd hc (by decide)
  · exact absurd hc (by decide)
  · exact absurd hc (by decide)
  · exact absurd hc (by decide)
  · exact absurd hc (by decide)
  · exact absurd hc (by decide)
  · exact absurd hc (by decide)
  · exact absurd hc (by decide)
  · exact absurd hc (by decide)
  · exact absurd hc (by decide)
  · exact absurd hc (by decide)
  · exact absurd hc (by decide)
  · rw [code_none hn] at hc; exact absurd hc (by decide)
set_option maxRecDepth 4000 in
theorem two_1 (a b : Int) (w : World) (ha : inB a = true) (hb : inB b = true) :
    Calls Tryd.prog 41 #[.string ⟨#[43]⟩, .int .i64 a, .int .i64 b] w fun e w' => e = .returned (.tuple #[.int .i64 (twoF 1 a b).1, .int .i64 (twoF 1 a b).2]) ∧ w' = w := by
  show Calls Tryd.prog 41 #[.string ⟨#[43]⟩, .int .i64 a, .int .i64 b] w fun e w' => e = .returned (.tuple #[.int .i64 (resV (a + b)), .int .i64 (resE (a + b))]) ∧ w' = w
  go_enter Tryd.func41, Tryd.ntmps41
  go_wp2_with (go_at_call 52; refine (radd_any a b _ ha hb).mono ?_; rintro e w' ⟨rfl, rfl⟩)
  go_ret2
  exact ⟨rfl, rfl⟩
set_option maxRecDepth 4000 in
theorem two_0 (a b : Int) (w : World) (ha : inB a = true) (hb : inB b = true) :
    Calls Tryd.prog 41 #[.string ⟨#[42]⟩, .int .i64 a, .int .i64 b] w fun e w' => e = .returned (.tuple #[.int .i64 (twoF 0 a b).1, .int .i64 (twoF 0 a b).2]) ∧ w' = w := by
  show Calls Tryd.prog 41 #[.string ⟨#[42]⟩, .int .i64 a, .int .i64 b] w fun e w' => e = .returned (.tuple #[.int .i64 (resV (a * b)), .int .i64 (resE (a * b))]) ∧ w' = w
  go_enter Tryd.func41, Tryd.ntmps41
  go_wp2_with (go_at_call 53; refine (rmul_any a b _ ha hb).mono ?_; rintro e w' ⟨rfl, rfl⟩)
  go_ret2
  exact ⟨rfl, rfl⟩
set_option maxRecDepth 4000 in
theorem two_10 (a b : Int) (w : World) (ha : inB a = true) (_ : inB b = true) :
    Calls Tryd.prog 41 #[.string ⟨#[100, 105, 118]⟩, .int .i64 a, .int .i64 b] w fun e w' => e = .returned (.tuple #[.int .i64 (twoF 10 a b).1, .int .i64 (twoF 10 a b).2]) ∧ w' = w := by
  show Calls Tryd.prog 41 #[.string ⟨#[100, 105, 118]⟩, .int .i64 a, .int .i64 b] w fun e w' => e = .returned (.tuple #[.int .i64 (divV a b), .int .i64 (divE a b)]) ∧ w' = w
  go_enter Tryd.func41, Tryd.ntmps41
  go_wp2_with (go_at_call 54; refine (rdiv_any a b _ ha).mono ?_; rintro e w' ⟨rfl, rfl⟩)
  go_ret2
  exact ⟨rfl, rfl⟩
set_option maxRecDepth 4000 in
theorem two_15 (a b : Int) (w : World) (ha : inB a = true) (_ : inB b = true) :
    Calls Tryd.prog 41 #[.string ⟨#[109, 111, 100]⟩, .int .i64 a, .int .i64 b] w fun e w' => e = .returned (.tuple #[.int .i64 (twoF 15 a b).1, .int .i64 (twoF 15 a b).2]) ∧ w' = w := by
  show Calls Tryd.prog 41 #[.string ⟨#[109, 111, 100]⟩, .int .i64 a, .int .i64 b] w fun e w' => e = .returned (.tuple #[.int .i64 (modV a b), .int .i64 (modE b)]) ∧ w' = w
  go_enter Tryd.func41, Tryd.ntmps41
  go_wp2_with (go_at_call 55; refine (rmod_any a b _ ha).mono ?_; rintro e w' ⟨rfl, rfl⟩)
  go_ret2
  exact ⟨rfl, rfl⟩
set_option maxRecDepth 4000 in
theorem two_2 (a b : Int) (w : World) (ha : inB a = true) (hb : inB b = true) :
    Calls Tryd.prog 41 #[.string ⟨#[45]⟩, .int .i64 a, .int .i64 b] w fun e w' => e = .returned (.tuple #[.int .i64 (twoF 2 a b).1, .int .i64 (twoF 2 a b).2]) ∧ w' = w := by
  show Calls Tryd.prog 41 #[.string ⟨#[45]⟩, .int .i64 a, .int .i64 b] w fun e w' => e = .returned (.tuple #[.int .i64 (resV (a - b)), .int .i64 (resE (a - b))]) ∧ w' = w
  go_enter Tryd.func41, Tryd.ntmps41
  go_wp2_with (go_at_call 56; refine (rsub_any a b _ ha hb).mono ?_; rintro e w' ⟨rfl, rfl⟩)
  go_ret2
  exact ⟨rfl, rfl⟩
set_option maxRecDepth 4000 in
theorem two_9 (a b : Int) (w : World) (ha : inB a = true) (hb : inB b = true) :
    Calls Tryd.prog 41 #[.string ⟨#[97, 98, 115]⟩, .int .i64 a, .int .i64 b] w fun e w' => e = .returned (.tuple #[.int .i64 (twoF 9 a b).1, .int .i64 (twoF 9 a b).2]) ∧ w' = w := by
  show Calls Tryd.prog 41 #[.string ⟨#[97, 98, 115]⟩, .int .i64 a, .int .i64 b] w fun e w' => e = .returned (.tuple #[.int .i64 (resV (a - b)), .int .i64 (resE (a - b))]) ∧ w' = w
  go_enter Tryd.func41, Tryd.ntmps41
  go_wp2_with (go_at_call 56; refine (rsub_any a b _ ha hb).mono ?_; rintro e w' ⟨rfl, rfl⟩)
  go_ret2
  exact ⟨rfl, rfl⟩
set_option maxRecDepth 4000 in
theorem two_14 (a b : Int) (w : World) (_ : inB a = true) (_ : inB b = true) :
    Calls Tryd.prog 41 #[.string ⟨#[109, 105, 110]⟩, .int .i64 a, .int .i64 b] w fun e w' => e = .returned (.tuple #[.int .i64 (twoF 14 a b).1, .int .i64 (twoF 14 a b).2]) ∧ w' = w := by
  show Calls Tryd.prog 41 #[.string ⟨#[109, 105, 110]⟩, .int .i64 a, .int .i64 b] w fun e w' => e = .returned (.tuple #[.int .i64 (if b < a then b else a), .int .i64 0]) ∧ w' = w
  by_cases c : b < a
  · rw [if_pos c]
    go_enter Tryd.func41, Tryd.ntmps41
    go_wp2
    go_ret2
    exact ⟨rfl, rfl⟩
  · rw [if_neg c]
    go_enter Tryd.func41, Tryd.ntmps41
    go_wp2
    go_ret2
    exact ⟨rfl, rfl⟩
set_option maxRecDepth 4000 in
theorem two_13 (a b : Int) (w : World) (_ : inB a = true) (_ : inB b = true) :
    Calls Tryd.prog 41 #[.string ⟨#[109, 97, 120]⟩, .int .i64 a, .int .i64 b] w fun e w' => e = .returned (.tuple #[.int .i64 (twoF 13 a b).1, .int .i64 (twoF 13 a b).2]) ∧ w' = w := by
  show Calls Tryd.prog 41 #[.string ⟨#[109, 97, 120]⟩, .int .i64 a, .int .i64 b] w fun e w' => e = .returned (.tuple #[.int .i64 (if a < b then b else a), .int .i64 0]) ∧ w' = w
  by_cases c : a < b
  · rw [if_pos c]
    go_enter Tryd.func41, Tryd.ntmps41
    go_wp2
    go_ret2
    exact ⟨rfl, rfl⟩
  · rw [if_neg c]
    go_enter Tryd.func41, Tryd.ntmps41
    go_wp2
    go_ret2
    exact ⟨rfl, rfl⟩
/-- The names of sums. -/
def sumC (c : Nat) : Bool := decide (c = 0 ∨ c = 1 ∨ c = 2 ∨ c = 9 ∨ c = 10 ∨ c = 13 ∨ c = 14 ∨ c = 15)
theorem two_any (s : ByteArray) (a b v e0 : Int) (w : World) (hc : sumC (code s) = true) (ha : inB a = true) (hb : inB b = true) (hv : twoF (code s) a b = (v, e0)) :
    Calls Tryd.prog 41 #[.string s, .int .i64 a, .int .i64 b] w fun e w' => e = .returned (.tuple #[.int .i64 v, .int .i64 e0]) ∧ w' = w := by
  have h1 : v = (twoF (code s) a b).1 := by rw [hv]
  have h2 : e0 = (twoF (code s) a b).2 := by rw [hv]
  subst h1 h2
  rcases code_cases s with rfl | rfl | rfl | rfl | rfl | rfl | rfl | rfl | rfl | rfl | rfl | rfl | rfl | rfl | rfl | rfl | rfl | rfl | rfl | rfl | rfl | hn
  · exact two_0 a b w ha hb
  · exact two_1 a b w ha hb
  · exact two_2 a b w ha hb
  · exact absurd hc (by decide)
  · exact absurd hc (by decide)
  · exact absurd hc (by decide)
  · exact absurd hc (by decide)
  · exact absurd hc (by decide)
  · exact absurd hc (by decide)
  · exact two_9 a b w ha hb
  · exact two_10 a b w ha hb
  · exact absurd hc (by decide)
  · exact absurd hc (by decide)
  · exact two_13 a b w ha hb
  · exact two_14 a b w ha hb
  · exact two_15 a b w ha hb
  · exact absurd hc (by decide)
  · exact absurd hc (by decide)
  · exact absurd hc (by decide)
  · exact absurd hc (by decide)
  · exact absurd hc (by decide)
  · rw [code_none hn] at hc; exact absurd hc (by decide)
end Go.Proofs.YtfglmfldpmpofaaDoor
