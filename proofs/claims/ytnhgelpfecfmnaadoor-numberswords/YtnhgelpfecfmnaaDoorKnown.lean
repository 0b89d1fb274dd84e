/- The contracts of package num's Text and Use, and that the laws' common first look answers true. -/
import Derived.Test.YtnhgelpfecfmnaaDoorParseAny
import Derived.Test.YtnhgelpfecfmnaaDoorShelf
import Derived.WalkSmall
namespace Go.Proofs.YtnhgelpfecfmnaaDoor
open Go.RowKit

/-- The library's table of powers of ten lies as its text lays it. -/
def TabW (w : World) : Prop := Lib.TabIs Tryd.prog w "internal/strconv.uint64pow10" .u64 Lib.pow10Tab
theorem gPow : Tryd.prog.globalNamed "internal/strconv.uint64pow10" = some 0 := by kernel_rfl
theorem grow_below (w : World) (k : Nat) (os : Array Obj) : Below w.heap.size w (Sort.grow (w.drewN k) os) := by
  refine ⟨rfl, rfl, rfl, ?_, fun b hb => ?_⟩
  · show w.heap.size ≤ (w.heap ++ os).size
    simp
  · show (w.heap ++ os)[b]? = w.heap[b]?
    rw [Array.getElem?_append_left hb]
theorem tab_pos {w : World} (h : TabW w) : 0 < w.heap.size := World.block_lt_of_cell? _ _ (Lib.TabIs.cell h gPow 0 (by decide))
theorem tab_below {w w' : World} {B : Nat} (h : TabW w) (hb : Below B w w') (hB : 0 < B) : TabW w' := var?_below hb gPow hB h

theorem text_any (n : Int) (w : World) (hn : inB n = true) (ht : TabW w) :
    Calls Tryd.prog 22 #[.int .i64 n] w fun e w' => e = .returned (.string ⟨(Lib.itoa n).toArray⟩) ∧ Below w.heap.size w w' := by
  rw [inB_iff] at hn
  go_enter Tryd.func22, Tryd.ntmps22
  go_wp2_with (go_at_call 31; refine (Tryd.strconv_FormatInt_10 n hn.1 hn.2 _ ht).mono ?_; rintro e w' ⟨rfl, k, os, rfl⟩)
  go_ret
  exact ⟨rfl, grow_below _ _ _⟩

theorem text_12 (w : World) (ht : TabW w) :
    Calls Tryd.prog 22 #[.int .i64 (-12)] w fun e w' => e = .returned (.string ⟨#[45, 49, 50]⟩) ∧ Below w.heap.size w w' := by
  have h := text_any (-12) w (by decide) ht
  have e : (Lib.itoa (-12)).toArray = #[45, 49, 50] := by
    unfold Lib.itoa
    rw [if_pos (by decide), Lib.decDigits_two (by decide) (by decide)]
    rfl
  rw [e] at h
  exact h
theorem parse_12 (w : World) :
    Calls Tryd.prog 20 #[.string ⟨#[45, 49, 50]⟩] w fun e w' => e = .returned (.tuple #[.int .i64 (-12), .int .i64 0]) ∧ ∃ n, w' = w.drewN n := by
  have h := parse_any ⟨#[45, 49, 50]⟩ w (by decide)
  have e1 : parV (⟨#[45, 49, 50]⟩ : ByteArray).data.toList = -12 := by decide
  have e2 : parE (⟨#[45, 49, 50]⟩ : ByteArray).data.toList = 0 := by decide
  rw [e1, e2] at h
  exact h

/-- Fuel's Use, by what is left. -/
theorem use_arg (b : Nat) (n : Int) (w : World) (hn : n < 0) :
    Calls Tryd.prog 24 #[.pointer (some ⟨b, 0, none⟩), .int .i64 n] w fun e w' => e = .returned (.int .i64 1) ∧ w' = w := by
  go_enter Tryd.func24, Tryd.ntmps24
  go_wp2
  go_ret
  exact ⟨rfl, rfl⟩
theorem use_out (b : Nat) (L n : Int) (w : World) (hn : 0 ≤ n) (hl : L < n) (hc : w.cell? ⟨b, 0, none⟩ = some (.int .i64 L)) (hf : w.frozen? ⟨b, 0, none⟩ = false) :
    Calls Tryd.prog 24 #[.pointer (some ⟨b, 0, none⟩), .int .i64 n] w fun e w' => e = .returned (.int .i64 9) ∧ w' = w.setCell ⟨b, 0, none⟩ (.int .i64 0) := by
  go_enter Tryd.func24, Tryd.ntmps24
  go_wp2
  go_ret
  exact ⟨rfl, rfl⟩
theorem use_ok (b : Nat) (L n : Int) (w : World) (hn : 0 ≤ n) (hl : n ≤ L) (hL : L ≤ 9223372036854775807) (hc : w.cell? ⟨b, 0, none⟩ = some (.int .i64 L)) (hf : w.frozen? ⟨b, 0, none⟩ = false) :
    Calls Tryd.prog 24 #[.pointer (some ⟨b, 0, none⟩), .int .i64 n] w fun e w' => e = .returned (.int .i64 0) ∧ w' = w.setCell ⟨b, 0, none⟩ (.int .i64 (L - n)) := by
  go_enter Tryd.func24, Tryd.ntmps24
  go_wp2
  go_ret
  exact ⟨rfl, rfl⟩

/-- A call that only computes: the world is as it was, but for draws. -/
def SameW (w w' : World) : Prop := ∃ n, w' = w.drewN n
theorem SameW.refl (w : World) : SameW w w := ⟨0, rfl⟩
theorem SameW.size {w w' : World} (h : SameW w w') : w'.heap.size = w.heap.size := by obtain ⟨n, rfl⟩ := h; rfl
theorem SameW.below {w w' : World} (B : Nat) (h : SameW w w') : Below B w w' := by obtain ⟨n, rfl⟩ := h; exact below_drewN (Below.refl _ _) n
theorem parse_12' (w : World) :
    Calls Tryd.prog 20 #[.string ⟨#[45, 49, 50]⟩] w fun e w' => e = .returned (.tuple #[.int .i64 (-12), .int .i64 0]) ∧ SameW w w' := parse_12 w

theorem bcell {W w1 : World} (hb : Below W.heap.size W w1) : (∀ b o, b < W.heap.size → w1.cell? ⟨b, o, none⟩ = W.cell? ⟨b, o, none⟩) ∧ (∀ b o, b < W.heap.size → w1.frozen? ⟨b, o, none⟩ = W.frozen? ⟨b, o, none⟩) :=
  ⟨fun b o h => hb.cell (p := ⟨b, o, none⟩) h, fun b o h => hb.frozen (p := ⟨b, o, none⟩) h⟩

set_option maxHeartbeats 1000000 in
theorem known_yes (w : World) (ht : TabW w) : Calls Tryd.prog 9 #[] w fun e w' => e = .returned (.bool true) ∧ Below w.heap.size w w' := by
  go_enter Tryd.func9, Tryd.ntmps9
  go_wp2_with fail
  refine (add_in 2 3 _ (by decide) (by decide) (by decide)).mono ?_
  rintro e w ⟨rfl, rfl⟩
  go_wp2_with fail
  refine (add_out 9223372036854775807 1 _ (by decide) (by decide) (by decide)).mono ?_
  rintro e w ⟨rfl, rfl⟩
  go_wp2_with (first | (go_at_call 16; go_in) | (go_at_call 18; go_in) | (go_at_call 25; go_in))
  refine (parse_12' _).mono ?_
  rintro e w1 ⟨rfl, hq⟩
  go_wp2_with (go_at_call 24; go_in)
  have hp := tab_pos ht
  have hz1 := hq.size
  have ht1 : TabW w1 := tab_below ht (hq.below w.heap.size) hp
  have HZ : Hid (w1.heap.size = w.heap.size) := hz1
  clear hz1
  have ht2 : TabW (w1.alloc (.cells #[.int .i64 0] 35)) := tab_below ht1 ((Below.refl w1.heap.size _).alloc (Nat.le_refl _) _) (by rw [HZ.out]; exact hp)
  refine (text_12 _ ht2).mono ?_
  rintro e w2 ⟨rfl, hb2⟩
  obtain ⟨hc, hf⟩ := bcell hb2
  go_wp2
  go_ret
  refine ⟨rfl, ?_⟩
  have h1 : Below w.heap.size w w1 := hq.below _
  have h2 : Below w.heap.size w (w1.alloc (.cells #[.int .i64 0] 35)) := h1.alloc (by rw [HZ.out]; exact Nat.le_refl _) _
  exact h2.trans (hb2.mono (by have := HZ.out; simp; omega))
end Go.Proofs.YtnhgelpfecfmnaaDoor
