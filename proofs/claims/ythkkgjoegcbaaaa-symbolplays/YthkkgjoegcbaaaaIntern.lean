/- The contract of (*Table).Intern, by its four ways. -/
import Derived.Test.YthkkgjoegcbaaaaAddW
namespace Go.Proofs.Ythkkgjoegcbaaaa
open Go.RowKit Go.Maps

theorem left_same {w : World} {b : Nat} {v m : Value} {L : List ByteArray} (T : Tab w b v m L) : Left w w b v m L :=
  ⟨v, m, T, Touch.refl _ _, fun _ h => .inl h⟩

set_option maxHeartbeats 1000000 in
theorem intern_bad (w : World) (b : Nat) (s : ByteArray) (hs : s.size ≤ maxLen) (hg : goodB s = false) :
    Calls Try.prog 8 #[.pointer (some ⟨b, 0, none⟩), .string s] w fun e w' => e = .returned (.tuple #[.int .i64 0, .int .i64 2]) ∧ w' = w := by
  go_enter Try.func8, Try.ntmps8
  go_wp2_with (go_at_call 10; refine (good_any s _ hs).mono ?_; rintro e w1 ⟨rfl, rfl⟩)
  go_ret2
  exact ⟨rfl, rfl⟩

set_option maxHeartbeats 1000000 in
theorem intern_has (w : World) (b : Nat) (v m : Value) (L : List ByteArray) (T : Tab w b v m L) (s : ByteArray) (hg : goodB s = true) (hp : pos L s ≠ 0) :
    Calls Try.prog 8 #[.pointer (some ⟨b, 0, none⟩), .string s] w fun e w' => e = .returned (.tuple #[.int .i64 (pos L s), .int .i64 0]) ∧ w' = w := by
  have hs : s.size ≤ maxLen := by have := goodB_size hg; unfold maxLen; omega
  have hd : decide (pos L s ≠ 0) = true := decide_eq_true hp
  have HF := find_any w b v m L T s hs
  rw [hd] at HF
  clear hd hp
  go_enter Try.func8, Try.ntmps8
  go_wp2_with (first
    | (go_at_call 10; refine (good_any s _ hs).mono ?_; rintro e w1 ⟨rfl, rfl⟩)
    | (go_at_call 11; refine HF.mono ?_; rintro e w1 ⟨rfl, rfl⟩))
  go_ret2
  exact ⟨rfl, rfl⟩

set_option maxHeartbeats 1000000 in
theorem intern_full (w : World) (b : Nat) (v m : Value) (L : List ByteArray) (T : Tab w b v m L) (s : ByteArray) (hg : goodB s = true) (hp : pos L s = 0) (hl : L.length = 4096) :
    Calls Try.prog 8 #[.pointer (some ⟨b, 0, none⟩), .string s] w fun e w' => e = .returned (.tuple #[.int .i64 0, .int .i64 10]) ∧ w' = w := by
  have hs : s.size ≤ maxLen := by have := goodB_size hg; unfold maxLen; omega
  have hd : decide (pos L s ≠ 0) = false := decide_eq_false (fun h => h hp)
  have HF := find_any w b v m L T s hs
  rw [hd, hp] at HF
  have c0 := T.c0
  rcases T.row.2 with ⟨rfl, h0⟩ | ⟨g, cap, cur, rfl, _⟩
  · omega
  · rw [hl] at c0
    clear hd hp
    go_enter Try.func8, Try.ntmps8
    go_wp2_with (first
      | (go_at_call 10; refine (good_any s _ hs).mono ?_; rintro e w1 ⟨rfl, rfl⟩)
      | (go_at_call 11; refine HF.mono ?_; rintro e w1 ⟨rfl, rfl⟩))
    go_ret2
    exact ⟨rfl, rfl⟩

set_option maxHeartbeats 1000000 in
theorem intern_new (w : World) (b : Nat) (v m : Value) (L : List ByteArray) (T : Tab w b v m L) (s : ByteArray) (hg : goodB s = true) (hp : pos L s = 0) (hl : L.length < 4096) :
    Calls Try.prog 8 #[.pointer (some ⟨b, 0, none⟩), .string s] w fun e w' => e = .returned (.tuple #[.int .i64 ((L.length + 1 : Nat) : Int), .int .i64 0]) ∧ Left w w' b v m (L ++ [s]) := by
  have hs4 := (goodB_size hg).2
  have hs : s.size ≤ maxLen := by unfold maxLen; omega
  have hd : decide (pos L s ≠ 0) = false := decide_eq_false (fun h => h hp)
  have HF := find_any w b v m L T s hs
  rw [hd, hp] at HF
  have HA := add_any w b v m L T s hs4 hp hl
  obtain ⟨N, hN⟩ : ∃ N : Int, N = ((L.length + 1 : Nat) : Int) := ⟨_, rfl⟩
  rw [← hN] at HA ⊢
  have c0 := T.c0
  rcases T.row.2 with ⟨rfl, h0⟩ | ⟨g, cap, cur, rfl, _⟩
  · clear hd hp hN
    go_enter Try.func8, Try.ntmps8
    go_wp2_with (first
      | (go_at_call 10; refine (good_any s _ hs).mono ?_; rintro e w1 ⟨rfl, rfl⟩)
      | (go_at_call 11; refine HF.mono ?_; rintro e w1 ⟨rfl, rfl⟩)
      | (go_at_call 14; refine HA.mono ?_; rintro e w1 ⟨rfl, hleft⟩))
    go_ret2
    exact ⟨rfl, hleft⟩
  · have d : ((L.length : Int) == 4096) = false := beq_eq_false_iff_ne.2 (by omega)
    clear hd hp hN
    go_enter Try.func8, Try.ntmps8
    go_wp2_with (first
      | (go_at_call 10; refine (good_any s _ hs).mono ?_; rintro e w1 ⟨rfl, rfl⟩)
      | (go_at_call 11; refine HF.mono ?_; rintro e w1 ⟨rfl, rfl⟩)
      | (go_at_call 14; refine HA.mono ?_; rintro e w1 ⟨rfl, hleft⟩))
    go_ret2
    exact ⟨rfl, hleft⟩

end Go.Proofs.Ythkkgjoegcbaaaa
