/- The walk of the law SymbolGood. -/
import Derived.Test.YthkkgjoegcbaaaaKnown
namespace Go.Proofs.Ythkkgjoegcbaaaa
open Go.RowKit Go.Maps

set_option maxHeartbeats 2000000 in
set_option maxRecDepth 100000 in
theorem lawGood_walk (s : ByteArray) (w : World) (hs : s.size ≤ maxLen) :
    Calls Try.prog 5 #[.string s] w fun e w' => e = .returned (.bool true) ∧ Below w.heap.size w w' := by
  have hs' := hs
  unfold maxLen at hs'
  by_cases h200 : 200 < s.size
  · go_enter Try.func5, Try.ntmps5
    go_wp2_with (go_at_call 6; refine (known_any _).mono ?_; rintro e w1 ⟨rfl, hb0⟩)
    go_ret
    exact ⟨rfl, hb0⟩
  · cases hg : goodB s
    · go_enter Try.func5, Try.ntmps5
      go_wp2_with fail
      refine (known_any _).mono ?_
      rintro e w1 ⟨rfl, hb0⟩
      go_wp2_with fail
      refine (new_any w1).mono ?_
      rintro e w2 ⟨rfl, T2, hb1⟩
      go_wp2_with fail
      refine (intern_bad _ _ s hs hg).mono ?_
      rintro e w2 ⟨rfl, rfl⟩
      have HF := find_any w2 _ _ _ [] T2 s hs
      have hp : pos [] s = 0 := rfl
      have hd : decide ((0 : Nat) ≠ 0) = false := rfl
      rw [hp, hd] at HF
      clear hd hp
      go_wp2_with (first
        | (go_at_call 11; refine HF.mono ?_; rintro e w2 ⟨rfl, rfl⟩)
        | (go_at_call 10; refine (good_any s _ hs).mono ?_; rintro e w2 ⟨rfl, rfl⟩)
        | (go_at_call 9; refine (rgood_any s _ hs).mono ?_; rintro e w2 ⟨rfl, rfl⟩))
      go_ret
      exact ⟨rfl, hb0.trans (hb1.mono hb0.size)⟩
    · have hp : pos [s] s = 1 := by simp [pos]
      go_enter Try.func5, Try.ntmps5
      go_wp2_with fail
      refine (known_any _).mono ?_
      rintro e w1 ⟨rfl, hb0⟩
      go_wp2_with fail
      refine (new_any w1).mono ?_
      rintro e w2 ⟨rfl, T2, hb1⟩
      go_wp2_with fail
      refine (intern_new w2 _ _ _ [] T2 s hg rfl (by decide)).mono ?_
      rintro e w3 ⟨rfl, v3, m3, T3', t3, _⟩
      have T3 : Tab w3 w1.heap.size v3 m3 [s] := T3'
      have hb3 := touch_below T2 t3
      clear T3' t3 T2
      have HF := find_any w3 _ _ _ [s] T3 s hs
      have hd : decide ((1 : Nat) ≠ 0) = true := rfl
      rw [hp, hd] at HF
      clear hd hp
      go_wp2_with (first
        | (go_at_call 11; refine HF.mono ?_; rintro e w3 ⟨rfl, rfl⟩)
        | (go_at_call 10; refine (good_any s _ hs).mono ?_; rintro e w3 ⟨rfl, rfl⟩)
        | (go_at_call 9; refine (rgood_any s _ hs).mono ?_; rintro e w3 ⟨rfl, rfl⟩))
      go_ret
      exact ⟨rfl, hb0.trans ((hb1.trans hb3).mono hb0.size)⟩

end Go.Proofs.Ythkkgjoegcbaaaa
