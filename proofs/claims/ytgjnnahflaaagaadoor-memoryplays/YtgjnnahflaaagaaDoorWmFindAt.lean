/- The contracts of the search by number. -/
import Derived.Test.YtgjnnahflaaagaaDoorWmSmall
namespace Go.Proofs.YtgjnnahflaaagaaDoor
open Go.RowKit Go.Maps

def hitB (F : List Ft) (x : Int) (i : Nat) : Bool := match F[i]? with
  | some f => decide ((f.id : Int) = x)
  | none => false
def LowAt (F : List Ft) (x : Int) (i : Nat) : Prop := (∀ j f, j < i → F[j]? = some f → (f.id : Int) < x) ∧ (∀ j f, i ≤ j → F[j]? = some f → x ≤ (f.id : Int)) ∧ i ≤ F.length
theorem hit_at {F : List Ft} {x : Int} {i : Nat} {f : Ft} (h : F[i]? = some f) : hitB F x i = decide ((f.id : Int) = x) := by unfold hitB; rw [h]
theorem hit_past {F : List Ft} {x : Int} {i : Nat} (h : F.length ≤ i) : hitB F x i = false := by unfold hitB; rw [List.getElem?_eq_none h]
theorem hit_no {F : List Ft} {x : Int} (h : ∀ f ∈ F, (f.id : Int) ≠ x) (i : Nat) : hitB F x i = false := by
  unfold hitB
  cases e : F[i]? with
  | none => rfl
  | some f => exact decide_eq_false (h f (List.mem_of_getElem? e))
theorem hit_yes {F : List Ft} {last p i : Nat} {f : Ft} (hg : Good F last) (hf : F[p]? = some f) (h : LowAt F (f.id : Int) i) : i = p := by
  rcases Nat.lt_trichotomy i p with c | c | c
  · have hl := (List.getElem?_eq_some_iff.1 hf).1
    have hi : F[i]? = some F[i] := List.getElem?_eq_getElem (by omega)
    have h1 := h.2.1 i _ (Nat.le_refl _) hi
    have h2 := hg.lt hi hf c
    omega
  · exact c
  · have := h.1 p f c hf
    omega

set_option maxHeartbeats 1000000 in
theorem nan_any (x : Int) (w : World) : Calls Tryd.prog 40 #[.int .i64 x] w fun e w' => e = .returned (.bool false) ∧ w' = w := by
  have h : (x != x) = false := by simp
  go_enter Tryd.func40, Tryd.ntmps40
  go_wp2
  go_ret
  exact ⟨by simp, rfl⟩
set_option maxHeartbeats 1000000 in
theorem compare_any (x y : Int) (w : World) : Calls Tryd.prog 37 #[.int .i64 x, .int .i64 y] w fun e w' => e = .returned (.int .i64 (Lib.compareInt x y)) ∧ w' = w := by
  obtain ⟨c, hc⟩ : ∃ c, Hid (Lib.compareInt x y = c) := ⟨_, rfl⟩
  rw [hc.out]
  by_cases h1 : x < y
  · have d1 : decide (x < y) = true := decide_eq_true h1
    obtain rfl : c = -1 := by rw [← hc.out]; unfold Lib.compareInt; rw [if_pos h1]
    go_enter Tryd.func37, Tryd.ntmps37
    go_wp2_with (go_at_call 40; refine (nan_any _ _).mono ?_; rintro e w' ⟨rfl, rfl⟩)
    go_ret
    exact ⟨rfl, rfl⟩
  · have d1 : decide (x < y) = false := decide_eq_false h1
    by_cases h2 : y < x
    · have d2 : decide (y < x) = true := decide_eq_true h2
      obtain rfl : c = 1 := by rw [← hc.out]; unfold Lib.compareInt; rw [if_neg h1, if_pos h2]
      go_enter Tryd.func37, Tryd.ntmps37
      go_wp2_with (go_at_call 40; refine (nan_any _ _).mono ?_; rintro e w' ⟨rfl, rfl⟩)
      go_ret
      exact ⟨rfl, rfl⟩
    · have d2 : decide (y < x) = false := decide_eq_false h2
      obtain rfl : c = 0 := by rw [← hc.out]; unfold Lib.compareInt; rw [if_neg h1, if_neg h2]
      go_enter Tryd.func37, Tryd.ntmps37
      go_wp2_with (go_at_call 40; refine (nan_any _ _).mono ?_; rintro e w' ⟨rfl, rfl⟩)
      go_ret
      exact ⟨rfl, rfl⟩
set_option maxHeartbeats 1000000 in
theorem cmpfn_any (id x : Int) (t : ByteArray) (sv : Value) (w : World) : Calls Tryd.prog 36 #[.agg #[.int .i64 id, .string t, sv], .int .i64 x] w fun e w' => e = .returned (.int .i64 (Lib.compareInt id x)) ∧ Below w.heap.size w w' := by
  have hb : Hid (Below w.heap.size w (w.alloc (.cells #[.int .i64 id, .string t, sv] 44))) := alloc_below _ _
  go_enter Tryd.func36, Tryd.ntmps36
  go_wp2_with (go_at_call 37; refine (compare_any _ _ _).mono ?_; rintro e w' ⟨rfl, rfl⟩)
  go_ret
  exact ⟨rfl, hb.out⟩
end Go.Proofs.YtgjnnahflaaagaaDoor
