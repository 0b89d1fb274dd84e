/- The laws' common first look answers true. -/
import Derived.Test.YthkkgjoegcbaaaaIntern
namespace Go.Proofs.Ythkkgjoegcbaaaa
open Go.RowKit Go.Maps

theorem touch_below {w w' : World} {b : Nat} {v m : Value} {L : List ByteArray} (T : Tab w b v m L) (h : Touch w w' (Foot b v m)) : Below b w w' :=
  h.below (Nat.le_of_lt T.lt) fun _ hk => (T.foot hk).1

def red : ByteArray := ⟨#[114, 101, 100]⟩
def blue : ByteArray := ⟨#[98, 108, 117, 101]⟩

set_option maxHeartbeats 2000000 in
set_option maxRecDepth 100000 in
theorem known_any (w : World) :
    Calls Try.prog 6 #[] w fun e w' => e = .returned (.bool true) ∧ Below w.heap.size w w' := by
  have p1 : pos [red, blue] red = 1 := by decide
  have p2 : pos [red, blue] blue = 2 := by decide
  have g5 : goodB ⟨#[97, 45, 49, 95, 98]⟩ = true := by decide
  have hbl : blue.toList = [98, 108, 117, 101] := by rw [ByteArray.toList_eq]; rfl
  go_enter Try.func6, Try.ntmps6
  go_wp2_with fail
  refine (new_any w).mono ?_
  rintro e w1 ⟨rfl, T1, hb1⟩
  go_wp2_with fail
  refine (intern_new w1 _ _ _ [] T1 red (by decide) (by decide) (by decide)).mono ?_
  rintro e w2 ⟨rfl, v2, m2, T2', t2, _⟩
  have T2 : Tab w2 w.heap.size v2 m2 [red] := T2'
  have hb2 := touch_below T1 t2
  clear T2' t2 T1
  go_wp2_with fail
  refine (intern_new w2 _ _ _ [red] T2 blue (by decide) (by decide) (by decide)).mono ?_
  rintro e w3 ⟨rfl, v3, m3, T3', t3, _⟩
  have T3 : Tab w3 w.heap.size v3 m3 [red, blue] := T3'
  have hb3 := touch_below T2 t3
  clear T3' t3 T2
  go_wp2_with fail
  refine (intern_has w3 _ _ _ [red, blue] T3 red (by decide) (by decide)).mono ?_
  rintro e w3 ⟨rfl, rfl⟩
  go_wp2_with fail
  refine (intern_bad _ _ ⟨#[49, 120]⟩ (by decide) (by decide)).mono ?_
  rintro e w3 ⟨rfl, rfl⟩
  go_wp2_with fail
  refine (name_yes w3 _ _ _ [red, blue] T3 2 (by decide) (by decide) blue (by decide)).mono ?_
  rintro e w3 ⟨rfl, rfl⟩
  go_wp2_with fail
  refine (find_any w3 _ _ _ [red, blue] T3 blue (by decide)).mono ?_
  rintro e w3 ⟨rfl, rfl⟩
  go_wp2_with (first
    | (go_at_call 13; refine (len_any w3 _ _ _ [red, blue] T3).mono ?_; rintro e w3 ⟨rfl, rfl⟩)
    | (go_at_call 10; refine (good_any ⟨#[97, 45, 49, 95, 98]⟩ _ (by decide)).mono ?_; rintro e w3 ⟨rfl, rfl⟩))
  go_ret
  exact ⟨rfl, (hb1.trans hb2).trans hb3⟩

end Go.Proofs.Ythkkgjoegcbaaaa
