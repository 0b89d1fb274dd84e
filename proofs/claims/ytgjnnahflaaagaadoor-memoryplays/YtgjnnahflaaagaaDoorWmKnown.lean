/- The laws' common first look answers true. -/
import Derived.Test.YtgjnnahflaaagaaDoorWmLaw
namespace Go.Proofs.YtgjnnahflaaagaaDoor
open Go.RowKit Go.Maps

theorem key_ne {t u : ByteArray} {l m : List Val} (h : t ≠ u) : keyB t l ≠ keyB u m := fun e => h (keyB_inj e).1
theorem ne_pq : (⟨#[112]⟩ : ByteArray) ≠ ⟨#[113]⟩ := by decide
theorem LW.len_is {w wr : World} {b last : Nat} {v m : Value} {F : List Ft} (h : LW w wr b v m last F) (n : Nat) (hn : F.length = n) :
    Calls Tryd.prog 19 #[.pointer (some ⟨b, 0, none⟩)] wr fun e w' => e = .returned (.int .i64 n) ∧ w' = wr := by
  rw [← hn]; exact len_any wr w.heap.size b last v m F h.mem
theorem LW.next_is {w wr : World} {b last : Nat} {v m : Value} {F : List Ft} (h : LW w wr b v m last F) (n : Nat) (hn : last + 1 = n) :
    Calls Tryd.prog 20 #[.pointer (some ⟨b, 0, none⟩)] wr fun e w' => e = .returned (.int .i64 n) ∧ w' = wr := by
  rw [← hn]; exact next_any wr w.heap.size b last v m F h.mem
theorem LW.of_len {w wr : World} {b last : Nat} {v m : Value} {F : List Ft} (h : LW w wr b v m last F) (t : ByteArray) (n : Nat) (hn : (F.filter (ofB t)).length = n) :
    Calls Tryd.prog 22 #[.pointer (some ⟨b, 0, none⟩), .string t] wr fun e w' => ∃ ao cap, e = .returned (.slice ao n cap) ∧ LW w w' b v m last F ∧ Below wr.heap.size wr w' := by
  refine (of_any wr w.heap.size b last v m F h.mem h.small t).mono ?_
  rintro e w' ⟨v', G, he, hR, hE, hb⟩
  obtain ⟨ao, cap, rfl, _, _⟩ := hR.slice
  have h1 := like_len hE
  rw [h1, hn] at he
  exact ⟨ao, cap, he, h.next hb, hb⟩
theorem LW.all_len {w wr : World} {b last : Nat} {v m : Value} {F : List Ft} (h : LW w wr b v m last F) (n : Nat) (hn : F.length = n) :
    Calls Tryd.prog 15 #[.pointer (some ⟨b, 0, none⟩)] wr fun e w' => ∃ ao cap, e = .returned (.slice ao n cap) ∧ LW w w' b v m last F ∧ Below wr.heap.size wr w' := by
  refine (all_any wr w.heap.size b last v m F h.mem h.small).mono ?_
  rintro e w' ⟨v', G, he, hR, hE, hb⟩
  obtain ⟨ao, cap, rfl, _, _⟩ := hR.slice
  have h1 := like_len hE
  rw [h1, hn] at he
  exact ⟨ao, cap, he, h.next hb, hb⟩

set_option maxHeartbeats 8000000 in
set_option maxRecDepth 8000 in
theorem known_yes (w : World) (ht : TabW w) : Calls Tryd.prog 7 #[] w fun e w' => e = .returned (.bool true) ∧ Below w.heap.size w w' := by
  go_enter Tryd.func7, Tryd.ntmps7
  go_wp2_with fail
  refine (lw_new w w (Below.refl _ _) ht).mono ?_
  rintro e w1 ⟨b, v1, m1, rfl, H1, _⟩
  go_wp2_with fail
  refine (rint_any 1 _).mono ?_
  rintro e w2 ⟨rfl, hb2⟩
  obtain ⟨H3, A3⟩ := (H1.next hb2).lit ⟨#[112]⟩ 1 (by decide) (by decide)
  have h3 := H3.assert_new A3 rfl (by simp) (by omega)
  clear hb2 A3 H3 H1
  go_wp2_with fail
  refine h3.mono ?_
  rintro e w4 ⟨rfl, v4, m4, a4, c4, H4, _, _⟩
  clear h3
  have h5 := H4.assert_new (ArgV.nilv w4 (Foot b v4 m4) ⟨#[113]⟩ (by decide)) (idOf_none _ _ (by intro f hf; simp at hf; subst hf; exact key_ne ne_pq)) (by simp) (by omega)
  clear H4
  go_wp2_with fail
  refine h5.mono ?_
  rintro e w5 ⟨rfl, v5, m5, a5, c5, H5, _, _⟩
  clear h5
  go_wp2_with fail
  refine (rint_any 1 _).mono ?_
  rintro e w6 ⟨rfl, hb6⟩
  obtain ⟨H6, A6⟩ := (H5.next hb6).lit ⟨#[112]⟩ 1 (by decide) (by decide)
  have h6 := H6.assert_has A6 1 (by simp [idOf, Ft.key]) (by omega)
  clear hb6 A6 H6 H5
  go_wp2_with fail
  refine h6.mono ?_
  rintro e w7 ⟨rfl, H7, _⟩
  have h7 := H7.retract_yes (p := 0) rfl 1 rfl
  clear h6 H7
  go_wp2_with fail
  refine h7.mono ?_
  rintro e w8 ⟨rfl, v8, H8, _, _⟩
  clear h7
  have h8 := get_no w8 w.heap.size b _ _ _ _ H8.mem H8.small 1 (by intro f hf; simp at hf; subst hf; show ((2 : Nat) : Int) ≠ 1; decide)
  go_wp2_with fail
  refine h8.mono ?_
  rintro e w9 ⟨rfl, hb9⟩
  have H9 := H8.next hb9
  clear h8 H8 hb9
  have HX : Hid (∀ w', Below w9.heap.size w9 w' → LW w w' b v8 m5 2 (([] ++ [⟨0 + 1, ⟨#[112]⟩, [⟨1, 1, ⟨#[]⟩⟩], a4, c4⟩] ++ [⟨0 + 1 + 1, ⟨#[113]⟩, [], a5, c5⟩] : List Ft).eraseIdx 0)) := fun w' hb => H9.next hb
  clear H9
  go_wp2_with (first
    | (go_at_call 19; refine ((HX.out _ (alloc_below _ _)).len_is 1 rfl).mono ?_; rintro e w9 ⟨rfl, rfl⟩)
    | (go_at_call 20; refine ((HX.out _ (alloc_below _ _)).next_is 3 rfl).mono ?_; rintro e w9 ⟨rfl, rfl⟩)
    | (go_at_call 22; refine ((HX.out _ (alloc_below _ _)).of_len ⟨#[113]⟩ 1 (by rfl)).mono ?_; rintro e w10 ⟨ao10, cap10, rfl, H10, _⟩)
    | (go_at_call 15; refine (H10.all_len 1 (by rfl)).mono ?_; rintro e w11 ⟨ao11, cap11, rfl, H11, _⟩))
  go_ret
  exact ⟨rfl, H11.bel⟩
end Go.Proofs.YtgjnnahflaaagaaDoor
