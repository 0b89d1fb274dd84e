/- Contracts of package lex's Text and of the reference's: tokens of the kinds that there are. -/
import Derived.Test.YtlnkeebfaninfaaGreatDoorValText
import Derived.Test.YtlnkeebfaninfaaGreatDoorLexOne
namespace Go.Proofs.YtlnkeebfaninfaaGreatDoor
open Go.RowKit

/-- A token's text. -/
def tokS (k i : Int) (s : ByteArray) : ByteArray :=
  if k = 4 then ⟨#[40]⟩ else if k = 5 then ⟨#[41]⟩ else if k = 6 then ⟨#[63]⟩ ++ s else if k = 7 then ⟨#[63, 42]⟩ ++ s ++ ⟨#[42]⟩ else if k = 8 then ⟨#[126]⟩ else rtextS k i s
def isKind (k : Int) : Prop := k = 1 ∨ k = 2 ∨ k = 3 ∨ k = 4 ∨ k = 5 ∨ k = 6 ∨ k = 7 ∨ k = 8
theorem tokS_val {k : Int} (i : Int) (s : ByteArray) (h : k = 1 ∨ k = 2 ∨ k = 3) : tokS k i s = textS k i s := by
  rw [text_right h]
  unfold tokS
  rw [if_neg (by omega), if_neg (by omega), if_neg (by omega), if_neg (by omega), if_neg (by omega)]

set_option maxHeartbeats 2000000 in
set_option maxRecDepth 4000 in
theorem lex_text (k a i : Int) (s : ByteArray) (w : World) (hk : isKind k) (hs : s.size ≤ 10000) (hi : inB i = true) (ht : TabW w) :
    Calls Tryz.prog 11 #[.agg #[.int .i64 (k), .int .i64 (a), .int .i64 (i), .string (s)]] w fun e w' => e = .returned (.string (tokS k i s)) ∧ Below w.heap.size w w' := by
  have hval : (k = 1 ∨ k = 2 ∨ k = 3) → Calls Tryz.prog 11 #[.agg #[.int .i64 (k), .int .i64 (a), .int .i64 (i), .string (s)]] w fun e w' => e = .returned (.string (tokS k i s)) ∧ Below w.heap.size w w' := by
    intro h
    obtain ⟨X, HX⟩ : ∃ X, Hid (tokS k i s = X) := ⟨_, rfl⟩
    have HT : Hid (∀ w' : World, Below w.heap.size w w' → Calls Tryz.prog 24 #[.agg #[.int .i64 (k), .int .i64 (i), .string (s)]] w' fun e w2 => e = .returned (.string X) ∧ Below w'.heap.size w' w2) := by
      intro w' hb
      rw [← HX.out, tokS_val i s h]
      exact text_val k i s w' (by omega) hi (tab_next ht hb)
    rw [HX.out]
    have d4 : (k == 4) = false := by simp; omega
    have d5 : (k == 5) = false := by simp; omega
    have d6 : (k == 6) = false := by simp; omega
    have d7 : (k == 7) = false := by simp; omega
    have d8 : (k == 8) = false := by simp; omega
    clear h hk ht
    go_enter Tryz.func11, Tryz.ntmps11
    go_wp2_with fail
    refine (HT.out _ (alloc_below _ _)).mono ?_
    rintro e w1 ⟨rfl, hb1⟩
    have HB : Hid (Below w.heap.size w w1) := next_trans (alloc_below _ _) hb1
    clear hb1
    go_wp2
    go_ret
    exact ⟨rfl, HB.out⟩
  rcases hk with h | h | h | h | h | h | h | h
  · exact hval (.inl h)
  · exact hval (.inr (.inl h))
  · exact hval (.inr (.inr h))
  · subst h
    go_enter Tryz.func11, Tryz.ntmps11
    go_wp2
    go_ret
    exact ⟨rfl, alloc_below _ _⟩
  · subst h
    go_enter Tryz.func11, Tryz.ntmps11
    go_wp2
    go_ret
    exact ⟨rfl, alloc_below _ _⟩
  · subst h
    go_enter Tryz.func11, Tryz.ntmps11
    go_wp2
    go_ret
    exact ⟨rfl, alloc_below _ _⟩
  · subst h
    go_enter Tryz.func11, Tryz.ntmps11
    go_wp2
    go_ret
    exact ⟨rfl, alloc_below _ _⟩
  · subst h
    go_enter Tryz.func11, Tryz.ntmps11
    go_wp2
    go_ret
    exact ⟨rfl, alloc_below _ _⟩

set_option maxHeartbeats 2000000 in
set_option maxRecDepth 4000 in
theorem rlex_text (k a i : Int) (s : ByteArray) (w : World) (hk : isKind k) (hs : s.size ≤ 10000) (hi : inB i = true) :
    Calls Tryz.prog 12 #[.agg #[.int .i64 (k), .int .i64 (a), .int .i64 (i), .string (s)]] w fun e w' => e = .returned (.string (tokS k i s)) ∧ Below w.heap.size w w' := by
  have hval : (k = 1 ∨ k = 2 ∨ k = 3) → Calls Tryz.prog 12 #[.agg #[.int .i64 (k), .int .i64 (a), .int .i64 (i), .string (s)]] w fun e w' => e = .returned (.string (tokS k i s)) ∧ Below w.heap.size w w' := by
    intro h
    obtain ⟨X, HX⟩ : ∃ X, Hid (tokS k i s = X) := ⟨_, rfl⟩
    have HT : Hid (∀ w' : World, Calls Tryz.prog 25 #[.agg #[.int .i64 (k), .int .i64 (i), .string (s)]] w' fun e w2 => e = .returned (.string X) ∧ Below w'.heap.size w' w2) := by
      intro w'
      rw [← HX.out, tokS_val i s h, text_right h]
      exact rtext_val k i s w' (by omega) hi
    rw [HX.out]
    have d4 : (k == 4) = false := by simp; omega
    have d5 : (k == 5) = false := by simp; omega
    have d6 : (k == 6) = false := by simp; omega
    have d7 : (k == 7) = false := by simp; omega
    have d8 : (k == 8) = false := by simp; omega
    clear h hk
    go_enter Tryz.func12, Tryz.ntmps12
    go_wp2_with fail
    refine (HT.out _).mono ?_
    rintro e w1 ⟨rfl, hb1⟩
    have HB : Hid (Below w.heap.size w w1) := next_trans (alloc_below _ _) hb1
    clear hb1
    go_wp2
    go_ret
    exact ⟨rfl, HB.out⟩
  rcases hk with h | h | h | h | h | h | h | h
  · exact hval (.inl h)
  · exact hval (.inr (.inl h))
  · exact hval (.inr (.inr h))
  · subst h
    go_enter Tryz.func12, Tryz.ntmps12
    go_wp2
    go_ret
    exact ⟨rfl, alloc_below _ _⟩
  · subst h
    go_enter Tryz.func12, Tryz.ntmps12
    go_wp2
    go_ret
    exact ⟨rfl, alloc_below _ _⟩
  · subst h
    go_enter Tryz.func12, Tryz.ntmps12
    go_wp2
    go_ret
    exact ⟨rfl, alloc_below _ _⟩
  · subst h
    go_enter Tryz.func12, Tryz.ntmps12
    go_wp2
    go_ret
    exact ⟨rfl, alloc_below _ _⟩
  · subst h
    go_enter Tryz.func12, Tryz.ntmps12
    go_wp2
    go_ret
    exact ⟨rfl, alloc_below _ _⟩
end Go.Proofs.YtlnkeebfaninfaaGreatDoor
