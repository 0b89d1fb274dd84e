/- Plain facts on values: when two are the same; their order; how they are written. No program in sight. -/
import Derived.Test.YtgjnnahflaaagaaDoorNumPart
import Derived.Lib.Bytealg
import Derived.Lib.Small
namespace Go.Proofs.YtgjnnahflaaagaaDoor
open Go.RowKit

theorem list_ba {a b : ByteArray} : a.toList = b.toList ↔ a = b := by
  constructor
  · intro h
    rw [Lib.toList_data, Lib.toList_data] at h
    obtain ⟨⟨x⟩⟩ := a
    obtain ⟨⟨y⟩⟩ := b
    simp at h
    rw [h]
  · intro h; rw [h]

/-- Are two values the same? -/
def sameB (k i : Int) (s : ByteArray) (k' i' : Int) (s' : ByteArray) : Bool := decide (k = k' ∧ i = i' ∧ s = s')
theorem sameB_iff {k i k' i' : Int} {s s' : ByteArray} : sameB k i s k' i' s' = true ↔ (k = k' ∧ i = i' ∧ s = s') := by unfold sameB; simp
theorem sameB_refl (k i : Int) (s : ByteArray) : sameB k i s k i s = true := by rw [sameB_iff]; exact ⟨rfl, rfl, rfl⟩
theorem sameB_no {k i k' i' : Int} {s s' : ByteArray} (h : ¬ (k = k' ∧ i = i' ∧ s = s')) : sameB k i s k' i' s' = false := by unfold sameB; exact decide_eq_false h

def trueS : ByteArray := ⟨#[84, 82, 85, 69]⟩
def falseS : ByteArray := ⟨#[70, 65, 76, 83, 69]⟩
def boolS (b : Bool) : ByteArray := if b then ⟨#[84, 82, 85, 69]⟩ else ⟨#[70, 65, 76, 83, 69]⟩
def trueB (k i : Int) (s : ByteArray) : Bool := !sameB k i s 2 0 ⟨#[70, 65, 76, 83, 69]⟩

/-- May a byte stand in a symbol? -/
def signB (c : UInt8) : Bool := decide (33 ≤ c.toNat ∧ c.toNat ≤ 126 ∧ c.toNat ≠ 40 ∧ c.toNat ≠ 41 ∧ c.toNat ≠ 34 ∧ c.toNat ≠ 59 ∧ c.toNat ≠ 63 ∧ c.toNat ≠ 126)
def allS (l : List UInt8) : Bool := l.all signB
theorem allS_snoc (l : List UInt8) (c : UInt8) : allS (l ++ [c]) = (allS l && signB c) := by unfold allS; rw [List.all_append]; simp
theorem allS_take {l : List UInt8} (k : Nat) (h : allS l = true) : allS (l.take k) = true := by
  unfold allS at *
  rw [List.all_eq_true] at *
  exact fun x hx => h x (List.mem_of_mem_take hx)
theorem allS_no {l : List UInt8} {k : Nat} (h : allS (l.take k) = false) : allS l = false := by
  cases e : allS l
  · rfl
  · rw [allS_take k e] at h; exact absurd h (by decide)

/-- May a text be a symbol's? -/
def symB (s : ByteArray) : Bool := decide (1 ≤ s.size ∧ s.size ≤ 40) && (allS s.data.toList && !shapeL s.data.toList)
/-- Is a value one as there may be? -/
def rightB (k i : Int) (s : ByteArray) : Bool :=
  if k = 1 then decide (s.size = 0) else if k = 2 then decide (i = 0) && symB s else if k = 3 then decide (i = 0 ∧ s.size ≤ 1000) else false
theorem right_int (i : Int) (s : ByteArray) : rightB 1 i s = decide (s.size = 0) := rfl
theorem right_sym (i : Int) (s : ByteArray) : rightB 2 i s = (decide (i = 0) && symB s) := rfl
theorem right_str (i : Int) (s : ByteArray) : rightB 3 i s = decide (i = 0 ∧ s.size ≤ 1000) := rfl
theorem right_none {k : Int} (i : Int) (s : ByteArray) (h1 : k ≠ 1) (h2 : k ≠ 2) (h3 : k ≠ 3) : rightB k i s = false := by unfold rightB; rw [if_neg h1, if_neg h2, if_neg h3]
theorem right_kind {k i : Int} {s : ByteArray} (h : rightB k i s = true) : k = 1 ∨ k = 2 ∨ k = 3 := by
  by_cases h1 : k = 1
  · exact .inl h1
  by_cases h2 : k = 2
  · exact .inr (.inl h2)
  by_cases h3 : k = 3
  · exact .inr (.inr h3)
  rw [right_none i s h1 h2 h3] at h
  exact absurd h (by decide)

/-- A string between its marks. -/
def markB (c : UInt8) : Bool := decide (c.toNat = 34 ∨ c.toNat = 92)
def escL (l : List UInt8) : List UInt8 := l.flatMap fun c => if markB c = true then [92, c] else [c]
def quoteL (l : List UInt8) : List UInt8 := 34 :: (escL l ++ [34])
def quoteS (s : ByteArray) : ByteArray := ⟨(quoteL s.data.toList).toArray⟩
theorem escL_app (l r : List UInt8) : escL (l ++ r) = escL l ++ escL r := by unfold escL; rw [List.flatMap_append]
theorem escL_one (c : UInt8) : escL [c] = if markB c = true then [92, c] else [c] := by unfold escL; simp
theorem escL_cons (c : UInt8) (l : List UInt8) : escL (c :: l) = (if markB c = true then [92, c] else [c]) ++ escL l := by unfold escL; rw [List.flatMap_cons]
theorem escL_len (l : List UInt8) : l.length ≤ (escL l).length ∧ (escL l).length ≤ 2 * l.length := by
  induction l with
  | nil => exact ⟨Nat.le_refl _, Nat.le_refl _⟩
  | cons c r ih =>
    rw [escL_cons, List.length_append, List.length_cons]
    split <;> simp <;> omega
theorem quoteS_list (s : ByteArray) : (quoteS s).data.toList = 34 :: (escL s.data.toList ++ [34]) := rfl
theorem quoteS_size (s : ByteArray) : (quoteS s).size = (escL s.data.toList).length + 2 := by
  show (quoteL s.data.toList).length = _
  unfold quoteL; simp

/-- What a value is written as. -/
def textS (k i : Int) (s : ByteArray) : ByteArray := if k = 1 then ⟨(Lib.itoa i).toArray⟩ else if k = 2 then s else if k = 3 then quoteS s else ⟨#[]⟩
def rtextS (k i : Int) (s : ByteArray) : ByteArray := if k = 1 then ⟨(Lib.itoa i).toArray⟩ else if k = 3 then quoteS s else s
theorem text_right {k i : Int} {s : ByteArray} (h : k = 1 ∨ k = 2 ∨ k = 3) : textS k i s = rtextS k i s := by
  rcases h with rfl | rfl | rfl <;> rfl

/-- The order of values: by kind, then number, then text. -/
def cmpV (k i : Int) (s : ByteArray) (k' i' : Int) (s' : ByteArray) : Int :=
  if Lib.compareInt k k' ≠ 0 then Lib.compareInt k k' else if Lib.compareInt i i' ≠ 0 then Lib.compareInt i i' else Lib.compareBytes s.data.toList s'.data.toList
theorem cmpI_bd (x y : Int) : -1 ≤ Lib.compareInt x y ∧ Lib.compareInt x y ≤ 1 := by unfold Lib.compareInt; split <;> (try split) <;> omega
theorem cmpB_bd : ∀ (a b : List UInt8), -1 ≤ Lib.compareBytes a b ∧ Lib.compareBytes a b ≤ 1
  | [], [] => by unfold Lib.compareBytes; omega
  | [], _ :: _ => by unfold Lib.compareBytes; omega
  | _ :: _, [] => by unfold Lib.compareBytes; omega
  | x :: a, y :: b => by
    have ih := cmpB_bd a b
    unfold Lib.compareBytes
    split
    · omega
    · split
      · omega
      · exact ih
theorem cmpV_bd (k i : Int) (s : ByteArray) (k' i' : Int) (s' : ByteArray) : -1 ≤ cmpV k i s k' i' s' ∧ cmpV k i s k' i' s' ≤ 1 := by
  have h1 := cmpI_bd k k'
  have h2 := cmpI_bd i i'
  have h3 := cmpB_bd s.data.toList s'.data.toList
  unfold cmpV
  split
  · exact h1
  · split
    · exact h2
    · exact h3
theorem cmpI_pos {x y : Int} : 0 < Lib.compareInt x y ↔ y < x := by unfold Lib.compareInt; split <;> (try split) <;> omega
theorem cmpI_neg {x y : Int} : Lib.compareInt x y < 0 ↔ x < y := by unfold Lib.compareInt; split <;> (try split) <;> omega
theorem cmpI_eq {x y : Int} : Lib.compareInt x y = 0 ↔ x = y := by unfold Lib.compareInt; split <;> (try split) <;> omega

/-- The order of texts goes on: 'not behind' twice is 'not behind'. -/
theorem cmpB_le : ∀ (a b c : List UInt8), Lib.compareBytes a b ≤ 0 → Lib.compareBytes b c ≤ 0 → Lib.compareBytes a c ≤ 0
  | [], _, [], _, _ => by unfold Lib.compareBytes; omega
  | [], _, _ :: _, _, _ => by unfold Lib.compareBytes; omega
  | _ :: _, [], _, h, _ => by unfold Lib.compareBytes at h; omega
  | _ :: _, _ :: _, [], _, h => by unfold Lib.compareBytes at h; omega
  | x :: a, y :: b, z :: c, h1, h2 => by
    have ih := cmpB_le a b c
    unfold Lib.compareBytes at h1 h2 ⊢
    simp only [UInt8.lt_iff_toNat_lt] at *
    by_cases p1 : x.toNat < y.toNat
    · by_cases p2 : y.toNat < z.toNat
      · rw [if_pos (by omega)]; omega
      · rw [if_neg p2] at h2
        by_cases p3 : z.toNat < y.toNat
        · rw [if_pos p3] at h2; omega
        · rw [if_pos (by omega)]; omega
    · rw [if_neg p1] at h1
      by_cases p4 : y.toNat < x.toNat
      · rw [if_pos p4] at h1; omega
      · rw [if_neg p4] at h1
        by_cases p2 : y.toNat < z.toNat
        · rw [if_pos (by omega)]; omega
        · rw [if_neg p2] at h2
          by_cases p3 : z.toNat < y.toNat
          · rw [if_pos p3] at h2; omega
          · rw [if_neg p3] at h2
            rw [if_neg (by omega), if_neg (by omega)]
            exact ih h1 h2
theorem cmpB_flip : ∀ (a b : List UInt8), Lib.compareBytes b a = -Lib.compareBytes a b
  | [], [] => rfl
  | [], _ :: _ => rfl
  | _ :: _, [] => rfl
  | x :: a, y :: b => by
    have ih := cmpB_flip a b
    unfold Lib.compareBytes
    simp only [UInt8.lt_iff_toNat_lt] at *
    by_cases p1 : x.toNat < y.toNat
    · rw [if_neg (by omega), if_pos p1, if_pos p1]; rfl
    · by_cases p2 : y.toNat < x.toNat
      · rw [if_pos p2, if_neg p1, if_pos p2]
      · rw [if_neg p2, if_neg p1, if_neg p1, if_neg p2]; exact ih
theorem cmpI_flip (x y : Int) : Lib.compareInt y x = -Lib.compareInt x y := by unfold Lib.compareInt; split <;> (try split) <;> (try split) <;> (try split) <;> omega
theorem cmpV_flip (k i : Int) (s : ByteArray) (k' i' : Int) (s' : ByteArray) : cmpV k' i' s' k i s = -cmpV k i s k' i' s' := by
  unfold cmpV
  rw [cmpI_flip k k', cmpI_flip i i', cmpB_flip]
  split <;> split <;> (try split) <;> (try split) <;> omega
theorem cmpV_iff (k i : Int) (s : ByteArray) (k' i' : Int) (s' : ByteArray) : cmpV k i s k' i' s' ≤ 0 ↔ (k < k' ∨ (k = k' ∧ (i < i' ∨ (i = i' ∧ Lib.compareBytes s.data.toList s'.data.toList ≤ 0)))) := by
  unfold cmpV
  have a1 := cmpI_pos (x := k) (y := k')
  have a2 := cmpI_neg (x := k) (y := k')
  have b1 := cmpI_pos (x := i) (y := i')
  have b2 := cmpI_neg (x := i) (y := i')
  split
  · omega
  · split <;> omega
theorem cmpV_le (k i : Int) (s : ByteArray) (k' i' : Int) (s' : ByteArray) (k'' i'' : Int) (s'' : ByteArray) (h1 : cmpV k i s k' i' s' ≤ 0) (h2 : cmpV k' i' s' k'' i'' s'' ≤ 0) : cmpV k i s k'' i'' s'' ≤ 0 := by
  have hb := cmpB_le s.data.toList s'.data.toList s''.data.toList
  rw [cmpV_iff] at *
  omega
theorem cmpV_ge (k i : Int) (s : ByteArray) (k' i' : Int) (s' : ByteArray) (k'' i'' : Int) (s'' : ByteArray) (h1 : 0 ≤ cmpV k i s k' i' s') (h2 : 0 ≤ cmpV k' i' s' k'' i'' s'') : 0 ≤ cmpV k i s k'' i'' s'' := by
  have a := cmpV_flip k i s k' i' s'
  have b := cmpV_flip k' i' s' k'' i'' s''
  have c := cmpV_flip k i s k'' i'' s''
  have := cmpV_le k'' i'' s'' k' i' s' k i s (by omega) (by omega)
  omega
end Go.Proofs.YtgjnnahflaaagaaDoor
