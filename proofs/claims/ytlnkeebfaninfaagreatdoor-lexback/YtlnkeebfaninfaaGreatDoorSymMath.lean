/- What a name is, in plain words over bytes. -/
import Derived.Test.YtlnkeebfaninfaaGreatDoorNumText
namespace Go.Proofs.YtlnkeebfaninfaaGreatDoor
open Go.RowKit

def ltrI (c : Int) : Bool := decide ((97 ≤ c ∧ c ≤ 122) ∨ (65 ≤ c ∧ c ≤ 90))
def othI (c : Int) : Bool := decide (c = 45 ∨ c = 95 ∨ (48 ≤ c ∧ c ≤ 57))
def partI (c : Int) : Bool := ltrI c || othI c
def fitB (c : Int) (f : Bool) : Bool := ltrI c || (othI c && !f)
def letB (c : UInt8) : Bool := ltrI c.toNat
def partB (c : UInt8) : Bool := partI c.toNat
def okL : List UInt8 → Bool
  | [] => true
  | c :: r => letB c && r.all partB
def goodL (l : List UInt8) : Bool := decide (l ≠ [] ∧ l.length ≤ 40) && okL l
def goodB (s : ByteArray) : Bool := goodL s.data.toList

theorem fitB_first (c : Int) : fitB c true = ltrI c := by simp [fitB]
theorem fitB_behind (c : Int) : fitB c false = partI c := by simp [fitB, partI]
theorem partB_of_let {c : UInt8} (h : letB c = true) : partB c = true := by unfold letB at h; simp [partB, partI, h]

theorem size_list (s : ByteArray) : s.data.toList.length = s.size := Array.length_toList
theorem okL_snoc (l : List UInt8) (c : UInt8) : okL (l ++ [c]) = (okL l && fitB c.toNat (l.length == 0)) := by
  cases l with
  | nil => simp [okL, fitB_first, letB]
  | cons a r =>
    have e : ((a :: r).length == 0) = false := by simp
    rw [e, fitB_behind]
    simp [okL, partB, Bool.and_assoc]
theorem okL_step (s : ByteArray) (k : Nat) (h : k < s.size) : okL (s.data.toList.take (k + 1)) = (okL (s.data.toList.take k) && fitB s[k].toNat (k == 0)) := by
  rw [take_snoc s k h, okL_snoc]
  have e : (s.data.toList.take k).length = k := by have := size_list s; rw [List.length_take]; omega
  rw [e]
theorem okL_append_false (l r : List UInt8) (h : okL l = false) : okL (l ++ r) = false := by
  cases l with
  | nil => simp [okL] at h
  | cons a t =>
    simp only [List.cons_append, okL, List.all_append, Bool.and_eq_false_iff] at h ⊢
    rcases h with h | h
    · exact .inl h
    · exact .inr (.inl h)
theorem okL_of_take_false (l : List UInt8) (k : Nat) (h : okL (l.take k) = false) : okL l = false := by
  have := okL_append_false _ (l.drop k) h
  rwa [List.take_append_drop] at this
theorem goodB_ok (s : ByteArray) (h0 : 0 < s.size) (h : s.size ≤ 40) : goodB s = okL s.data.toList := by
  unfold goodB goodL
  have h1 : s.data.toList ≠ [] := fun e => by have := size_list s; rw [e] at this; simp at this; omega
  have h2 := size_list s
  rw [decide_eq_true ⟨h1, by omega⟩, Bool.true_and]
theorem goodB_long (s : ByteArray) (h : 40 < s.size) : goodB s = false := by
  unfold goodB goodL
  have h2 := size_list s
  rw [decide_eq_false (fun e => by omega), Bool.false_and]
theorem goodB_size {s : ByteArray} (h : goodB s = true) : 0 < s.size ∧ s.size ≤ 40 := by
  refine ⟨?_, ?_⟩
  · apply Nat.pos_of_ne_zero
    intro e
    have h2 := size_list s
    have h3 : s.data.toList = [] := List.eq_nil_of_length_eq_zero (by omega)
    unfold goodB goodL at h
    simp [h3] at h
  · apply Nat.le_of_not_lt
    intro e
    rw [goodB_long s e] at h
    cases h

/-- The reference's way: the first a letter, then all of them parts. -/
theorem okL_all (l : List UInt8) (c : UInt8) (r : List UInt8) (e : l = c :: r) (h : letB c = true) : okL l = l.all partB := by
  subst e
  simp [okL, h, partB_of_let h]
theorem all_step (s : ByteArray) (k : Nat) (h : k < s.size) : (s.data.toList.take (k + 1)).all partB = ((s.data.toList.take k).all partB && partB s[k]) := by
  rw [take_snoc s k h]
  simp
theorem all_of_take_false (l : List UInt8) (k : Nat) (h : (l.take k).all partB = false) : l.all partB = false := by
  have e : l.all partB = ((l.take k).all partB && (l.drop k).all partB) := by rw [← List.all_append, List.take_append_drop]
  rw [e, h, Bool.false_and]
theorem goodB_all (s : ByteArray) (h0 : 0 < s.size) (h : s.size ≤ 40) (hl : ltrI s[0].toNat = true) : goodB s = s.data.toList.all partB := by
  rw [goodB_ok s h0 h]
  have h2 := size_list s
  cases e : s.data.toList with
  | nil => rw [e] at h2; simp at h2; omega
  | cons c r =>
    have hc : s[0] = c := by
      show s.data[0] = c
      rw [← Array.getElem_toList]
      simp [e]
    rw [hc] at hl
    exact okL_all _ c r rfl hl
theorem goodB_no (s : ByteArray) (h0 : 0 < s.size) (h : s.size ≤ 40) (hl : ltrI s[0].toNat = false) : goodB s = false := by
  rw [goodB_ok s h0 h]
  have h2 := size_list s
  cases e : s.data.toList with
  | nil => rw [e] at h2; simp at h2; omega
  | cons c r =>
    have hc : s[0] = c := by
      show s.data[0] = c
      rw [← Array.getElem_toList]
      simp [e]
    rw [hc] at hl
    have hl' : letB c = false := hl
    simp [okL, hl']
end Go.Proofs.YtlnkeebfaninfaaGreatDoor
