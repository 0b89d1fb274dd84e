import Derived.Lib.Bytealg
import Derived.Lib.Small
import Derived.Test.YtnhbjhdkpbhioaaGreatDoorProg
import Derived.WalkKit
import Derived.Deep.QuietTactic
import Derived.BigQuiet
import Derived.Deep.RegionHeld3
import Derived.Lib.ItoaNum
import Derived.WalkLawsBesides
import Derived.WalkSpells
import Derived.Outline
import Derived.Test.YtnhbjhdkpbhioaaGreatDoorG1
namespace Go.Proofs.YtnhbjhdkpbhioaaGreatDoor
open Go.RowKit
theorem list_ba {a b : ByteArray} : a.toList = b.toList ↔ a = b := by
  constructor
  · intro h
    rw [Lib.toList_data, Lib.toList_data] at h
    obtain ⟨⟨x⟩⟩ := a
    obtain ⟨⟨y⟩⟩ := b
    simp at h
    rw [h]
  · intro h; rw [h]
def sameB (k i : Int) (s : ByteArray) (k' i' : Int) (s' : ByteArray) : Bool := decide (k = k' ∧ i = i' ∧ s = s')
theorem sameB_iff {k i k' i' : Int} {s s' : ByteArray} : sameB k i s k' i' s' = true ↔ (k = k' ∧ i = i' ∧ s = s') := by unfold sameB; simp
theorem sameB_refl (k i : Int) (s : ByteArray) : sameB k i s k i s = true := by rw [sameB_iff]; exact ⟨rfl, rfl, rfl⟩
theorem sameB_no {k i k' i' : Int} {s s' : ByteArray} (h : ¬ (k = k' ∧ i = i' ∧ s = s')) : sameB k i s k' i' s' = false := by unfold sameB; exact decide_eq_false h
def signB (c : UInt8) : Bool := decide (33 ≤ c.toNat ∧ c.toNat ≤ 126 ∧ c.toNat ≠ 40 ∧ c.toNat ≠ 41 ∧ c.toNat ≠ 34 ∧ c.toNat ≠ 59 ∧ c.toNat ≠ 63 ∧ c.toNat ≠ 126)
def allS (l : List UInt8) : Bool := l.all signB
theorem allS_snoc (l : List UInt8) (c : UInt8) : allS (l ++ [c]) = (allS l && signB c) := by unfold allS; rw [List.all_append]; simp
theorem allS_take {l : List UInt8} (k : Nat) (h : allS l = true) : allS (l.take k) = true := by
  unfold allS at *
  rw [List.all_eq_true] at *
  exact fun x hx => h x (List.mem_of_mem_take hx)
theorem allS_no {l : List UInt8} {k : Nat} (h : allS (l.take k) = false) : allS l = false := by
  cases e : allS l
  · rfl
  · rw [allS_take k e] at h; exact absurd h (by decide)
def symB (s : ByteArray) : Bool := decide (1 ≤ s.size ∧ s.size ≤ 40) && (allS s.data.toList && !shapeL s.data.toList)
def rightB (k i : Int) (s : ByteArray) : Bool :=
  if k = 1 then decide (s.size = 0) else if k = 2 then decide (i = 0) && symB s else if k = 3 then decide (i = 0 ∧ s.size ≤ 1000) else false
theorem right_int (i : Int) (s : ByteArray) : rightB 1 i s = decide (s.size = 0) := rfl
theorem right_sym (i : Int) (s : ByteArray) : rightB 2 i s = (decide (i = 0) && symB s) := rfl
theorem right_str (i : Int) (s : ByteArray) : rightB 3 i s = decide (i = 0 ∧ s.size ≤ 1000) := rfl
theorem right_none {k : Int} (i : Int) (s : ByteArray) (h1 : k ≠ 1) (h2 : k ≠ 2) (h3 : k ≠ 3) : rightB k i s = false := by unfold rightB; rw [if_neg h1, if_neg h2, if_neg h3]
def markB (c : UInt8) : Bool := decide (c.toNat = 34 ∨ c.toNat = 92)
def escL (l : List UInt8) : List UInt8 := l.flatMap fun c => if markB c = true then [92, c] else [c]
def quoteL (l : List UInt8) : List UInt8 := 34 :: (escL l ++ [34])
def quoteS (s : ByteArray) : ByteArray := ⟨(quoteL s.data.toList).toArray⟩
theorem escL_app (l r : List UInt8) : escL (l ++ r) = escL l ++ escL r := by unfold escL; rw [List.flatMap_append]
theorem escL_one (c : UInt8) : escL [c] = if markB c = true then [92, c] else [c] := by unfold escL; simp
theorem escL_cons (c : UInt8) (l : List UInt8) : escL (c :: l) = (if markB c = true then [92, c] else [c]) ++ escL l := by unfold escL; rw [List.flatMap_cons]
theorem escL_len (l : List UInt8) : l.length ≤ (escL l).length ∧ (escL l).length ≤ 2 * l.length := by
  induction l with
  | nil => exact ⟨Nat.le_refl _, Nat.le_refl _⟩
  | cons c r ih =>
    rw [escL_cons, List.length_append, List.length_cons]
    split <;> simp <;> omega
def textS (k i : Int) (s : ByteArray) : ByteArray := if k = 1 then ⟨(Lib.itoa i).toArray⟩ else if k = 2 then s else if k = 3 then quoteS s else ⟨#[]⟩
def rtextS (k i : Int) (s : ByteArray) : ByteArray := if k = 1 then ⟨(Lib.itoa i).toArray⟩ else if k = 3 then quoteS s else s
theorem text_right {k i : Int} {s : ByteArray} (h : k = 1 ∨ k = 2 ∨ k = 3) : textS k i s = rtextS k i s := by
  rcases h with rfl | rfl | rfl <;> rfl
end Go.Proofs.YtnhbjhdkpbhioaaGreatDoor
namespace Go.Proofs.YtnhbjhdkpbhioaaGreatDoor
open Go.RowKit
theorem ret_b {a b : Bool} (h : a = b) : Ending.returned (.bool a) = .returned (.bool b) := by rw [h]
theorem beq_ba (a b : ByteArray) : (a.toList == b.toList) = decide (a = b) := by rw [Bool.eq_iff_iff, beq_iff_eq, decide_eq_true_iff]; exact list_ba
theorem keep_cell {w1 w2 : World} {p : Addr} {v : Value} (hb : Below w1.heap.size w1 w2) (h : w1.cell? p = some v) : w2.cell? p = some v := by
  have hl := World.block_lt_of_cell? w1 p h
  rw [hb.cell hl]; exact h
theorem keep_froz {w1 w2 : World} {p : Addr} {v : Value} {b : Bool} (hb : Below w1.heap.size w1 w2) (h : w1.cell? p = some v) (hf : w1.frozen? p = b) : w2.frozen? p = b := by
  have hl := World.block_lt_of_cell? w1 p h
  rw [hb.frozen hl]; exact hf
theorem below_next {w0 w1 w2 : World} {B : Nat} (h : Below B w0 w1) (h2 : Below w1.heap.size w1 w2) (hB : B ≤ w1.heap.size) : Below B w0 w2 := h.trans (h2.mono hB)
theorem of_sym (s : ByteArray) (w : World) :
    Calls Tryz.prog 162 #[.string s] w fun e w' => e = .returned (.agg #[.int .i64 (2), .int .i64 (0), .string (s)]) ∧ Below w.heap.size w w' := by
  go_enter Tryz.func162, Tryz.ntmps162
  go_wp2
  exact bodyPost_ret (v := .agg #[.int .i64 (2), .int .i64 (0), .string (s)]) (by simp [results, Tryz.results162, go_sem]) rfl ⟨rfl, (Below.refl _ _).alloc (Nat.le_refl _) _⟩
theorem of_str (s : ByteArray) (w : World) :
    Calls Tryz.prog 158 #[.string s] w fun e w' => e = .returned (.agg #[.int .i64 (3), .int .i64 (0), .string (s)]) ∧ Below w.heap.size w w' := by
  go_enter Tryz.func158, Tryz.ntmps158
  go_wp2
  exact bodyPost_ret (v := .agg #[.int .i64 (3), .int .i64 (0), .string (s)]) (by simp [results, Tryz.results158, go_sem]) rfl ⟨rfl, (Below.refl _ _).alloc (Nat.le_refl _) _⟩
theorem rint_any (i : Int) (w : World) :
    Calls Tryz.prog 74 #[.int .i64 i] w fun e w' => e = .returned (.agg #[.int .i64 (1), .int .i64 (i), .string (⟨#[]⟩)]) ∧ Below w.heap.size w w' := by
  go_enter Tryz.func74, Tryz.ntmps74
  go_wp2
  exact bodyPost_ret (v := .agg #[.int .i64 (1), .int .i64 (i), .string (⟨#[]⟩)]) (by simp [results, Tryz.results74, go_sem]) rfl ⟨rfl, (Below.refl _ _).alloc (Nat.le_refl _) _⟩
theorem rsym_any (s : ByteArray) (w : World) :
    Calls Tryz.prog 42 #[.string s] w fun e w' => e = .returned (.agg #[.int .i64 (2), .int .i64 (0), .string (s)]) ∧ Below w.heap.size w w' := by
  go_enter Tryz.func42, Tryz.ntmps42
  go_wp2
  exact bodyPost_ret (v := .agg #[.int .i64 (2), .int .i64 (0), .string (s)]) (by simp [results, Tryz.results42, go_sem]) rfl ⟨rfl, (Below.refl _ _).alloc (Nat.le_refl _) _⟩
theorem bcells {W w1 : World} (hb : Below W.heap.size W w1) : (∀ b o, b < W.heap.size → w1.cell? ⟨b, o, none⟩ = W.cell? ⟨b, o, none⟩) ∧ (∀ b o, b < W.heap.size → w1.frozen? ⟨b, o, none⟩ = W.frozen? ⟨b, o, none⟩) :=
  ⟨fun b o h => hb.cell (p := ⟨b, o, none⟩) h, fun b o h => hb.frozen (p := ⟨b, o, none⟩) h⟩
theorem same_any (k i k' i' : Int) (s s' : ByteArray) (w : World) :
    Calls Tryz.prog 102 #[.agg #[.int .i64 (k), .int .i64 (i), .string (s)], .agg #[.int .i64 (k'), .int .i64 (i'), .string (s')]] w fun e w' => e = .returned (.bool (sameB k i s k' i' s')) ∧ Below w.heap.size w w' := by
  go_enter Tryz.func102, Tryz.ntmps102
  go_wp2
  all_goals
    go_ret
    refine ⟨ret_b ?_, ((Below.refl _ _).alloc (Nat.le_refl _) _).alloc (by simp) _⟩
    first
      | (symm; rw [sameB_iff]; exact ⟨by first | rfl | assumption, by first | rfl | assumption, by first | rfl | exact list_ba.1 ‹_›⟩)
      | (symm; refine sameB_no fun h => ?_; obtain ⟨h1, h2, h3⟩ := h; simp_all)
theorem rsame_any (k i k' i' : Int) (s s' : ByteArray) (w : World) :
    Calls Tryz.prog 56 #[.agg #[.int .i64 (k), .int .i64 (i), .string (s)], .agg #[.int .i64 (k'), .int .i64 (i'), .string (s')]] w fun e w' => e = .returned (.bool (sameB k i s k' i' s')) ∧ Below w.heap.size w w' := by
  go_enter Tryz.func56, Tryz.ntmps56
  go_wp2
  all_goals
    go_ret
    refine ⟨ret_b ?_, ((Below.refl _ _).alloc (Nat.le_refl _) _).alloc (by simp) _⟩
    first
      | (symm; refine sameB_no fun h => ?_; obtain ⟨h1, h2, h3⟩ := h; contradiction)
      | (rw [beq_ba]; unfold sameB; simp [*])
end Go.Proofs.YtnhbjhdkpbhioaaGreatDoor
namespace Go.Proofs.YtnhbjhdkpbhioaaGreatDoor
open Go.RowKit
structure Val where
  k : Int
  i : Int
  s : ByteArray
def Val.ok (v : Val) : Prop := inB v.k = true ∧ inB v.i = true ∧ v.s.size ≤ 100000
def h1 (v : Val) : List UInt8 := Lib.itoa v.k ++ [32]
def h2 (v : Val) : List UInt8 := Lib.itoa v.i ++ [32]
def h3 (v : Val) : List UInt8 := Lib.itoa (v.s.size : Int) ++ [32]
theorem digits_le : ∀ (k u : Nat), u < 10 ^ (k + 1) → Lib.nDigits u ≤ k + 1 := by
  intro k
  induction k with
  | zero => intro u h; rw [Lib.nDigits_small (by simpa using h)]; exact Nat.le_refl _
  | succ k ih =>
    intro u h
    by_cases c : u < 10
    · rw [Lib.nDigits_small c]; omega
    · rw [Lib.nDigits_big c]
      have := ih (u / 10) (by rw [Nat.pow_succ] at h; omega)
      omega
theorem itoa_len (n : Int) (hn : inB n = true) : (Lib.itoa n).length ≤ 21 := by
  rw [inB_iff] at hn
  unfold Lib.itoa
  have h1 := digits_le 19 n.natAbs (by omega)
  have h2 := digits_le 19 n.toNat (by omega)
  split
  · rw [List.length_cons, Lib.decDigits_length]; omega
  · rw [Lib.decDigits_length]; omega
end Go.Proofs.YtnhbjhdkpbhioaaGreatDoor
namespace Go.Proofs.YtnhbjhdkpbhioaaGreatDoor
open Go.RowKit
def ltrI (c : Int) : Bool := decide ((97 ≤ c ∧ c ≤ 122) ∨ (65 ≤ c ∧ c ≤ 90))
def othI (c : Int) : Bool := decide (c = 45 ∨ c = 95 ∨ (48 ≤ c ∧ c ≤ 57))
def partI (c : Int) : Bool := ltrI c || othI c
def fitB (c : Int) (f : Bool) : Bool := ltrI c || (othI c && !f)
def letB (c : UInt8) : Bool := ltrI c.toNat
def partB (c : UInt8) : Bool := partI c.toNat
def okL : List UInt8 → Bool
  | [] => true
  | c :: r => letB c && r.all partB
def goodL (l : List UInt8) : Bool := decide (l ≠ [] ∧ l.length ≤ 40) && okL l
def goodB (s : ByteArray) : Bool := goodL s.data.toList
theorem fitB_first (c : Int) : fitB c true = ltrI c := by simp [fitB]
theorem fitB_behind (c : Int) : fitB c false = partI c := by simp [fitB, partI]
theorem partB_of_let {c : UInt8} (h : letB c = true) : partB c = true := by unfold letB at h; simp [partB, partI, h]
theorem size_list (s : ByteArray) : s.data.toList.length = s.size := Array.length_toList
theorem okL_snoc (l : List UInt8) (c : UInt8) : okL (l ++ [c]) = (okL l && fitB c.toNat (l.length == 0)) := by
  cases l with
  | nil => simp [okL, fitB_first, letB]
  | cons a r =>
    have e : ((a :: r).length == 0) = false := by simp
    rw [e, fitB_behind]
    simp [okL, partB, Bool.and_assoc]
theorem okL_step (s : ByteArray) (k : Nat) (h : k < s.size) : okL (s.data.toList.take (k + 1)) = (okL (s.data.toList.take k) && fitB s[k].toNat (k == 0)) := by
  rw [take_snoc s k h, okL_snoc]
  have e : (s.data.toList.take k).length = k := by have := size_list s; rw [List.length_take]; omega
  rw [e]
theorem okL_append_false (l r : List UInt8) (h : okL l = false) : okL (l ++ r) = false := by
  cases l with
  | nil => simp [okL] at h
  | cons a t =>
    simp only [List.cons_append, okL, List.all_append, Bool.and_eq_false_iff] at h ⊢
    rcases h with h | h
    · exact .inl h
    · exact .inr (.inl h)
theorem okL_of_take_false (l : List UInt8) (k : Nat) (h : okL (l.take k) = false) : okL l = false := by
  have := okL_append_false _ (l.drop k) h
  rwa [List.take_append_drop] at this
theorem goodB_ok (s : ByteArray) (h0 : 0 < s.size) (h : s.size ≤ 40) : goodB s = okL s.data.toList := by
  unfold goodB goodL
  have h1 : s.data.toList ≠ [] := fun e => by have := size_list s; rw [e] at this; simp at this; omega
  have h2 := size_list s
  rw [decide_eq_true ⟨h1, by omega⟩, Bool.true_and]
theorem goodB_long (s : ByteArray) (h : 40 < s.size) : goodB s = false := by
  unfold goodB goodL
  have h2 := size_list s
  rw [decide_eq_false (fun e => by omega), Bool.false_and]
theorem okL_all (l : List UInt8) (c : UInt8) (r : List UInt8) (e : l = c :: r) (h : letB c = true) : okL l = l.all partB := by
  subst e
  simp [okL, h, partB_of_let h]
theorem all_step (s : ByteArray) (k : Nat) (h : k < s.size) : (s.data.toList.take (k + 1)).all partB = ((s.data.toList.take k).all partB && partB s[k]) := by
  rw [take_snoc s k h]
  simp
theorem all_of_take_false (l : List UInt8) (k : Nat) (h : (l.take k).all partB = false) : l.all partB = false := by
  have e : l.all partB = ((l.take k).all partB && (l.drop k).all partB) := by rw [← List.all_append, List.take_append_drop]
  rw [e, h, Bool.false_and]
theorem goodB_all (s : ByteArray) (h0 : 0 < s.size) (h : s.size ≤ 40) (hl : ltrI s[0].toNat = true) : goodB s = s.data.toList.all partB := by
  rw [goodB_ok s h0 h]
  have h2 := size_list s
  cases e : s.data.toList with
  | nil => rw [e] at h2; simp at h2; omega
  | cons c r =>
    have hc : s[0] = c := by
      show s.data[0] = c
      rw [← Array.getElem_toList]
      simp [e]
    rw [hc] at hl
    exact okL_all _ c r rfl hl
theorem goodB_no (s : ByteArray) (h0 : 0 < s.size) (h : s.size ≤ 40) (hl : ltrI s[0].toNat = false) : goodB s = false := by
  rw [goodB_ok s h0 h]
  have h2 := size_list s
  cases e : s.data.toList with
  | nil => rw [e] at h2; simp at h2; omega
  | cons c r =>
    have hc : s[0] = c := by
      show s.data[0] = c
      rw [← Array.getElem_toList]
      simp [e]
    rw [hc] at hl
    have hl' : letB c = false := hl
    simp [okL, hl']
end Go.Proofs.YtnhbjhdkpbhioaaGreatDoor
namespace Go.Proofs.YtnhbjhdkpbhioaaGreatDoor
open Go.RowKit
theorem fitF_t {c : Int} (h : (97 ≤ c ∧ c ≤ 122) ∨ (65 ≤ c ∧ c ≤ 90) ∨ c = 45 ∨ c = 95 ∨ (48 ≤ c ∧ c ≤ 57)) : true = fitB c false := by
  rw [fitB_behind]; simp [partI, ltrI, othI]; omega
theorem fitF_f {c : Int} (h : ¬ ((97 ≤ c ∧ c ≤ 122) ∨ (65 ≤ c ∧ c ≤ 90) ∨ c = 45 ∨ c = 95 ∨ (48 ≤ c ∧ c ≤ 57))) : false = fitB c false := by
  rw [fitB_behind]; simp [partI, ltrI, othI]; omega
theorem fitT_t {c : Int} (h : (97 ≤ c ∧ c ≤ 122) ∨ (65 ≤ c ∧ c ≤ 90)) : true = fitB c true := by
  rw [fitB_first]; simp [ltrI]; omega
theorem fitT_f {c : Int} (h : ¬ ((97 ≤ c ∧ c ≤ 122) ∨ (65 ≤ c ∧ c ≤ 90))) : false = fitB c true := by
  rw [fitB_first]; simp [ltrI]; omega
set_option maxHeartbeats 1000000 in
theorem sfits_any (c : Int) (f : Bool) (w : World) :
    Calls Tryz.prog 178 #[.int .u8 c, .bool f] w fun e w' => e = .returned (.bool (fitB c f)) ∧ w' = w := by
  by_cases h1 : (97 ≤ c ∧ c ≤ 122)
  · cases f
    all_goals
      go_enter Tryz.func178, Tryz.ntmps178
      go_wp2
      all_goals
        go_ret
        first
          | exact ⟨ret_bool (fitF_t (by omega)), rfl⟩
          | exact ⟨ret_bool (fitT_t (by omega)), rfl⟩
  · by_cases h2 : (65 ≤ c ∧ c ≤ 90)
    · cases f
      all_goals
        go_enter Tryz.func178, Tryz.ntmps178
        go_wp2
        all_goals
          go_ret
          first
            | exact ⟨ret_bool (fitF_t (by omega)), rfl⟩
            | exact ⟨ret_bool (fitT_t (by omega)), rfl⟩
    · cases f
      all_goals
        go_enter Tryz.func178, Tryz.ntmps178
        go_wp2
        all_goals
          go_ret
          first
            | exact ⟨ret_bool (fitF_t (by simp at *; omega)), rfl⟩
            | exact ⟨ret_bool (fitT_t (by simp at *; omega)), rfl⟩
            | exact ⟨ret_bool (fitF_f (by simp at *; omega)), rfl⟩
            | exact ⟨ret_bool (fitT_f (by simp at *; omega)), rfl⟩
set_option maxHeartbeats 1000000 in
theorem letter_any (c : Int) (w : World) :
    Calls Tryz.prog 150 #[.int .u8 c] w fun e w' => e = .returned (.bool (ltrI c)) ∧ w' = w := by
  by_cases h1 : 97 ≤ c <;> by_cases h2 : c ≤ 122 <;> by_cases h3 : 65 ≤ c <;> by_cases h4 : c ≤ 90
  all_goals first | (exfalso; omega) | skip
  all_goals
    go_enter Tryz.func150, Tryz.ntmps150
    go_wp2
    all_goals
      go_ret
      exact ⟨ret_bool (by simp [ltrI]; omega), rfl⟩
theorem partI_t {c : Int} (h : ltrI c = true ∨ c = 45 ∨ c = 95 ∨ (48 ≤ c ∧ c ≤ 57)) : true = partI c := by
  simp [partI, othI]; rcases h with h | h
  · exact .inl h
  · exact .inr h
theorem partI_f {c : Int} (hl : ltrI c = false) (h : ¬ (c = 45 ∨ c = 95 ∨ (48 ≤ c ∧ c ≤ 57))) : false = partI c := by
  simp [partI, othI, hl]; omega
set_option maxHeartbeats 1000000 in
theorem part_any (c : Int) (w : World) :
    Calls Tryz.prog 132 #[.int .u8 c] w fun e w' => e = .returned (.bool (partI c)) ∧ w' = w := by
  cases hl : ltrI c
  · by_cases h1 : 48 ≤ c <;> by_cases h2 : c ≤ 57 <;> by_cases h3 : c = 45 <;> by_cases h4 : c = 95
    all_goals first | (exfalso; omega) | skip
    all_goals
      have d3 : (c == 45) = decide (c = 45) := by rfl
      have d4 : (c == 95) = decide (c = 95) := by rfl
      simp only [h3, h4, decide_true, decide_false] at d3 d4
      first | have d1 : decide (48 ≤ c) = true := decide_eq_true h1 | have d1 : decide (48 ≤ c) = false := decide_eq_false h1
      first | have d2 : decide (c ≤ 57) = true := decide_eq_true h2 | have d2 : decide (c ≤ 57) = false := decide_eq_false h2
      go_enter Tryz.func132, Tryz.ntmps132
      go_wp2_with (go_at_call 150; refine (letter_any _ _).mono ?_; rintro e w1 ⟨rfl, rfl⟩)
      all_goals
        go_ret
        first
          | exact ⟨ret_bool (partI_t (.inr (by omega))), rfl⟩
          | exact ⟨ret_bool (partI_f hl (by omega)), rfl⟩
  · go_enter Tryz.func132, Tryz.ntmps132
    go_wp2_with (go_at_call 150; refine (letter_any _ _).mono ?_; rintro e w1 ⟨rfl, rfl⟩)
    go_ret
    exact ⟨ret_bool (partI_t (.inl hl)), rfl⟩
set_option maxHeartbeats 1000000 in
theorem good_any (s : ByteArray) (w : World) (hs : s.size ≤ maxLen) :
    Calls Tryz.prog 161 #[.string s] w fun e w' => e = .returned (.bool (goodB s)) ∧ w' = w := by
  unfold maxLen at hs
  by_cases h0 : s.size = 0
  · have e0 : s = ⟨#[]⟩ := by
      apply ByteArray.ext
      exact Array.eq_empty_of_size_eq_zero h0
    subst e0
    go_enter Tryz.func161, Tryz.ntmps161
    go_wp2
    go_ret
    exact ⟨rfl, rfl⟩
  · have d0 : s.toList.isEmpty = false := by
      rw [ByteArray.toList_eq]
      cases e : s.data.toList with
      | nil => exact (h0 (by rw [← size_list, e]; rfl)).elim
      | cons a r => rfl
    by_cases h40 : 40 < s.size
    · have d1 : decide ((40 : Int) < (s.size : Int)) = true := by simp; omega
      go_enter Tryz.func161, Tryz.ntmps161
      go_wp2
      go_ret
      exact ⟨ret_bool (goodB_long s h40).symm, rfl⟩
    · have d1 : decide ((40 : Int) < (s.size : Int)) = false := by simp; omega
      have HG : Hid (goodB s = okL s.data.toList) := goodB_ok s (by omega) (by omega)
      go_enter Tryz.func161, Tryz.ntmps161
      go_wp2
      go_loop [13] (fun i => ∃ k : Nat, k ≤ s.size ∧ i = .int .i64 k ∧ Hid (okL (s.data.toList.take k) = true)) (fun i => s.size - (intOf i).toNat)
      case atStart => exact ⟨0, Nat.zero_le _, rfl, rfl⟩
      case round =>
        obtain ⟨k, hk, rfl, HP⟩ := hrel
        by_cases hlt : k < s.size
        · have HS : Hid (okL (s.data.toList.take (k + 1)) = fitB s[k].toNat (k == 0)) := by
            have := okL_step s k hlt
            rw [HP.out, Bool.true_and] at this
            exact this
          have hk0 : ((k : Int) == 0) = (k == 0) := by
            rw [Bool.eq_iff_iff]; simp
          cases hf : fitB s[k].toNat (k == 0)
          · have HN : Hid (okL s.data.toList = false) := okL_of_take_false _ (k + 1) (by rw [HS.out, hf])
            have hf' : fitB s[k].toNat ((k : Int) == 0) = false := by rw [hk0]; exact hf
            clear HS HP hk0 hf
            go_wp2_with (go_at_call 178; refine (sfits_any _ _ _).mono ?_; rintro e w1 ⟨rfl, rfl⟩)
            go_ret
            exact ⟨ret_bool (by rw [HG.out, HN.out]), rfl⟩
          · have HN : Hid (okL (s.data.toList.take (k + 1)) = true) := by rw [Hid, HS.out, hf]
            have hf' : fitB s[k].toNat ((k : Int) == 0) = true := by rw [hk0]; exact hf
            clear HS HP hk0 hf
            go_wp2_with (go_at_call 178; refine (sfits_any _ _ _).mono ?_; rintro e w1 ⟨rfl, rfl⟩)
            go_round
            case rel => exact ⟨k + 1, by omega, by go_num, HN⟩
            case measure => simp [intOf]; omega
        · have HN : Hid (okL s.data.toList = true) := by
            have e : s.data.toList.take k = s.data.toList := List.take_of_length_le (by rw [size_list]; omega)
            have := HP.out
            rw [e] at this
            exact this
          clear HP
          go_wp2
          go_ret
          exact ⟨ret_bool (by rw [HG.out, HN.out]), rfl⟩
set_option maxHeartbeats 1000000 in
theorem rgood_any (s : ByteArray) (w : World) (hs : s.size ≤ maxLen) :
    Calls Tryz.prog 133 #[.string s] w fun e w' => e = .returned (.bool (goodB s)) ∧ w' = w := by
  unfold maxLen at hs
  by_cases h0 : s.size = 0
  · have e0 : s = ⟨#[]⟩ := by
      apply ByteArray.ext
      exact Array.eq_empty_of_size_eq_zero h0
    subst e0
    go_enter Tryz.func133, Tryz.ntmps133
    go_wp2
    go_ret
    exact ⟨rfl, rfl⟩
  · have d0 : ((s.size : Int) == 0) = false := beq_eq_false_iff_ne.2 (by omega)
    by_cases h40 : 40 < s.size
    · have d1 : decide ((40 : Int) < (s.size : Int)) = true := by simp; omega
      go_enter Tryz.func133, Tryz.ntmps133
      go_wp2
      go_ret
      exact ⟨ret_bool (goodB_long s h40).symm, rfl⟩
    · have d1 : decide ((40 : Int) < (s.size : Int)) = false := by simp; omega
      have hp : 0 < s.size := by omega
      have hpi : (0 : Int) < (s.size : Int) := by omega
      cases hl : ltrI s[0].toNat
      · have HG : Hid (goodB s = false) := goodB_no s hp (by omega) hl
        go_enter Tryz.func133, Tryz.ntmps133
        go_wp2_with (go_at_call 150; refine (letter_any _ _).mono ?_; rintro e w1 ⟨rfl, rfl⟩)
        go_ret
        exact ⟨ret_bool HG.out.symm, rfl⟩
      · have HG : Hid (goodB s = s.data.toList.all partB) := goodB_all s hp (by omega) hl
        go_enter Tryz.func133, Tryz.ntmps133
        go_wp2_with (go_at_call 150; refine (letter_any _ _).mono ?_; rintro e w1 ⟨rfl, rfl⟩)
        go_loop [3] (fun i => ∃ k : Nat, k ≤ s.size ∧ i = .int .i64 k ∧ Hid ((s.data.toList.take k).all partB = true)) (fun i => s.size - (intOf i).toNat)
        case atStart => exact ⟨0, Nat.zero_le _, rfl, rfl⟩
        case round =>
          obtain ⟨k, hk, rfl, HP⟩ := hrel
          by_cases hlt : k < s.size
          · have HS : Hid ((s.data.toList.take (k + 1)).all partB = partI s[k].toNat) := by
              have := all_step s k hlt
              rw [HP.out, Bool.true_and] at this
              exact this
            cases hf : partI s[k].toNat
            · have HN : Hid (s.data.toList.all partB = false) := all_of_take_false _ (k + 1) (by rw [HS.out, hf])
              clear HS HP
              go_wp2_with (go_at_call 132; refine (part_any _ _).mono ?_; rintro e w1 ⟨rfl, rfl⟩)
              go_ret
              exact ⟨ret_bool (by rw [HG.out, HN.out]), rfl⟩
            · have HN : Hid ((s.data.toList.take (k + 1)).all partB = true) := by rw [Hid, HS.out, hf]
              clear HS HP
              go_wp2_with (go_at_call 132; refine (part_any _ _).mono ?_; rintro e w1 ⟨rfl, rfl⟩)
              go_round
              case rel => exact ⟨k + 1, by omega, by go_num, HN⟩
              case measure => simp [intOf]; omega
          · have HN : Hid (s.data.toList.all partB = true) := by
              have e : s.data.toList.take k = s.data.toList := List.take_of_length_le (by rw [size_list]; omega)
              have := HP.out
              rw [e] at this
              exact this
            clear HP
            go_wp2
            go_ret
            exact ⟨ret_bool (by rw [HG.out, HN.out]), rfl⟩
end Go.Proofs.YtnhbjhdkpbhioaaGreatDoor
namespace Go.Proofs.YtnhbjhdkpbhioaaGreatDoor
open Go.RowKit
structure Tk where
  k : Int
  a : Nat
  i : Int
  s : List UInt8
structure Rd where
  e : Int
  k : Int
  i : Int
  s : List UInt8
  z : Nat
structure Out where
  l : List Tk
  a : Nat
  e : Int
def badR (e : Int) : Rd := ⟨e, 0, 0, [], 0⟩
def okR (k i : Int) (s : List UInt8) (z : Nat) : Rd := ⟨0, k, i, s, z⟩
def blankB (c : UInt8) : Bool := decide (c.toNat = 32 ∨ c.toNat = 9 ∨ c.toNat = 10 ∨ c.toNat = 13)
def lineB (c : UInt8) : Bool := !decide (c.toNat = 10)
def runN (p : UInt8 → Bool) (l : List UInt8) : Nat := (l.takeWhile p).length
def endR (acc : List UInt8) (n : Nat) : Rd := if 1000 < acc.length then badR 4 else okR 3 0 acc (n + 1)
def strA : List UInt8 → List UInt8 → Nat → Rd
  | [], _, _ => badR 3
  | [c], acc, n => if c.toNat = 34 then endR acc n else badR 3
  | c :: d :: r, acc, n => if c.toNat = 34 then endR acc n else if c.toNat = 92 then strA r (acc ++ [d]) (n + 2) else strA (d :: r) (acc ++ [c]) (n + 1)
def nameZ (u : List UInt8) : Nat := runN partB u
def nameE (u : List UInt8) : Int := if 40 < nameZ u then 4 else if goodL (u.take (nameZ u)) = true then 0 else 2
def starL : List UInt8 → Bool
  | [] => false
  | c :: _ => decide (c.toNat = 42)
def globR (u : List UInt8) : Rd :=
  if nameE u = 0 then (if starL (u.drop (nameZ u)) = true then okR 7 0 (u.take (nameZ u)) (2 + nameZ u + 1) else badR 2) else badR (nameE u)
def plainR (t : List UInt8) : Rd := if nameE t = 0 then okR 6 0 (t.take (nameZ t)) (1 + nameZ t) else badR (nameE t)
def varR (t : List UInt8) : Rd := if starL t = true then globR (t.drop 1) else plainR t
def wordOf (w : List UInt8) (n : Nat) : Rd :=
  if parE w = 0 then okR 1 (parV w) [] n else if parE w = 11 then badR 11 else if 40 < n then badR 4 else okR 2 0 w n
def wordR (r : List UInt8) : Rd := if runN signB r = 0 then badR 2 else wordOf (r.take (runN signB r)) (runN signB r)
def oneL : List UInt8 → Rd
  | [] => badR 2
  | c :: t =>
    if c.toNat = 40 then okR 4 0 [] 1 else if c.toNat = 41 then okR 5 0 [] 1 else if c.toNat = 126 then okR 8 0 [] 1
    else if c.toNat = 34 then strA t [] 1 else if c.toNat = 63 then varR t else wordR (c :: t)
def scanS : List UInt8 → Nat → Nat → List Tk → Out
  | [], _, _, acc => ⟨acc, 0, 0⟩
  | _ :: r, k + 1, a, acc => scanS r k (a + 1) acc
  | c :: r, 0, a, acc =>
    if blankB c = true then scanS r 0 (a + 1) acc else if c.toNat = 59 then scanS r (runN lineB r) (a + 1) acc
    else if (oneL (c :: r)).e = 0 then scanS r ((oneL (c :: r)).z - 1) (a + 1) (acc ++ [⟨(oneL (c :: r)).k, a, (oneL (c :: r)).i, (oneL (c :: r)).s⟩])
    else ⟨[], a, (oneL (c :: r)).e⟩
def scanQ (l : List UInt8) (a : Nat) (acc : List Tk) : Out := scanS (l.drop a) 0 a acc
theorem oneL_cons (c : UInt8) (t : List UInt8) : oneL (c :: t) =
    if c.toNat = 40 then okR 4 0 [] 1 else if c.toNat = 41 then okR 5 0 [] 1 else if c.toNat = 126 then okR 8 0 [] 1
    else if c.toNat = 34 then strA t [] 1 else if c.toNat = 63 then varR t else wordR (c :: t) := rfl
theorem one_open (c : UInt8) (t : List UInt8) (h : c.toNat = 40) : oneL (c :: t) = okR 4 0 [] 1 := by rw [oneL_cons, if_pos h]
theorem one_close (c : UInt8) (t : List UInt8) (h : c.toNat = 41) : oneL (c :: t) = okR 5 0 [] 1 := by rw [oneL_cons, if_neg (by omega), if_pos h]
theorem one_not (c : UInt8) (t : List UInt8) (h : c.toNat = 126) : oneL (c :: t) = okR 8 0 [] 1 := by rw [oneL_cons, if_neg (by omega), if_neg (by omega), if_pos h]
theorem one_str (c : UInt8) (t : List UInt8) (h : c.toNat = 34) : oneL (c :: t) = strA t [] 1 := by rw [oneL_cons, if_neg (by omega), if_neg (by omega), if_neg (by omega), if_pos h]
theorem one_var (c : UInt8) (t : List UInt8) (h : c.toNat = 63) : oneL (c :: t) = varR t := by rw [oneL_cons, if_neg (by omega), if_neg (by omega), if_neg (by omega), if_neg (by omega), if_pos h]
theorem one_word (c : UInt8) (t : List UInt8) (h : ¬ (c.toNat = 40 ∨ c.toNat = 41 ∨ c.toNat = 126 ∨ c.toNat = 34 ∨ c.toNat = 63)) : oneL (c :: t) = wordR (c :: t) := by
  rw [oneL_cons, if_neg (by omega), if_neg (by omega), if_neg (by omega), if_neg (by omega), if_neg (by omega)]
theorem strA_nil (acc : List UInt8) (n : Nat) : strA [] acc n = badR 3 := rfl
theorem strA_end (c : UInt8) (r acc : List UInt8) (n : Nat) (h : c.toNat = 34) : strA (c :: r) acc n = endR acc n := by
  cases r <;> unfold strA <;> rw [if_pos h]
theorem strA_esc (c d : UInt8) (r acc : List UInt8) (n : Nat) (h : c.toNat = 92) : strA (c :: d :: r) acc n = strA r (acc ++ [d]) (n + 2) := by
  conv => lhs; unfold strA
  rw [if_neg (by omega), if_pos h]
theorem strA_esc0 (c : UInt8) (acc : List UInt8) (n : Nat) (h : c.toNat = 92) : strA [c] acc n = badR 3 := by
  unfold strA; rw [if_neg (by omega)]
theorem strA_one (c : UInt8) (r acc : List UInt8) (n : Nat) (h : c.toNat ≠ 34) (h2 : c.toNat ≠ 92) : strA (c :: r) acc n = strA r (acc ++ [c]) (n + 1) := by
  cases r with
  | nil => unfold strA; rw [if_neg h]
  | cons d t =>
    conv => lhs; unfold strA
    rw [if_neg h, if_neg h2]
theorem run_le (p : UInt8 → Bool) (l : List UInt8) : runN p l ≤ l.length := by
  unfold runN
  exact (List.takeWhile_prefix p).length_le
theorem run_cons (p : UInt8 → Bool) (c : UInt8) (r : List UInt8) : runN p (c :: r) = if p c = true then runN p r + 1 else 0 := by
  unfold runN; rw [List.takeWhile_cons]; split <;> simp
theorem run_take (p : UInt8 → Bool) : ∀ l : List UInt8, l.take (runN p l) = l.takeWhile p
  | [] => rfl
  | c :: r => by
    rw [run_cons, List.takeWhile_cons]
    split
    · rw [List.take_succ_cons, run_take p r]
    · rfl
theorem run_all (p : UInt8 → Bool) (l : List UInt8) : (l.take (runN p l)).all p = true := by
  rw [run_take]
  induction l with
  | nil => rfl
  | cons c r ih =>
    rw [List.takeWhile_cons]
    split
    · rename_i h
      rw [List.all_cons, h, ih]; rfl
    · rfl
theorem run_at (p : UInt8 → Bool) : ∀ (l : List UInt8) (k : Nat), (l.take k).all p = true → (h : k < l.length) → p l[k] = false → runN p l = k
  | [], _, _, h, _ => by simp at h
  | c :: r, 0, _, _, h2 => by
    rw [run_cons]
    have h3 : p c = false := h2
    rw [h3]; rfl
  | c :: r, k + 1, h0, h1, h2 => by
    rw [List.take_succ_cons, List.all_cons, Bool.and_eq_true] at h0
    rw [run_cons, if_pos h0.1, run_at p r k h0.2 (by simpa using h1) (by simpa using h2)]
theorem run_end (p : UInt8 → Bool) (l : List UInt8) (h : l.all p = true) : runN p l = l.length := by
  induction l with
  | nil => rfl
  | cons c r ih =>
    rw [List.all_cons, Bool.and_eq_true] at h
    rw [run_cons, if_pos h.1, ih h.2]; rfl
theorem scanS_skip : ∀ (l : List UInt8) (k a : Nat) (acc : List Tk), scanS l k a acc = scanS (l.drop k) 0 (a + k) acc
  | [], k, a, acc => by rw [List.drop_nil]; rfl
  | c :: r, 0, a, acc => rfl
  | c :: r, k + 1, a, acc => by
    rw [List.drop_succ_cons, show a + (k + 1) = a + 1 + k by omega, ← scanS_skip r k (a + 1) acc]
    rfl
theorem Q_end (l : List UInt8) (a : Nat) (acc : List Tk) (h : l.length ≤ a) : scanQ l a acc = ⟨acc, 0, 0⟩ := by
  unfold scanQ; rw [List.drop_eq_nil_of_le h]; rfl
theorem Q_cons (l : List UInt8) (a : Nat) (h : a < l.length) : l.drop a = l[a] :: l.drop (a + 1) := List.drop_eq_getElem_cons h
theorem scanS_0 (c : UInt8) (r : List UInt8) (a : Nat) (acc : List Tk) : scanS (c :: r) 0 a acc =
    if blankB c = true then scanS r 0 (a + 1) acc else if c.toNat = 59 then scanS r (runN lineB r) (a + 1) acc
    else if (oneL (c :: r)).e = 0 then scanS r ((oneL (c :: r)).z - 1) (a + 1) (acc ++ [⟨(oneL (c :: r)).k, a, (oneL (c :: r)).i, (oneL (c :: r)).s⟩])
    else ⟨[], a, (oneL (c :: r)).e⟩ := rfl
theorem S_blank (c : UInt8) (r : List UInt8) (a : Nat) (acc : List Tk) (hb : blankB c = true) : scanS (c :: r) 0 a acc = scanS r 0 (a + 1) acc := by
  rw [scanS_0, if_pos hb]
theorem Q_blank (l : List UInt8) (a : Nat) (acc : List Tk) (h : a < l.length) (hb : blankB l[a] = true) : scanQ l a acc = scanQ l (a + 1) acc := by
  unfold scanQ; rw [Q_cons l a h, S_blank _ _ _ _ hb]
theorem S_line (c : UInt8) (r : List UInt8) (a : Nat) (acc : List Tk) (hb : c.toNat = 59) : scanS (c :: r) 0 a acc = scanS ((c :: r).drop (runN lineB (c :: r))) 0 (a + runN lineB (c :: r)) acc := by
  have h1 : blankB c = false := by unfold blankB; rw [hb]; decide
  have h2 : lineB c = true := by unfold lineB; rw [hb]; decide
  rw [scanS_0, h1, if_neg (by decide), if_pos hb, run_cons, if_pos h2, List.drop_succ_cons, scanS_skip, show a + (runN lineB r + 1) = a + 1 + runN lineB r by omega]
theorem Q_line (l : List UInt8) (a : Nat) (acc : List Tk) (h : a < l.length) (hb : l[a].toNat = 59) : scanQ l a acc = scanQ l (a + runN lineB (l.drop a)) acc := by
  unfold scanQ
  have e : l.drop (a + runN lineB (l.drop a)) = (l.drop a).drop (runN lineB (l.drop a)) := by rw [List.drop_drop]
  rw [e, Q_cons l a h, S_line _ _ _ _ hb]
theorem str_z : ∀ (r acc : List UInt8) (n : Nat), (strA r acc n).e = 0 → n + 1 ≤ (strA r acc n).z ∧ (strA r acc n).z ≤ n + r.length
  | [], acc, n, h => by rw [strA_nil] at h; exact absurd h (by decide)
  | [c], acc, n, h => by
    unfold strA at h ⊢
    split at h
    · rename_i hc
      rw [if_pos hc]
      unfold endR at h ⊢
      split at h
      · exact absurd h (by decide)
      · rename_i h3
        rw [if_neg h3]; show n + 1 ≤ n + 1 ∧ n + 1 ≤ n + 1; omega
    · exact absurd h (by decide)
  | c :: d :: r, acc, n, h => by
    by_cases h1 : c.toNat = 34
    · rw [strA_end _ _ _ _ h1] at h ⊢
      unfold endR at h ⊢
      split at h
      · exact absurd h (by decide)
      · rename_i h3
        rw [if_neg h3]
        show n + 1 ≤ n + 1 ∧ n + 1 ≤ n + (r.length + 1 + 1); omega
    · by_cases h2 : c.toNat = 92
      · rw [strA_esc _ _ _ _ _ h2] at h ⊢
        have := str_z r (acc ++ [d]) (n + 2) h
        simp only [List.length_cons]; omega
      · rw [strA_one _ _ _ _ h1 h2] at h ⊢
        have := str_z (d :: r) (acc ++ [c]) (n + 1) h
        simp only [List.length_cons] at this ⊢; omega
theorem star_len {l : List UInt8} (h : starL l = true) : 1 ≤ l.length := by
  cases l with
  | nil => exact absurd h (by decide)
  | cons c r => simp
theorem word_z (w : List UInt8) (n : Nat) (h : (wordOf w n).e = 0) : (wordOf w n).z = n := by
  unfold wordOf at h ⊢
  split at h
  · rename_i h1; rw [if_pos h1]; rfl
  · rename_i h1
    rw [if_neg h1]
    split at h
    · exact absurd h (by decide)
    · rename_i h2
      rw [if_neg h2]
      split at h
      · exact absurd h (by decide)
      · rename_i h3; rw [if_neg h3]; rfl
theorem one_z (r : List UInt8) (h : (oneL r).e = 0) : 1 ≤ (oneL r).z ∧ (oneL r).z ≤ r.length := by
  cases r with
  | nil => exact absurd h (by decide)
  | cons c t =>
    rw [oneL_cons] at h ⊢
    by_cases c1 : c.toNat = 40
    · rw [if_pos c1]; exact ⟨Nat.le_refl _, by simp [okR]⟩
    rw [if_neg c1] at h ⊢
    by_cases c2 : c.toNat = 41
    · rw [if_pos c2]; exact ⟨Nat.le_refl _, by simp [okR]⟩
    rw [if_neg c2] at h ⊢
    by_cases c3 : c.toNat = 126
    · rw [if_pos c3]; exact ⟨Nat.le_refl _, by simp [okR]⟩
    rw [if_neg c3] at h ⊢
    by_cases c4 : c.toNat = 34
    · rw [if_pos c4] at h ⊢
      have := str_z _ _ _ h
      simp only [List.length_cons]; omega
    rw [if_neg c4] at h ⊢
    by_cases c5 : c.toNat = 63
    · rw [if_pos c5] at h ⊢
      unfold varR at h ⊢
      split at h
      · rename_i hs
        rw [if_pos hs]
        unfold globR at h ⊢
        split at h
        · rename_i hn
          rw [if_pos hn]
          split at h
          · rename_i hq
            rw [if_pos hq]
            have h1 := star_len hq
            have h2 := star_len hs
            rw [List.length_drop, List.length_drop] at h1
            show 1 ≤ 2 + nameZ (t.drop 1) + 1 ∧ 2 + nameZ (t.drop 1) + 1 ≤ t.length + 1
            omega
          · exact absurd h (by decide)
        · rename_i hn; exact absurd h hn
      · rename_i hs
        rw [if_neg hs]
        unfold plainR at h ⊢
        split at h
        · rename_i hn
          rw [if_pos hn]
          have := run_le partB t
          show 1 ≤ 1 + runN partB t ∧ 1 + runN partB t ≤ t.length + 1
          omega
        · rename_i hn; exact absurd h hn
    · rw [if_neg c5] at h ⊢
      unfold wordR at h ⊢
      split at h
      · exact absurd h (by decide)
      · rename_i hz
        rw [if_neg hz, word_z _ _ h]
        have := run_le signB (c :: t)
        omega
theorem S_bad (c : UInt8) (r : List UInt8) (a : Nat) (acc : List Tk) (hb : blankB c = false) (hl : c.toNat ≠ 59) (he : (oneL (c :: r)).e ≠ 0) : scanS (c :: r) 0 a acc = ⟨[], a, (oneL (c :: r)).e⟩ := by
  rw [scanS_0, hb, if_neg (by decide), if_neg hl, if_neg he]
theorem S_tok (c : UInt8) (r : List UInt8) (a : Nat) (acc : List Tk) (m : Rd) (hb : blankB c = false) (hl : c.toNat ≠ 59) (hm : oneL (c :: r) = m) (he : m.e = 0) :
    scanS (c :: r) 0 a acc = scanS ((c :: r).drop m.z) 0 (a + m.z) (acc ++ [⟨m.k, a, m.i, m.s⟩]) := by
  have hz := one_z (c :: r) (by rw [hm]; exact he)
  rw [hm] at hz
  rw [scanS_0, hb, if_neg (by decide), if_neg hl, hm, if_pos he]
  obtain ⟨z, hz2⟩ : ∃ z, m.z = z + 1 := ⟨m.z - 1, by omega⟩
  rw [hz2, List.drop_succ_cons, scanS_skip, show z + 1 - 1 = z by omega, show a + (z + 1) = a + 1 + z by omega]
theorem Q_bad (l : List UInt8) (a : Nat) (acc : List Tk) (h : a < l.length) (hb : blankB l[a] = false) (hl : l[a].toNat ≠ 59) (he : (oneL (l.drop a)).e ≠ 0) : scanQ l a acc = ⟨[], a, (oneL (l.drop a)).e⟩ := by
  unfold scanQ
  rw [Q_cons l a h] at he ⊢
  exact S_bad _ _ _ _ hb hl he
theorem Q_tok (l : List UInt8) (a : Nat) (acc : List Tk) (m : Rd) (h : a < l.length) (hb : blankB l[a] = false) (hl : l[a].toNat ≠ 59) (hm : oneL (l.drop a) = m) (he : m.e = 0) :
    scanQ l a acc = scanQ l (a + m.z) (acc ++ [⟨m.k, a, m.i, m.s⟩]) := by
  unfold scanQ
  rw [Q_cons l a h] at hm ⊢
  rw [S_tok _ _ _ _ m hb hl hm he]
  rw [← Q_cons l a h, List.drop_drop]
end Go.Proofs.YtnhbjhdkpbhioaaGreatDoor
namespace Go.Proofs.YtnhbjhdkpbhioaaGreatDoor
open Go.RowKit
def WfT (k i : Int) (s : List UInt8) : Prop :=
  (k = 1 ∧ inB i = true ∧ s = []) ∨ (k = 2 ∧ i = 0 ∧ 1 ≤ s.length ∧ s.length ≤ 40 ∧ s.all signB = true ∧ shapeL s = false) ∨ (k = 3 ∧ i = 0 ∧ s.length ≤ 1000)
  ∨ ((k = 4 ∨ k = 5 ∨ k = 8) ∧ i = 0 ∧ s = []) ∨ ((k = 6 ∨ k = 7) ∧ i = 0 ∧ goodL s = true)
theorem good_len {s : List UInt8} (h : goodL s = true) : 1 ≤ s.length ∧ s.length ≤ 40 := by
  unfold goodL at h
  rw [Bool.and_eq_true, decide_eq_true_eq] at h
  refine ⟨?_, h.1.2⟩
  have := List.length_pos_iff.2 h.1.1
  omega
theorem wf_bd {k i : Int} {s : List UInt8} (h : WfT k i s) : s.length ≤ 1000 ∧ inB i = true := by
  rcases h with ⟨_, h1, rfl⟩ | ⟨_, rfl, _, h2, _⟩ | ⟨_, rfl, h2⟩ | ⟨_, rfl, rfl⟩ | ⟨_, rfl, h2⟩
  · exact ⟨by simp, h1⟩
  · exact ⟨by omega, by decide⟩
  · exact ⟨h2, by decide⟩
  · exact ⟨by simp, by decide⟩
  · exact ⟨by have := good_len h2; omega, by decide⟩
theorem str_wf : ∀ (r acc : List UInt8) (n : Nat), (strA r acc n).e = 0 → WfT (strA r acc n).k (strA r acc n).i (strA r acc n).s
  | [], acc, n, h => by rw [strA_nil] at h; exact absurd h (by decide)
  | c :: r, acc, n, h => by
    by_cases h1 : c.toNat = 34
    · rw [strA_end _ _ _ _ h1] at h ⊢
      unfold endR at h ⊢
      split at h
      · exact absurd h (by decide)
      · rename_i h3
        rw [if_neg h3]
        exact .inr (.inr (.inl ⟨rfl, rfl, by show acc.length ≤ 1000; omega⟩))
    · by_cases h2 : c.toNat = 92
      · cases r with
        | nil => rw [strA_esc0 _ _ _ h2] at h; exact absurd h (by decide)
        | cons d t =>
          rw [strA_esc _ _ _ _ _ h2] at h ⊢
          exact str_wf t _ _ h
      · rw [strA_one _ _ _ _ h1 h2] at h ⊢
        exact str_wf r _ _ h
theorem nameE_is {u : List UInt8} (h : nameE u = 0) : goodL (u.take (nameZ u)) = true := by
  unfold nameE at h
  split at h
  · exact absurd h (by decide)
  · split at h
    · assumption
    · exact absurd h (by decide)
theorem parE_shape {w : List UInt8} (h1 : ¬ parE w = 0) (h2 : ¬ parE w = 11) : shapeL w = false := by
  cases hs : shapeL w
  · rfl
  · exfalso
    unfold parE at h1 h2
    rw [if_pos hs] at h1 h2
    unfold resE at h1 h2
    split at h1
    · exact h1 rfl
    · rename_i hi; rw [if_neg hi] at h2; exact h2 rfl
theorem parV_in (w : List UInt8) : inB (parV w) = true := by
  unfold parV
  split
  · exact resV_bd _
  · decide
theorem one_wf (r : List UInt8) (h : (oneL r).e = 0) : WfT (oneL r).k (oneL r).i (oneL r).s := by
  cases r with
  | nil => exact absurd h (by decide)
  | cons c t =>
    rw [oneL_cons] at h ⊢
    by_cases c1 : c.toNat = 40
    · rw [if_pos c1]; exact .inr (.inr (.inr (.inl ⟨.inl rfl, rfl, rfl⟩)))
    rw [if_neg c1] at h ⊢
    by_cases c2 : c.toNat = 41
    · rw [if_pos c2]; exact .inr (.inr (.inr (.inl ⟨.inr (.inl rfl), rfl, rfl⟩)))
    rw [if_neg c2] at h ⊢
    by_cases c3 : c.toNat = 126
    · rw [if_pos c3]; exact .inr (.inr (.inr (.inl ⟨.inr (.inr rfl), rfl, rfl⟩)))
    rw [if_neg c3] at h ⊢
    by_cases c4 : c.toNat = 34
    · rw [if_pos c4] at h ⊢; exact str_wf _ _ _ h
    rw [if_neg c4] at h ⊢
    by_cases c5 : c.toNat = 63
    · rw [if_pos c5] at h ⊢
      unfold varR at h ⊢
      split at h
      · rename_i hs
        rw [if_pos hs]
        unfold globR at h ⊢
        split at h
        · rename_i hn
          rw [if_pos hn]
          split at h
          · rename_i hq
            rw [if_pos hq]
            exact .inr (.inr (.inr (.inr ⟨.inr rfl, rfl, nameE_is hn⟩)))
          · exact absurd h (by decide)
        · rename_i hn; exact absurd h hn
      · rename_i hs
        rw [if_neg hs]
        unfold plainR at h ⊢
        split at h
        · rename_i hn
          rw [if_pos hn]
          exact .inr (.inr (.inr (.inr ⟨.inl rfl, rfl, nameE_is hn⟩)))
        · rename_i hn; exact absurd h hn
    · rw [if_neg c5] at h ⊢
      unfold wordR at h ⊢
      split at h
      · exact absurd h (by decide)
      · rename_i hz
        rw [if_neg hz]
        unfold wordOf at h ⊢
        split at h
        · rename_i h1
          rw [if_pos h1]
          exact .inl ⟨rfl, parV_in _, rfl⟩
        · rename_i h1
          rw [if_neg h1]
          split at h
          · exact absurd h (by decide)
          · rename_i h2
            rw [if_neg h2]
            split at h
            · exact absurd h (by decide)
            · rename_i h3
              rw [if_neg h3]
              have hl := run_le signB (c :: t)
              refine .inr (.inl ⟨rfl, rfl, ?_, ?_, run_all _ _, parE_shape h1 h2⟩)
              · show 1 ≤ ((c :: t).take (runN signB (c :: t))).length
                rw [List.length_take]; omega
              · show ((c :: t).take (runN signB (c :: t))).length ≤ 40
                rw [List.length_take]; omega
theorem scan_wf : ∀ (l : List UInt8) (k a : Nat) (acc : List Tk), (∀ t ∈ acc, WfT t.k t.i t.s) → ∀ t ∈ (scanS l k a acc).l, WfT t.k t.i t.s
  | [], _, _, acc, h => h
  | c :: r, k + 1, a, acc, h => scan_wf r k (a + 1) acc h
  | c :: r, 0, a, acc, h => by
    rw [scanS_0]
    split
    · exact scan_wf r 0 (a + 1) acc h
    · split
      · exact scan_wf r _ (a + 1) acc h
      · split
        · rename_i he
          refine scan_wf r _ (a + 1) _ ?_
          intro t ht
          rw [List.mem_append, List.mem_singleton] at ht
          rcases ht with ht | rfl
          · exact h t ht
          · exact one_wf (c :: r) he
        · intro t ht; simp at ht
theorem scanQ_wf (l : List UInt8) : ∀ t ∈ (scanQ l 0 []).l, WfT t.k t.i t.s := scan_wf _ _ _ _ (by simp)
theorem scan_len : ∀ (l : List UInt8) (k a : Nat) (acc : List Tk), (scanS l k a acc).l.length ≤ acc.length + l.length
  | [], _, _, acc => by show acc.length ≤ _; omega
  | c :: r, k + 1, a, acc => by
    have := scan_len r k (a + 1) acc
    show (scanS r k (a + 1) acc).l.length ≤ _
    simp only [List.length_cons]; omega
  | c :: r, 0, a, acc => by
    rw [scanS_0]
    simp only [List.length_cons]
    split
    · have := scan_len r 0 (a + 1) acc; omega
    · split
      · have := scan_len r (runN lineB r) (a + 1) acc; omega
      · split
        · have := scan_len r ((oneL (c :: r)).z - 1) (a + 1) (acc ++ [⟨(oneL (c :: r)).k, a, (oneL (c :: r)).i, (oneL (c :: r)).s⟩])
          rw [List.length_append, List.length_singleton] at this
          omega
        · simp
theorem scanQ_len (l : List UInt8) : (scanQ l 0 []).l.length ≤ l.length := by
  have := scan_len l 0 0 []
  simp at this
  exact this
end Go.Proofs.YtnhbjhdkpbhioaaGreatDoor
