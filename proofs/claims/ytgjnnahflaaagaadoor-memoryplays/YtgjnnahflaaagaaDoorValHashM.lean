/- What Hash writes, and that it tells rows of values apart. No program in sight. -/
import Derived.Test.YtgjnnahflaaagaaDoorValMath
import Derived.Lib.ItoaNum
namespace Go.Proofs.YtgjnnahflaaagaaDoor
open Go.RowKit

/-- A value. -/
structure Val where
  k : Int
  i : Int
  s : ByteArray

/-- Are both numbers such as an int64 holds, and is the text short? -/
def Val.fine (v : Val) : Prop := inB v.k = true ∧ inB v.i = true ∧ v.s.size ≤ 1100
def Val.ok (v : Val) : Prop := inB v.k = true ∧ inB v.i = true ∧ v.s.size ≤ 100000

def h1 (v : Val) : List UInt8 := Lib.itoa v.k ++ [32]
def h2 (v : Val) : List UInt8 := Lib.itoa v.i ++ [32]
def h3 (v : Val) : List UInt8 := Lib.itoa (v.s.size : Int) ++ [32]
def hashOne (v : Val) : List UInt8 := Lib.itoa v.k ++ ([32] ++ (Lib.itoa v.i ++ ([32] ++ (Lib.itoa (v.s.size : Int) ++ ([32] ++ v.s.data.toList)))))
def hashL (L : List Val) : List UInt8 := L.flatMap hashOne
def hashS (L : List Val) : ByteArray := ⟨(hashL L).toArray⟩
theorem hashL_cons (v : Val) (L : List Val) : hashL (v :: L) = hashOne v ++ hashL L := by unfold hashL; rw [List.flatMap_cons]
theorem hashL_snoc (L : List Val) (v : Val) : hashL (L ++ [v]) = hashL L ++ hashOne v := by unfold hashL; rw [List.flatMap_append]; simp

theorem dec_byte (d : Nat) (h : d < 10) : (UInt8.ofNat (48 + d)).toNat = 48 + d := by rw [UInt8.toNat_ofNat']; omega
theorem dec_one {u : Nat} (h : u < 10) : Lib.decDigits u = [UInt8.ofNat (48 + u % 10)] := by rw [Lib.decDigits_one h, Nat.mod_eq_of_lt h]
theorem dec_more {u : Nat} (h : ¬ u < 10) : Lib.decDigits u = Lib.decDigits (u / 10) ++ [UInt8.ofNat (48 + u % 10)] := by rw [Lib.decDigits, dif_neg h]
theorem dval_digits : ∀ u : Nat, dval (Lib.decDigits u) = u := by
  intro u
  induction u using Nat.strongRecOn with
  | _ u ih =>
    by_cases c : u < 10
    · rw [dec_one c]
      show 0 * 10 + ((UInt8.ofNat (48 + u % 10)).toNat - 48) = u
      rw [dec_byte _ (by omega)]; omega
    · rw [dec_more c, dval_snoc, ih (u / 10) (by omega), dec_byte _ (by omega)]; omega
theorem digits_all : ∀ u : Nat, allD (Lib.decDigits u) = true := by
  intro u
  have one : ∀ d, d < 10 → digB (UInt8.ofNat (48 + d)) = true := by
    intro d h; unfold digB; rw [dec_byte d h]; simp; omega
  induction u using Nat.strongRecOn with
  | _ u ih =>
    by_cases c : u < 10
    · rw [dec_one c]
      show (digB (UInt8.ofNat (48 + u % 10)) && true) = true
      rw [one _ (by omega)]; rfl
    · rw [dec_more c, allD_snoc, ih (u / 10) (by omega), one _ (by omega)]; rfl
theorem digits_pos (u : Nat) : ∃ c r, Lib.decDigits u = c :: r ∧ 48 ≤ c.toNat ∧ c.toNat ≤ 57 := by
  have h := digits_all u
  have hl := Lib.decDigits_length u
  have hp := Lib.nDigits_pos u
  cases e : Lib.decDigits u with
  | nil => rw [e] at hl; simp at hl; omega
  | cons c r =>
    rw [e] at h
    have h2 : (digB c && r.all digB) = true := h
    rw [Bool.and_eq_true] at h2
    exact ⟨c, r, rfl, digB_bd h2.1⟩
theorem itoa_noblank (n : Int) : ∀ c ∈ Lib.itoa n, c.toNat ≠ 32 := by
  have hd : ∀ u : Nat, ∀ c ∈ Lib.decDigits u, c.toNat ≠ 32 := by
    intro u c hc
    have h := digits_all u
    unfold allD at h
    rw [List.all_eq_true] at h
    have := digB_bd (h c hc)
    omega
  unfold Lib.itoa
  intro c hc
  split at hc
  · rcases List.mem_cons.1 hc with rfl | hc
    · decide
    · exact hd _ c hc
  · exact hd _ c hc
theorem itoa_inj {n m : Int} (h : Lib.itoa n = Lib.itoa m) : n = m := by
  unfold Lib.itoa at h
  by_cases c1 : n < 0 <;> by_cases c2 : m < 0
  · rw [if_pos c1, if_pos c2] at h
    have h' := congrArg dval (List.cons.inj h).2
    rw [dval_digits, dval_digits] at h'
    omega
  · rw [if_pos c1, if_neg c2] at h
    obtain ⟨c, r, e, g1, g2⟩ := digits_pos m.toNat
    rw [e] at h
    have := (List.cons.inj h).1
    rw [← this] at g1
    exact absurd g1 (by decide)
  · rw [if_neg c1, if_pos c2] at h
    obtain ⟨c, r, e, g1, g2⟩ := digits_pos n.toNat
    rw [e] at h
    have := (List.cons.inj h).1
    rw [this] at g1
    exact absurd g1 (by decide)
  · rw [if_neg c1, if_neg c2] at h
    have h' := congrArg dval h
    rw [dval_digits, dval_digits] at h'
    omega

/-- Up to the first blank. -/
theorem blank_split : ∀ (a b x y : List UInt8), (∀ c ∈ a, c.toNat ≠ 32) → (∀ c ∈ b, c.toNat ≠ 32) → a ++ 32 :: x = b ++ 32 :: y → a = b ∧ x = y
  | [], [], x, y, _, _, h => ⟨rfl, (List.cons.inj h).2⟩
  | [], c :: b, x, y, _, hb, h => by
    have e := (List.cons.inj h).1
    exact absurd (by rw [← e]; rfl) (hb c (by simp))
  | c :: a, [], x, y, ha, _, h => by
    have e := (List.cons.inj h).1
    exact absurd (by rw [e]; rfl) (ha c (by simp))
  | c :: a, d :: b, x, y, ha, hb, h => by
    have e := List.cons.inj h
    have ih := blank_split a b x y (fun z hz => ha z (by simp [hz])) (fun z hz => hb z (by simp [hz])) e.2
    exact ⟨by rw [e.1, ih.1], ih.2⟩
theorem itoa_split {n m : Int} {x y : List UInt8} (h : Lib.itoa n ++ ([32] ++ x) = Lib.itoa m ++ ([32] ++ y)) : n = m ∧ x = y := by
  have := blank_split _ _ x y (itoa_noblank n) (itoa_noblank m) h
  exact ⟨itoa_inj this.1, this.2⟩
theorem hashOne_split {v u : Val} {x y : List UInt8} (h : hashOne v ++ x = hashOne u ++ y) : v = u ∧ x = y := by
  unfold hashOne at h
  simp only [List.append_assoc] at h
  obtain ⟨e1, h⟩ := itoa_split h
  obtain ⟨e2, h⟩ := itoa_split h
  obtain ⟨e3, h⟩ := itoa_split h
  have hl : v.s.data.toList.length = u.s.data.toList.length := by rw [← Lib.size_eq, ← Lib.size_eq]; omega
  have := List.append_inj h hl
  refine ⟨?_, this.2⟩
  have e4 : v.s = u.s := list_ba.1 (by rw [Lib.toList_data, Lib.toList_data]; exact this.1)
  cases v; cases u
  simp at e1 e2 e4
  rw [e1, e2, e4]
theorem hashOne_ne (v : Val) (x : List UInt8) : hashOne v ++ x ≠ [] := by
  unfold hashOne
  intro h
  have := congrArg List.length h
  simp at this
theorem hashL_inj : ∀ (L M : List Val), hashL L = hashL M → L = M
  | [], [], _ => rfl
  | [], u :: M, h => by rw [hashL_cons] at h; exact absurd h.symm (hashOne_ne u _)
  | v :: L, [], h => by rw [hashL_cons] at h; exact absurd h (hashOne_ne v _)
  | v :: L, u :: M, h => by
    rw [hashL_cons, hashL_cons] at h
    have := hashOne_split h
    rw [this.1, hashL_inj L M this.2]

theorem digits_le : ∀ (k u : Nat), u < 10 ^ (k + 1) → Lib.nDigits u ≤ k + 1 := by
  intro k
  induction k with
  | zero => intro u h; rw [Lib.nDigits_small (by simpa using h)]; exact Nat.le_refl _
  | succ k ih =>
    intro u h
    by_cases c : u < 10
    · rw [Lib.nDigits_small c]; omega
    · rw [Lib.nDigits_big c]
      have := ih (u / 10) (by rw [Nat.pow_succ] at h; omega)
      omega
theorem itoa_len (n : Int) (hn : inB n = true) : (Lib.itoa n).length ≤ 21 := by
  rw [inB_iff] at hn
  unfold Lib.itoa
  have h1 := digits_le 19 n.natAbs (by omega)
  have h2 := digits_le 19 n.toNat (by omega)
  split
  · rw [List.length_cons, Lib.decDigits_length]; omega
  · rw [Lib.decDigits_length]; omega
theorem size_inB (s : ByteArray) (h : s.size ≤ 100000) : inB (s.size : Int) = true := by rw [inB_iff]; omega
theorem hashOne_len {v : Val} (h : v.ok) : (hashOne v).length ≤ 100066 := by
  have a := itoa_len v.k h.1
  have b := itoa_len v.i h.2.1
  have c := itoa_len v.s.size (size_inB v.s h.2.2)
  have d := h.2.2
  rw [Lib.size_eq] at d
  unfold hashOne
  simp only [List.length_append, List.length_cons, List.length_nil]
  omega
theorem hashL_len (L : List Val) (h : ∀ v ∈ L, v.ok) : (hashL L).length ≤ 100066 * L.length := by
  induction L with
  | nil => exact Nat.le_refl _
  | cons v L ih =>
    have a := hashOne_len (h v (by simp))
    have b := ih (fun u hu => h u (by simp [hu]))
    rw [hashL_cons, List.length_append, List.length_cons]
    omega
end Go.Proofs.YtgjnnahflaaagaaDoor
