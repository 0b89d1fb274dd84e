/- Tokens as there may be; that their texts are read as them again. Nothing of the program. -/
import Derived.Test.YtlnkeebfaninfaaGreatDoorLexMath
namespace Go.Proofs.YtlnkeebfaninfaaGreatDoor
open Go.RowKit

theorem par_itoa (n : Int) (hn : inB n = true) : parV (Lib.itoa n) = n ∧ parE (Lib.itoa n) = 0 := by
  have key : shapeL (Lib.itoa n) = true ∧ valL (Lib.itoa n) = n := by
    unfold Lib.itoa
    by_cases c : n < 0
    · rw [if_pos c]
      have e1 : bodyL (45 :: Lib.decDigits n.natAbs) = Lib.decDigits n.natAbs := rfl
      have e2 : negL (45 :: Lib.decDigits n.natAbs) = true := rfl
      unfold shapeL valL
      rw [e1, e2, if_pos rfl, dval_digits, digits_all]
      obtain ⟨d, r, hd, _⟩ := digits_pos n.natAbs
      rw [hd]
      exact ⟨rfl, by omega⟩
    · rw [if_neg c]
      obtain ⟨d, r, hd, hb⟩ := digits_pos n.toNat
      have e1 : bodyL (Lib.decDigits n.toNat) = Lib.decDigits n.toNat := by
        rw [hd]
        show (if d.toNat = 45 ∨ d.toNat = 43 then r else d :: r) = d :: r
        rw [if_neg (by omega)]
      have e2 : negL (Lib.decDigits n.toNat) = false := by
        rw [hd]
        show (d.toNat == 45) = false
        simp; omega
      unfold shapeL valL
      rw [e1, e2, if_neg (by decide), dval_digits, digits_all, hd]
      exact ⟨rfl, by omega⟩
  unfold parV parE
  rw [key.1, if_pos rfl, if_pos rfl, key.2]
  exact ⟨resV_in hn, resE_in hn⟩

/-- A token as there may be. -/
def WfT (k i : Int) (s : List UInt8) : Prop :=
  (k = 1 ∧ inB i = true ∧ s = []) ∨ (k = 2 ∧ i = 0 ∧ 1 ≤ s.length ∧ s.length ≤ 40 ∧ s.all signB = true ∧ shapeL s = false) ∨ (k = 3 ∧ i = 0 ∧ s.length ≤ 1000)
  ∨ ((k = 4 ∨ k = 5 ∨ k = 8) ∧ i = 0 ∧ s = []) ∨ ((k = 6 ∨ k = 7) ∧ i = 0 ∧ goodL s = true)
theorem good_len {s : List UInt8} (h : goodL s = true) : 1 ≤ s.length ∧ s.length ≤ 40 := by
  unfold goodL at h
  rw [Bool.and_eq_true, decide_eq_true_eq] at h
  refine ⟨?_, h.1.2⟩
  have := List.length_pos_iff.2 h.1.1
  omega
theorem wf_bd {k i : Int} {s : List UInt8} (h : WfT k i s) : s.length ≤ 1000 ∧ inB i = true := by
  rcases h with ⟨_, h1, rfl⟩ | ⟨_, rfl, _, h2, _⟩ | ⟨_, rfl, h2⟩ | ⟨_, rfl, rfl⟩ | ⟨_, rfl, h2⟩
  · exact ⟨by simp, h1⟩
  · exact ⟨by omega, by decide⟩
  · exact ⟨h2, by decide⟩
  · exact ⟨by simp, by decide⟩
  · exact ⟨by have := good_len h2; omega, by decide⟩
theorem str_wf : ∀ (r acc : List UInt8) (n : Nat), (strA r acc n).e = 0 → WfT (strA r acc n).k (strA r acc n).i (strA r acc n).s
  | [], acc, n, h => by rw [strA_nil] at h; exact absurd h (by decide)
  | c :: r, acc, n, h => by
    by_cases h1 : c.toNat = 34
    · rw [strA_end _ _ _ _ h1] at h ⊢
      unfold endR at h ⊢
      split at h
      · exact absurd h (by decide)
      · rename_i h3
        rw [if_neg h3]
        exact .inr (.inr (.inl ⟨rfl, rfl, by show acc.length ≤ 1000; omega⟩))
    · by_cases h2 : c.toNat = 92
      · cases r with
        | nil => rw [strA_esc0 _ _ _ h2] at h; exact absurd h (by decide)
        | cons d t =>
          rw [strA_esc _ _ _ _ _ h2] at h ⊢
          exact str_wf t _ _ h
      · rw [strA_one _ _ _ _ h1 h2] at h ⊢
        exact str_wf r _ _ h
theorem nameE_is {u : List UInt8} (h : nameE u = 0) : goodL (u.take (nameZ u)) = true := by
  unfold nameE at h
  split at h
  · exact absurd h (by decide)
  · split at h
    · assumption
    · exact absurd h (by decide)
theorem parE_shape {w : List UInt8} (h1 : ¬ parE w = 0) (h2 : ¬ parE w = 11) : shapeL w = false := by
  cases hs : shapeL w
  · rfl
  · exfalso
    unfold parE at h1 h2
    rw [if_pos hs] at h1 h2
    unfold resE at h1 h2
    split at h1
    · exact h1 rfl
    · rename_i hi; rw [if_neg hi] at h2; exact h2 rfl
theorem parV_in (w : List UInt8) : inB (parV w) = true := by
  unfold parV
  split
  · exact resV_bd _
  · decide
/-- What is read is such a token. -/
theorem one_wf (r : List UInt8) (h : (oneL r).e = 0) : WfT (oneL r).k (oneL r).i (oneL r).s := by
  cases r with
  | nil => exact absurd h (by decide)
  | cons c t =>
    rw [oneL_cons] at h ⊢
    by_cases c1 : c.toNat = 40
    · rw [if_pos c1]; exact .inr (.inr (.inr (.inl ⟨.inl rfl, rfl, rfl⟩)))
    rw [if_neg c1] at h ⊢
    by_cases c2 : c.toNat = 41
    · rw [if_pos c2]; exact .inr (.inr (.inr (.inl ⟨.inr (.inl rfl), rfl, rfl⟩)))
    rw [if_neg c2] at h ⊢
    by_cases c3 : c.toNat = 126
    · rw [if_pos c3]; exact .inr (.inr (.inr (.inl ⟨.inr (.inr rfl), rfl, rfl⟩)))
    rw [if_neg c3] at h ⊢
    by_cases c4 : c.toNat = 34
    · rw [if_pos c4] at h ⊢; exact str_wf _ _ _ h
    rw [if_neg c4] at h ⊢
    by_cases c5 : c.toNat = 63
    · rw [if_pos c5] at h ⊢
      unfold varR at h ⊢
      split at h
      · rename_i hs
        rw [if_pos hs]
        unfold globR at h ⊢
        split at h
        · rename_i hn
          rw [if_pos hn]
          split at h
          · rename_i hq
            rw [if_pos hq]
            exact .inr (.inr (.inr (.inr ⟨.inr rfl, rfl, nameE_is hn⟩)))
          · exact absurd h (by decide)
        · rename_i hn; exact absurd h hn
      · rename_i hs
        rw [if_neg hs]
        unfold plainR at h ⊢
        split at h
        · rename_i hn
          rw [if_pos hn]
          exact .inr (.inr (.inr (.inr ⟨.inl rfl, rfl, nameE_is hn⟩)))
        · rename_i hn; exact absurd h hn
    · rw [if_neg c5] at h ⊢
      unfold wordR at h ⊢
      split at h
      · exact absurd h (by decide)
      · rename_i hz
        rw [if_neg hz]
        unfold wordOf at h ⊢
        split at h
        · rename_i h1
          rw [if_pos h1]
          exact .inl ⟨rfl, parV_in _, rfl⟩
        · rename_i h1
          rw [if_neg h1]
          split at h
          · exact absurd h (by decide)
          · rename_i h2
            rw [if_neg h2]
            split at h
            · exact absurd h (by decide)
            · rename_i h3
              rw [if_neg h3]
              have hl := run_le signB (c :: t)
              refine .inr (.inl ⟨rfl, rfl, ?_, ?_, run_all _ _, parE_shape h1 h2⟩)
              · show 1 ≤ ((c :: t).take (runN signB (c :: t))).length
                rw [List.length_take]; omega
              · show ((c :: t).take (runN signB (c :: t))).length ≤ 40
                rw [List.length_take]; omega
theorem scan_wf : ∀ (l : List UInt8) (k a : Nat) (acc : List Tk), (∀ t ∈ acc, WfT t.k t.i t.s) → ∀ t ∈ (scanS l k a acc).l, WfT t.k t.i t.s
  | [], _, _, acc, h => h
  | c :: r, k + 1, a, acc, h => scan_wf r k (a + 1) acc h
  | c :: r, 0, a, acc, h => by
    rw [scanS_0]
    split
    · exact scan_wf r 0 (a + 1) acc h
    · split
      · exact scan_wf r _ (a + 1) acc h
      · split
        · rename_i he
          refine scan_wf r _ (a + 1) _ ?_
          intro t ht
          rw [List.mem_append, List.mem_singleton] at ht
          rcases ht with ht | rfl
          · exact h t ht
          · exact one_wf (c :: r) he
        · intro t ht; simp at ht
theorem scanQ_wf (l : List UInt8) : ∀ t ∈ (scanQ l 0 []).l, WfT t.k t.i t.s := scan_wf _ _ _ _ (by simp)
theorem scan_len : ∀ (l : List UInt8) (k a : Nat) (acc : List Tk), (scanS l k a acc).l.length ≤ acc.length + l.length
  | [], _, _, acc => by show acc.length ≤ _; omega
  | c :: r, k + 1, a, acc => by
    have := scan_len r k (a + 1) acc
    show (scanS r k (a + 1) acc).l.length ≤ _
    simp only [List.length_cons]; omega
  | c :: r, 0, a, acc => by
    rw [scanS_0]
    simp only [List.length_cons]
    split
    · have := scan_len r 0 (a + 1) acc; omega
    · split
      · have := scan_len r (runN lineB r) (a + 1) acc; omega
      · split
        · have := scan_len r ((oneL (c :: r)).z - 1) (a + 1) (acc ++ [⟨(oneL (c :: r)).k, a, (oneL (c :: r)).i, (oneL (c :: r)).s⟩])
          rw [List.length_append, List.length_singleton] at this
          omega
        · simp
theorem scanQ_len (l : List UInt8) : (scanQ l 0 []).l.length ≤ l.length := by
  have := scan_len l 0 0 []
  simp at this
  exact this
end Go.Proofs.YtlnkeebfaninfaaGreatDoor
