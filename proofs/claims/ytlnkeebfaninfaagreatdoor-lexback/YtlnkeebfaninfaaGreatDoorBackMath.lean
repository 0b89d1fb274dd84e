/- Rows of tokens, written with blanks between, are read as those tokens again. -/
import Derived.Test.YtlnkeebfaninfaaGreatDoorLexConv
namespace Go.Proofs.YtlnkeebfaninfaaGreatDoor
open Go.RowKit

def sumS : List Tk → Nat
  | [] => 0
  | t :: r => t.s.length + sumS r
theorem sumS_app : ∀ (x y : List Tk), sumS (x ++ y) = sumS x + sumS y
  | [], y => by simp [sumS]
  | t :: r, y => by
    rw [List.cons_append]
    show t.s.length + sumS (r ++ y) = t.s.length + sumS r + sumS y
    rw [sumS_app r y]; omega
theorem str_sz : ∀ (r acc : List UInt8) (n : Nat), acc.length ≤ n → (strA r acc n).e = 0 → (strA r acc n).s.length ≤ (strA r acc n).z
  | [], acc, n, _, h => by rw [strA_nil] at h; exact absurd h (by decide)
  | c :: r, acc, n, ha, h => by
    by_cases h1 : c.toNat = 34
    · rw [strA_end _ _ _ _ h1] at h ⊢
      unfold endR at h ⊢
      split at h
      · exact absurd h (by decide)
      · rename_i h3
        rw [if_neg h3]
        show acc.length ≤ n + 1; omega
    · by_cases h2 : c.toNat = 92
      · cases r with
        | nil => rw [strA_esc0 _ _ _ h2] at h; exact absurd h (by decide)
        | cons d t =>
          rw [strA_esc _ _ _ _ _ h2] at h ⊢
          exact str_sz t _ _ (by rw [List.length_append, List.length_singleton]; omega) h
      · rw [strA_one _ _ _ _ h1 h2] at h ⊢
        exact str_sz r _ _ (by rw [List.length_append, List.length_singleton]; omega) h
theorem one_sz (r : List UInt8) (h : (oneL r).e = 0) : (oneL r).s.length ≤ (oneL r).z := by
  cases r with
  | nil => exact absurd h (by decide)
  | cons c t =>
    rw [oneL_cons] at h ⊢
    by_cases c1 : c.toNat = 40
    · rw [if_pos c1]; exact Nat.zero_le _
    rw [if_neg c1] at h ⊢
    by_cases c2 : c.toNat = 41
    · rw [if_pos c2]; exact Nat.zero_le _
    rw [if_neg c2] at h ⊢
    by_cases c3 : c.toNat = 126
    · rw [if_pos c3]; exact Nat.zero_le _
    rw [if_neg c3] at h ⊢
    by_cases c4 : c.toNat = 34
    · rw [if_pos c4] at h ⊢; exact str_sz _ _ _ (Nat.zero_le _) h
    rw [if_neg c4] at h ⊢
    by_cases c5 : c.toNat = 63
    · rw [if_pos c5] at h ⊢
      unfold varR at h ⊢
      split at h
      · rename_i hs
        rw [if_pos hs]
        unfold globR at h ⊢
        split at h
        · rename_i hn
          rw [if_pos hn]
          split at h
          · rename_i hq
            rw [if_pos hq]
            show ((t.drop 1).take (nameZ (t.drop 1))).length ≤ 2 + nameZ (t.drop 1) + 1
            rw [List.length_take]; omega
          · exact absurd h (by decide)
        · rename_i hn; exact absurd h hn
      · rename_i hs
        rw [if_neg hs]
        unfold plainR at h ⊢
        split at h
        · rename_i hn
          rw [if_pos hn]
          show (t.take (nameZ t)).length ≤ 1 + nameZ t
          rw [List.length_take]; omega
        · rename_i hn; exact absurd h hn
    · rw [if_neg c5] at h ⊢
      unfold wordR at h ⊢
      split at h
      · exact absurd h (by decide)
      · rename_i hz
        rw [if_neg hz]
        unfold wordOf at h ⊢
        split at h
        · rename_i h1
          rw [if_pos h1]; exact Nat.zero_le _
        · rename_i h1
          rw [if_neg h1]
          split at h
          · exact absurd h (by decide)
          · rename_i h2
            rw [if_neg h2]
            split at h
            · exact absurd h (by decide)
            · rename_i h3
              rw [if_neg h3]
              show ((c :: t).take (runN signB (c :: t))).length ≤ runN signB (c :: t)
              rw [List.length_take]; omega
theorem scan_sum : ∀ (l : List UInt8) (k a : Nat) (acc : List Tk), k ≤ l.length → sumS (scanS l k a acc).l ≤ sumS acc + (l.length - k)
  | [], _, _, acc, _ => by show sumS acc ≤ _; omega
  | c :: r, k + 1, a, acc, h => by
    have := scan_sum r k (a + 1) acc (by simpa using h)
    show sumS (scanS r k (a + 1) acc).l ≤ _
    simp only [List.length_cons]; omega
  | c :: r, 0, a, acc, _ => by
    rw [scanS_0]
    simp only [List.length_cons]
    split
    · have := scan_sum r 0 (a + 1) acc (Nat.zero_le _); omega
    · split
      · have := scan_sum r (runN lineB r) (a + 1) acc (run_le _ _); omega
      · split
        · rename_i he
          have hz := one_z (c :: r) he
          have hs := one_sz (c :: r) he
          simp only [List.length_cons] at hz
          have := scan_sum r ((oneL (c :: r)).z - 1) (a + 1) (acc ++ [⟨(oneL (c :: r)).k, a, (oneL (c :: r)).i, (oneL (c :: r)).s⟩]) (by omega)
          rw [sumS_app] at this
          have e : sumS [(⟨(oneL (c :: r)).k, a, (oneL (c :: r)).i, (oneL (c :: r)).s⟩ : Tk)] = (oneL (c :: r)).s.length := Nat.add_zero _
          rw [e] at this
          omega
        · exact Nat.zero_le _
theorem scanQ_sum (l : List UInt8) : sumS (scanQ l 0 []).l ≤ l.length := by
  have := scan_sum l 0 0 [] (Nat.zero_le _)
  simp [sumS] at this
  exact this

def core (t : Tk) : Int × Int × List UInt8 := (t.k, t.i, t.s)
theorem tokL_len {k i : Int} {s : List UInt8} (h : WfT k i s) : (tokL k i s).length ≤ 2 * s.length + 23 := by
  rcases h with ⟨rfl, hi, rfl⟩ | ⟨rfl, rfl, _⟩ | ⟨rfl, rfl, _⟩ | ⟨hk, rfl, rfl⟩ | ⟨hk, rfl, _⟩
  · rw [tokL_int]; have := itoa_len i hi; omega
  · rw [tokL_sym]; omega
  · rw [tokL_str]; have := (escL_len s).2; simp only [List.length_cons, List.length_append, List.length_nil]; omega
  · rcases hk with rfl | rfl | rfl <;> decide
  · rcases hk with rfl | rfl
    · rw [tokL_var]; simp only [List.length_cons]; omega
    · rw [tokL_glob]; simp only [List.length_cons, List.length_append, List.length_nil]; omega
/-- What was written so far is read as so many of the tokens. -/
def BackTo (L : List Tk) (k : Nat) (T : List UInt8) : Prop := (∃ P : List Tk, P.map core = (L.take k).map core ∧ ∀ rest, scanS (T ++ rest) 0 0 [] = scanS rest 0 T.length P) ∧ T.length ≤ 2 * sumS (L.take k) + 37 * k
theorem back_nil (L : List Tk) : BackTo L 0 [] := ⟨⟨[], rfl, fun _ => rfl⟩, Nat.zero_le _⟩
theorem take_tk {L : List Tk} {k : Nat} {t : Tk} (h : L[k]? = some t) : L.take (k + 1) = L.take k ++ [t] := by
  obtain ⟨hk, rfl⟩ := List.getElem?_eq_some_iff.1 h
  exact List.take_succ_eq_append_getElem hk
theorem back_step {L : List Tk} {k : Nat} {T sep : List UInt8} {t : Tk} (h : BackTo L k T) (ht : L[k]? = some t) (hw : WfT t.k t.i t.s) (hs : SepL sep) (hg : Gap sep) (hne : sep ≠ []) (hl : sep.length ≤ 14) : BackTo L (k + 1) (T ++ (tokL t.k t.i t.s ++ sep)) := by
  obtain ⟨⟨P, hP, hS⟩, hT⟩ := h
  refine ⟨⟨P ++ [⟨t.k, T.length, t.i, t.s⟩], ?_, ?_⟩, ?_⟩
  · rw [take_tk ht, List.map_append, List.map_append, hP]; rfl
  · intro rest
    have hg2 : Gap (sep ++ rest) := by
      cases sep with
      | nil => exact absurd rfl hne
      | cons c r => exact gap_cons _ (hg c r rfl)
    rw [List.append_assoc, List.append_assoc, hS, S_text _ _ _ _ _ _ hw hg2, hs]
    congr 1
    rw [List.length_append, List.length_append]; omega
  · have h1 := tokL_len hw
    rw [take_tk ht, sumS_app, List.length_append, List.length_append]
    have e : sumS [t] = t.s.length := Nat.add_zero _
    omega
theorem sumS_take (L : List Tk) (k : Nat) : sumS (L.take k) ≤ sumS L := by
  have h : sumS L = sumS (L.take k) + sumS (L.drop k) := by rw [← sumS_app, List.take_append_drop]
  omega
theorem back_end {L : List Tk} {T : List UInt8} (h : BackTo L L.length T) : ∃ P : List Tk, P.length = L.length ∧ (∀ j : Nat, (P[j]?).map core = (L[j]?).map core) ∧ scanS T 0 0 [] = ⟨P, 0, 0⟩ := by
  obtain ⟨⟨P, hP, hS⟩, _⟩ := h
  rw [List.take_length] at hP
  refine ⟨P, ?_, ?_, ?_⟩
  · have := congrArg List.length hP
    simpa using this
  · intro j
    rw [← List.getElem?_map, ← List.getElem?_map, hP]
  · have := hS []
    rw [List.append_nil] at this
    rw [this]; rfl
end Go.Proofs.YtlnkeebfaninfaaGreatDoor
