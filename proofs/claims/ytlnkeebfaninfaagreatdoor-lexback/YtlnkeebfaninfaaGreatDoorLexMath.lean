/- Tokens, in plain words over lists of bytes: nothing of the program. -/
import Derived.Test.YtlnkeebfaninfaaGreatDoorValHashM
import Derived.Test.YtlnkeebfaninfaaGreatDoorSymMath
namespace Go.Proofs.YtlnkeebfaninfaaGreatDoor
open Go.RowKit

/-- A token; what reading one tells; what reading all tells. -/
structure Tk where
  k : Int
  a : Nat
  i : Int
  s : List UInt8
structure Rd where
  e : Int
  k : Int
  i : Int
  s : List UInt8
  z : Nat
structure Out where
  l : List Tk
  a : Nat
  e : Int
def badR (e : Int) : Rd := ⟨e, 0, 0, [], 0⟩
def okR (k i : Int) (s : List UInt8) (z : Nat) : Rd := ⟨0, k, i, s, z⟩

def blankB (c : UInt8) : Bool := decide (c.toNat = 32 ∨ c.toNat = 9 ∨ c.toNat = 10 ∨ c.toNat = 13)
def lineB (c : UInt8) : Bool := !decide (c.toNat = 10)
/-- How many bytes, from the first on, all fit. -/
def runN (p : UInt8 → Bool) (l : List UInt8) : Nat := (l.takeWhile p).length
def endR (acc : List UInt8) (n : Nat) : Rd := if 1000 < acc.length then badR 4 else okR 3 0 acc (n + 1)
/-- A string behind its mark. -/
def strA : List UInt8 → List UInt8 → Nat → Rd
  | [], _, _ => badR 3
  | [c], acc, n => if c.toNat = 34 then endR acc n else badR 3
  | c :: d :: r, acc, n => if c.toNat = 34 then endR acc n else if c.toNat = 92 then strA r (acc ++ [d]) (n + 2) else strA (d :: r) (acc ++ [c]) (n + 1)
def nameZ (u : List UInt8) : Nat := runN partB u
def nameE (u : List UInt8) : Int := if 40 < nameZ u then 4 else if goodL (u.take (nameZ u)) = true then 0 else 2
def starL : List UInt8 → Bool
  | [] => false
  | c :: _ => decide (c.toNat = 42)
def globR (u : List UInt8) : Rd :=
  if nameE u = 0 then (if starL (u.drop (nameZ u)) = true then okR 7 0 (u.take (nameZ u)) (2 + nameZ u + 1) else badR 2) else badR (nameE u)
def plainR (t : List UInt8) : Rd := if nameE t = 0 then okR 6 0 (t.take (nameZ t)) (1 + nameZ t) else badR (nameE t)
def varR (t : List UInt8) : Rd := if starL t = true then globR (t.drop 1) else plainR t
def wordOf (w : List UInt8) (n : Nat) : Rd :=
  if parE w = 0 then okR 1 (parV w) [] n else if parE w = 11 then badR 11 else if 40 < n then badR 4 else okR 2 0 w n
def wordR (r : List UInt8) : Rd := if runN signB r = 0 then badR 2 else wordOf (r.take (runN signB r)) (runN signB r)
/-- The token that a text begins with. -/
def oneL : List UInt8 → Rd
  | [] => badR 2
  | c :: t =>
    if c.toNat = 40 then okR 4 0 [] 1 else if c.toNat = 41 then okR 5 0 [] 1 else if c.toNat = 126 then okR 8 0 [] 1
    else if c.toNat = 34 then strA t [] 1 else if c.toNat = 63 then varR t else wordR (c :: t)
/-- All tokens. -/
def scanS : List UInt8 → Nat → Nat → List Tk → Out
  | [], _, _, acc => ⟨acc, 0, 0⟩
  | _ :: r, k + 1, a, acc => scanS r k (a + 1) acc
  | c :: r, 0, a, acc =>
    if blankB c = true then scanS r 0 (a + 1) acc else if c.toNat = 59 then scanS r (runN lineB r) (a + 1) acc
    else if (oneL (c :: r)).e = 0 then scanS r ((oneL (c :: r)).z - 1) (a + 1) (acc ++ [⟨(oneL (c :: r)).k, a, (oneL (c :: r)).i, (oneL (c :: r)).s⟩])
    else ⟨[], a, (oneL (c :: r)).e⟩
def scanQ (l : List UInt8) (a : Nat) (acc : List Tk) : Out := scanS (l.drop a) 0 a acc

theorem oneL_cons (c : UInt8) (t : List UInt8) : oneL (c :: t) =
    if c.toNat = 40 then okR 4 0 [] 1 else if c.toNat = 41 then okR 5 0 [] 1 else if c.toNat = 126 then okR 8 0 [] 1
    else if c.toNat = 34 then strA t [] 1 else if c.toNat = 63 then varR t else wordR (c :: t) := rfl
theorem one_open (c : UInt8) (t : List UInt8) (h : c.toNat = 40) : oneL (c :: t) = okR 4 0 [] 1 := by rw [oneL_cons, if_pos h]
theorem one_close (c : UInt8) (t : List UInt8) (h : c.toNat = 41) : oneL (c :: t) = okR 5 0 [] 1 := by rw [oneL_cons, if_neg (by omega), if_pos h]
theorem one_not (c : UInt8) (t : List UInt8) (h : c.toNat = 126) : oneL (c :: t) = okR 8 0 [] 1 := by rw [oneL_cons, if_neg (by omega), if_neg (by omega), if_pos h]
theorem one_str (c : UInt8) (t : List UInt8) (h : c.toNat = 34) : oneL (c :: t) = strA t [] 1 := by rw [oneL_cons, if_neg (by omega), if_neg (by omega), if_neg (by omega), if_pos h]
theorem one_var (c : UInt8) (t : List UInt8) (h : c.toNat = 63) : oneL (c :: t) = varR t := by rw [oneL_cons, if_neg (by omega), if_neg (by omega), if_neg (by omega), if_neg (by omega), if_pos h]
theorem one_word (c : UInt8) (t : List UInt8) (h : ¬ (c.toNat = 40 ∨ c.toNat = 41 ∨ c.toNat = 126 ∨ c.toNat = 34 ∨ c.toNat = 63)) : oneL (c :: t) = wordR (c :: t) := by
  rw [oneL_cons, if_neg (by omega), if_neg (by omega), if_neg (by omega), if_neg (by omega), if_neg (by omega)]
theorem strA_nil (acc : List UInt8) (n : Nat) : strA [] acc n = badR 3 := rfl
theorem strA_end (c : UInt8) (r acc : List UInt8) (n : Nat) (h : c.toNat = 34) : strA (c :: r) acc n = endR acc n := by
  cases r <;> unfold strA <;> rw [if_pos h]
theorem strA_esc (c d : UInt8) (r acc : List UInt8) (n : Nat) (h : c.toNat = 92) : strA (c :: d :: r) acc n = strA r (acc ++ [d]) (n + 2) := by
  conv => lhs; unfold strA
  rw [if_neg (by omega), if_pos h]
theorem strA_esc0 (c : UInt8) (acc : List UInt8) (n : Nat) (h : c.toNat = 92) : strA [c] acc n = badR 3 := by
  unfold strA; rw [if_neg (by omega)]
theorem strA_one (c : UInt8) (r acc : List UInt8) (n : Nat) (h : c.toNat ≠ 34) (h2 : c.toNat ≠ 92) : strA (c :: r) acc n = strA r (acc ++ [c]) (n + 1) := by
  cases r with
  | nil => unfold strA; rw [if_neg h]
  | cons d t =>
    conv => lhs; unfold strA
    rw [if_neg h, if_neg h2]

theorem run_le (p : UInt8 → Bool) (l : List UInt8) : runN p l ≤ l.length := by
  unfold runN
  exact (List.takeWhile_prefix p).length_le
theorem run_nil (p : UInt8 → Bool) : runN p [] = 0 := rfl
theorem run_cons (p : UInt8 → Bool) (c : UInt8) (r : List UInt8) : runN p (c :: r) = if p c = true then runN p r + 1 else 0 := by
  unfold runN; rw [List.takeWhile_cons]; split <;> simp
theorem run_take (p : UInt8 → Bool) : ∀ l : List UInt8, l.take (runN p l) = l.takeWhile p
  | [] => rfl
  | c :: r => by
    rw [run_cons, List.takeWhile_cons]
    split
    · rw [List.take_succ_cons, run_take p r]
    · rfl
theorem run_all (p : UInt8 → Bool) (l : List UInt8) : (l.take (runN p l)).all p = true := by
  rw [run_take]
  induction l with
  | nil => rfl
  | cons c r ih =>
    rw [List.takeWhile_cons]
    split
    · rename_i h
      rw [List.all_cons, h, ih]; rfl
    · rfl
/-- Where all up to a place fit, and the one there does not, the run ends there. -/
theorem run_at (p : UInt8 → Bool) : ∀ (l : List UInt8) (k : Nat), (l.take k).all p = true → (h : k < l.length) → p l[k] = false → runN p l = k
  | [], _, _, h, _ => by simp at h
  | c :: r, 0, _, _, h2 => by
    rw [run_cons]
    have h3 : p c = false := h2
    rw [h3]; rfl
  | c :: r, k + 1, h0, h1, h2 => by
    rw [List.take_succ_cons, List.all_cons, Bool.and_eq_true] at h0
    rw [run_cons, if_pos h0.1, run_at p r k h0.2 (by simpa using h1) (by simpa using h2)]
theorem run_end (p : UInt8 → Bool) (l : List UInt8) (h : l.all p = true) : runN p l = l.length := by
  induction l with
  | nil => rfl
  | cons c r ih =>
    rw [List.all_cons, Bool.and_eq_true] at h
    rw [run_cons, if_pos h.1, ih h.2]; rfl
theorem run_app (p : UInt8 → Bool) (l : List UInt8) (r : List UInt8) (h : l.all p = true) (hr : ∀ c t, r = c :: t → p c = false) : runN p (l ++ r) = l.length := by
  induction l with
  | nil =>
    cases r with
    | nil => rfl
    | cons c t =>
      show runN p (c :: t) = 0
      rw [run_cons, hr c t rfl]; rfl
  | cons c t ih =>
    rw [List.all_cons, Bool.and_eq_true] at h
    rw [List.cons_append, run_cons, if_pos h.1, ih h.2]; rfl

theorem scanS_skip : ∀ (l : List UInt8) (k a : Nat) (acc : List Tk), scanS l k a acc = scanS (l.drop k) 0 (a + k) acc
  | [], k, a, acc => by rw [List.drop_nil]; rfl
  | c :: r, 0, a, acc => rfl
  | c :: r, k + 1, a, acc => by
    rw [List.drop_succ_cons, show a + (k + 1) = a + 1 + k by omega, ← scanS_skip r k (a + 1) acc]
    rfl
theorem Q_end (l : List UInt8) (a : Nat) (acc : List Tk) (h : l.length ≤ a) : scanQ l a acc = ⟨acc, 0, 0⟩ := by
  unfold scanQ; rw [List.drop_eq_nil_of_le h]; rfl
theorem Q_cons (l : List UInt8) (a : Nat) (h : a < l.length) : l.drop a = l[a] :: l.drop (a + 1) := List.drop_eq_getElem_cons h
theorem scanS_0 (c : UInt8) (r : List UInt8) (a : Nat) (acc : List Tk) : scanS (c :: r) 0 a acc =
    if blankB c = true then scanS r 0 (a + 1) acc else if c.toNat = 59 then scanS r (runN lineB r) (a + 1) acc
    else if (oneL (c :: r)).e = 0 then scanS r ((oneL (c :: r)).z - 1) (a + 1) (acc ++ [⟨(oneL (c :: r)).k, a, (oneL (c :: r)).i, (oneL (c :: r)).s⟩])
    else ⟨[], a, (oneL (c :: r)).e⟩ := rfl
theorem S_blank (c : UInt8) (r : List UInt8) (a : Nat) (acc : List Tk) (hb : blankB c = true) : scanS (c :: r) 0 a acc = scanS r 0 (a + 1) acc := by
  rw [scanS_0, if_pos hb]
theorem Q_blank (l : List UInt8) (a : Nat) (acc : List Tk) (h : a < l.length) (hb : blankB l[a] = true) : scanQ l a acc = scanQ l (a + 1) acc := by
  unfold scanQ; rw [Q_cons l a h, S_blank _ _ _ _ hb]
theorem S_line (c : UInt8) (r : List UInt8) (a : Nat) (acc : List Tk) (hb : c.toNat = 59) : scanS (c :: r) 0 a acc = scanS ((c :: r).drop (runN lineB (c :: r))) 0 (a + runN lineB (c :: r)) acc := by
  have h1 : blankB c = false := by unfold blankB; rw [hb]; decide
  have h2 : lineB c = true := by unfold lineB; rw [hb]; decide
  rw [scanS_0, h1, if_neg (by decide), if_pos hb, run_cons, if_pos h2, List.drop_succ_cons, scanS_skip, show a + (runN lineB r + 1) = a + 1 + runN lineB r by omega]
theorem Q_line (l : List UInt8) (a : Nat) (acc : List Tk) (h : a < l.length) (hb : l[a].toNat = 59) : scanQ l a acc = scanQ l (a + runN lineB (l.drop a)) acc := by
  unfold scanQ
  have e : l.drop (a + runN lineB (l.drop a)) = (l.drop a).drop (runN lineB (l.drop a)) := by rw [List.drop_drop]
  rw [e, Q_cons l a h, S_line _ _ _ _ hb]

theorem str_z : ∀ (r acc : List UInt8) (n : Nat), (strA r acc n).e = 0 → n + 1 ≤ (strA r acc n).z ∧ (strA r acc n).z ≤ n + r.length
  | [], acc, n, h => by rw [strA_nil] at h; exact absurd h (by decide)
  | [c], acc, n, h => by
    unfold strA at h ⊢
    split at h
    · rename_i hc
      rw [if_pos hc]
      unfold endR at h ⊢
      split at h
      · exact absurd h (by decide)
      · rename_i h3
        rw [if_neg h3]; show n + 1 ≤ n + 1 ∧ n + 1 ≤ n + 1; omega
    · exact absurd h (by decide)
  | c :: d :: r, acc, n, h => by
    by_cases h1 : c.toNat = 34
    · rw [strA_end _ _ _ _ h1] at h ⊢
      unfold endR at h ⊢
      split at h
      · exact absurd h (by decide)
      · rename_i h3
        rw [if_neg h3]
        show n + 1 ≤ n + 1 ∧ n + 1 ≤ n + (r.length + 1 + 1); omega
    · by_cases h2 : c.toNat = 92
      · rw [strA_esc _ _ _ _ _ h2] at h ⊢
        have := str_z r (acc ++ [d]) (n + 2) h
        simp only [List.length_cons]; omega
      · rw [strA_one _ _ _ _ h1 h2] at h ⊢
        have := str_z (d :: r) (acc ++ [c]) (n + 1) h
        simp only [List.length_cons] at this ⊢; omega
theorem star_len {l : List UInt8} (h : starL l = true) : 1 ≤ l.length := by
  cases l with
  | nil => exact absurd h (by decide)
  | cons c r => simp
theorem word_z (w : List UInt8) (n : Nat) (h : (wordOf w n).e = 0) : (wordOf w n).z = n := by
  unfold wordOf at h ⊢
  split at h
  · rename_i h1; rw [if_pos h1]; rfl
  · rename_i h1
    rw [if_neg h1]
    split at h
    · exact absurd h (by decide)
    · rename_i h2
      rw [if_neg h2]
      split at h
      · exact absurd h (by decide)
      · rename_i h3; rw [if_neg h3]; rfl
theorem nameE_bad {u : List UInt8} (h : ¬ nameE u = 0) (h2 : (badR (nameE u)).e = 0) : False := h h2
/-- What is read takes a byte at least, and no more than there are. -/
theorem one_z (r : List UInt8) (h : (oneL r).e = 0) : 1 ≤ (oneL r).z ∧ (oneL r).z ≤ r.length := by
  cases r with
  | nil => exact absurd h (by decide)
  | cons c t =>
    rw [oneL_cons] at h ⊢
    by_cases c1 : c.toNat = 40
    · rw [if_pos c1]; exact ⟨Nat.le_refl _, by simp [okR]⟩
    rw [if_neg c1] at h ⊢
    by_cases c2 : c.toNat = 41
    · rw [if_pos c2]; exact ⟨Nat.le_refl _, by simp [okR]⟩
    rw [if_neg c2] at h ⊢
    by_cases c3 : c.toNat = 126
    · rw [if_pos c3]; exact ⟨Nat.le_refl _, by simp [okR]⟩
    rw [if_neg c3] at h ⊢
    by_cases c4 : c.toNat = 34
    · rw [if_pos c4] at h ⊢
      have := str_z _ _ _ h
      simp only [List.length_cons]; omega
    rw [if_neg c4] at h ⊢
    by_cases c5 : c.toNat = 63
    · rw [if_pos c5] at h ⊢
      unfold varR at h ⊢
      split at h
      · rename_i hs
        rw [if_pos hs]
        unfold globR at h ⊢
        split at h
        · rename_i hn
          rw [if_pos hn]
          split at h
          · rename_i hq
            rw [if_pos hq]
            have h1 := star_len hq
            have h2 := star_len hs
            rw [List.length_drop, List.length_drop] at h1
            show 1 ≤ 2 + nameZ (t.drop 1) + 1 ∧ 2 + nameZ (t.drop 1) + 1 ≤ t.length + 1
            omega
          · exact absurd h (by decide)
        · rename_i hn; exact absurd h hn
      · rename_i hs
        rw [if_neg hs]
        unfold plainR at h ⊢
        split at h
        · rename_i hn
          rw [if_pos hn]
          have := run_le partB t
          show 1 ≤ 1 + runN partB t ∧ 1 + runN partB t ≤ t.length + 1
          omega
        · rename_i hn; exact absurd h hn
    · rw [if_neg c5] at h ⊢
      unfold wordR at h ⊢
      split at h
      · exact absurd h (by decide)
      · rename_i hz
        rw [if_neg hz, word_z _ _ h]
        have := run_le signB (c :: t)
        omega
theorem S_bad (c : UInt8) (r : List UInt8) (a : Nat) (acc : List Tk) (hb : blankB c = false) (hl : c.toNat ≠ 59) (he : (oneL (c :: r)).e ≠ 0) : scanS (c :: r) 0 a acc = ⟨[], a, (oneL (c :: r)).e⟩ := by
  rw [scanS_0, hb, if_neg (by decide), if_neg hl, if_neg he]
theorem S_tok (c : UInt8) (r : List UInt8) (a : Nat) (acc : List Tk) (m : Rd) (hb : blankB c = false) (hl : c.toNat ≠ 59) (hm : oneL (c :: r) = m) (he : m.e = 0) :
    scanS (c :: r) 0 a acc = scanS ((c :: r).drop m.z) 0 (a + m.z) (acc ++ [⟨m.k, a, m.i, m.s⟩]) := by
  have hz := one_z (c :: r) (by rw [hm]; exact he)
  rw [hm] at hz
  rw [scanS_0, hb, if_neg (by decide), if_neg hl, hm, if_pos he]
  obtain ⟨z, hz2⟩ : ∃ z, m.z = z + 1 := ⟨m.z - 1, by omega⟩
  rw [hz2, List.drop_succ_cons, scanS_skip, show z + 1 - 1 = z by omega, show a + (z + 1) = a + 1 + z by omega]
theorem Q_bad (l : List UInt8) (a : Nat) (acc : List Tk) (h : a < l.length) (hb : blankB l[a] = false) (hl : l[a].toNat ≠ 59) (he : (oneL (l.drop a)).e ≠ 0) : scanQ l a acc = ⟨[], a, (oneL (l.drop a)).e⟩ := by
  unfold scanQ
  rw [Q_cons l a h] at he ⊢
  exact S_bad _ _ _ _ hb hl he
theorem Q_tok (l : List UInt8) (a : Nat) (acc : List Tk) (m : Rd) (h : a < l.length) (hb : blankB l[a] = false) (hl : l[a].toNat ≠ 59) (hm : oneL (l.drop a) = m) (he : m.e = 0) :
    scanQ l a acc = scanQ l (a + m.z) (acc ++ [⟨m.k, a, m.i, m.s⟩]) := by
  unfold scanQ
  rw [Q_cons l a h] at hm ⊢
  rw [S_tok _ _ _ _ m hb hl hm he]
  rw [← Q_cons l a h, List.drop_drop]
end Go.Proofs.YtlnkeebfaninfaaGreatDoor
