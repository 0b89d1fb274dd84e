/- Tokens' texts are read as those tokens again; blanks and comments are left out. -/
import Derived.Test.YtlnkeebfaninfaaGreatDoorLexText
import Derived.Test.YtlnkeebfaninfaaGreatDoorLexWf
namespace Go.Proofs.YtlnkeebfaninfaaGreatDoor
open Go.RowKit

def tokL (k i : Int) (s : List UInt8) : List UInt8 := (tokS k i (baL s)).data.toList
theorem tokL_int (i : Int) (s : List UInt8) : tokL 1 i s = Lib.itoa i := rfl
theorem tokL_sym (i : Int) (s : List UInt8) : tokL 2 i s = s := rfl
theorem tokL_str (i : Int) (s : List UInt8) : tokL 3 i s = 34 :: (escL s ++ [34]) := rfl
theorem tokL_var (i : Int) (s : List UInt8) : tokL 6 i s = 63 :: s := by
  show (⟨#[63]⟩ ++ baL s : ByteArray).data.toList = _
  rw [ba_app]; rfl
theorem tokL_glob (i : Int) (s : List UInt8) : tokL 7 i s = 63 :: 42 :: (s ++ [42]) := by
  show (⟨#[63, 42]⟩ ++ baL s ++ ⟨#[42]⟩ : ByteArray).data.toList = _
  rw [ba_app, ba_app]; rfl
/-- What may stand behind a token: nothing, or a blank. -/
def Gap (r : List UInt8) : Prop := ∀ c t, r = c :: t → blankB c = true
theorem gap_nil : Gap [] := fun c t h => absurd h (by simp)
theorem gap_cons {c : UInt8} (t : List UInt8) (h : blankB c = true) : Gap (c :: t) := fun d u e => by
  injection e with e1 _; rw [← e1]; exact h
theorem blank_no {c : UInt8} (h : blankB c = true) : signB c = false ∧ partB c = false := by
  unfold blankB at h
  rw [decide_eq_true_eq] at h
  refine ⟨?_, ?_⟩
  · unfold signB; rw [decide_eq_false_iff_not]; omega
  · unfold partB partI ltrI othI
    rw [Bool.or_eq_false_iff, decide_eq_false_iff_not, decide_eq_false_iff_not]; omega
theorem gap_sign {r : List UInt8} (h : Gap r) : ∀ c t, r = c :: t → signB c = false := fun c t e => (blank_no (h c t e)).1
theorem gap_part {r : List UInt8} (h : Gap r) : ∀ c t, r = c :: t → partB c = false := fun c t e => (blank_no (h c t e)).2
theorem sign_is {c : UInt8} (h : signB c = true) : blankB c = false ∧ c.toNat ≠ 59 ∧ ¬ (c.toNat = 40 ∨ c.toNat = 41 ∨ c.toNat = 126 ∨ c.toNat = 34 ∨ c.toNat = 63) := by
  unfold signB at h
  rw [decide_eq_true_eq] at h
  refine ⟨?_, by omega, by omega⟩
  unfold blankB; rw [decide_eq_false_iff_not]; omega
theorem str_text : ∀ (s rest acc : List UInt8) (n : Nat), strA (escL s ++ 34 :: rest) acc n = endR (acc ++ s) (n + (escL s).length)
  | [], rest, acc, n => by
    show strA (34 :: rest) acc n = _
    rw [strA_end _ _ _ _ (by decide), List.append_nil]; rfl
  | c :: s, rest, acc, n => by
    rw [escL_cons]
    by_cases h : markB c = true
    · rw [if_pos h]
      show strA (92 :: c :: (escL s ++ 34 :: rest)) acc n = _
      rw [strA_esc _ _ _ _ _ (by decide), str_text s rest (acc ++ [c]) (n + 2)]
      congr 1
      · simp
      · simp only [List.length_append, List.length_cons, List.length_nil]; omega
    · rw [if_neg h]
      have h2 : ¬ (c.toNat = 34 ∨ c.toNat = 92) := by
        intro e; exact h (by unfold markB; exact decide_eq_true e)
      show strA (c :: (escL s ++ 34 :: rest)) acc n = _
      rw [strA_one _ _ _ _ (by omega) (by omega), str_text s rest (acc ++ [c]) (n + 1)]
      congr 1
      · simp
      · simp only [List.length_append, List.length_cons, List.length_nil]; omega
theorem word_text (w rest : List UInt8) (hw : w ≠ []) (ha : w.all signB = true) (hg : Gap rest) : oneL (w ++ rest) = wordOf w w.length := by
  cases w with
  | nil => exact absurd rfl hw
  | cons c t =>
    have hc : signB c = true := by rw [List.all_cons, Bool.and_eq_true] at ha; exact ha.1
    rw [List.cons_append, one_word c _ (sign_is hc).2.2]
    have hr : runN signB (c :: (t ++ rest)) = (c :: t).length := run_app signB (c :: t) rest ha (gap_sign hg)
    unfold wordR
    rw [hr, if_neg (by simp)]
    congr 1
    rw [← List.cons_append]
    simp
theorem itoa_sign (n : Int) : (Lib.itoa n).all signB = true ∧ Lib.itoa n ≠ [] := by
  have hd : ∀ u : Nat, (Lib.decDigits u).all signB = true := by
    intro u
    have h := digits_all u
    unfold allD at h
    rw [List.all_eq_true] at h ⊢
    intro c hc
    have := digB_bd (h c hc)
    unfold signB; rw [decide_eq_true_eq]; omega
  unfold Lib.itoa
  split
  · refine ⟨?_, by simp⟩
    rw [List.all_cons, hd]; rfl
  · refine ⟨hd _, ?_⟩
    obtain ⟨c, r, h, _⟩ := digits_pos n.toNat
    rw [h]; simp
theorem good_parts {s : List UInt8} (h : goodL s = true) : s.all partB = true ∧ ∃ c t, s = c :: t ∧ c.toNat ≠ 42 := by
  unfold goodL at h
  rw [Bool.and_eq_true] at h
  cases s with
  | nil => exact absurd h.1 (by decide)
  | cons c t =>
    have h2 : (letB c && t.all partB) = true := h.2
    rw [Bool.and_eq_true] at h2
    refine ⟨by rw [List.all_cons, partB_of_let h2.1, h2.2]; rfl, c, t, rfl, ?_⟩
    intro e
    have := h2.1
    unfold letB ltrI at this
    rw [decide_eq_true_eq] at this
    omega
theorem name_text (s rest : List UInt8) (h : goodL s = true) (hr : ∀ c t, rest = c :: t → partB c = false) : nameZ (s ++ rest) = s.length ∧ nameE (s ++ rest) = 0 ∧ (s ++ rest).take (nameZ (s ++ rest)) = s ∧ (s ++ rest).drop (nameZ (s ++ rest)) = rest := by
  have hz : nameZ (s ++ rest) = s.length := run_app partB s rest (good_parts h).1 hr
  have ht : (s ++ rest).take (nameZ (s ++ rest)) = s := by rw [hz]; simp
  refine ⟨hz, ?_, ht, by rw [hz]; simp⟩
  unfold nameE
  rw [ht, h, hz, if_neg (by have := good_len h; omega), if_pos rfl]
/-- A token's text, with a gap behind it, is read as that token. -/
theorem tok_back (k i : Int) (s rest : List UInt8) (hw : WfT k i s) (hg : Gap rest) : (∃ c t, tokL k i s = c :: t ∧ blankB c = false ∧ c.toNat ≠ 59) ∧ oneL (tokL k i s ++ rest) = okR k i s (tokL k i s).length := by
  rcases hw with ⟨rfl, hi, rfl⟩ | ⟨rfl, rfl, h1, h2, h3, h4⟩ | ⟨rfl, rfl, h1⟩ | ⟨hk, rfl, rfl⟩ | ⟨hk, rfl, hs⟩
  · obtain ⟨ha, hn⟩ := itoa_sign i
    obtain ⟨p1, p2⟩ := par_itoa i hi
    rw [tokL_int]
    refine ⟨?_, ?_⟩
    · cases e : Lib.itoa i with
      | nil => exact absurd e hn
      | cons c t =>
        rw [e, List.all_cons, Bool.and_eq_true] at ha
        exact ⟨c, t, rfl, (sign_is ha.1).1, (sign_is ha.1).2.1⟩
    · rw [word_text _ _ hn ha hg]
      unfold wordOf
      rw [p2, if_pos rfl, p1]
  · rw [tokL_sym]
    refine ⟨?_, ?_⟩
    · cases s with
      | nil => simp at h1
      | cons c t =>
        rw [List.all_cons, Bool.and_eq_true] at h3
        exact ⟨c, t, rfl, (sign_is h3.1).1, (sign_is h3.1).2.1⟩
    · rw [word_text _ _ (by intro e; rw [e] at h1; simp at h1) h3 hg]
      unfold wordOf
      have hp : parE s = 2 := by unfold parE; rw [if_neg (by rw [h4]; decide)]
      rw [hp, if_neg (by decide), if_neg (by decide), if_neg (by omega)]
  · rw [tokL_str]
    refine ⟨⟨_, _, rfl, by decide, by decide⟩, ?_⟩
    rw [List.cons_append, one_str _ _ (by decide), List.append_assoc]
    show strA (escL s ++ 34 :: rest) [] 1 = _
    rw [str_text, List.nil_append]
    unfold endR
    rw [if_neg (by omega)]
    congr 1
    simp only [List.length_cons, List.length_append, List.length_nil]; omega
  · rcases hk with rfl | rfl | rfl
    · exact ⟨⟨40, [], rfl, by decide, by decide⟩, rfl⟩
    · exact ⟨⟨41, [], rfl, by decide, by decide⟩, rfl⟩
    · exact ⟨⟨126, [], rfl, by decide, by decide⟩, rfl⟩
  · rcases hk with rfl | rfl
    · rw [tokL_var]
      refine ⟨⟨_, _, rfl, by decide, by decide⟩, ?_⟩
      obtain ⟨n1, n2, n3, _⟩ := name_text s rest hs (gap_part hg)
      obtain ⟨_, c, t, e, hc⟩ := good_parts hs
      rw [List.cons_append, one_var _ _ (by decide)]
      unfold varR
      have hst : starL (s ++ rest) = false := by
        rw [e]; show decide (c.toNat = 42) = false; simpa using hc
      rw [hst, if_neg (by decide)]
      unfold plainR
      rw [n2, if_pos rfl, n3, n1]
      congr 1
      simp only [List.length_cons]; omega
    · rw [tokL_glob]
      refine ⟨⟨_, _, rfl, by decide, by decide⟩, ?_⟩
      obtain ⟨n1, n2, n3, n4⟩ := name_text s (42 :: rest) hs (fun c t e => by injection e with e1 _; rw [← e1]; decide)
      rw [List.cons_append, List.cons_append, one_var _ _ (by decide), List.append_assoc]
      show varR (42 :: (s ++ 42 :: rest)) = _
      unfold varR
      rw [if_pos (by rfl)]
      show globR (s ++ 42 :: rest) = _
      unfold globR
      rw [n2, if_pos rfl, n4, n3, n1, if_pos (by rfl)]
      congr 1
      simp only [List.length_cons, List.length_append, List.length_nil]; omega
theorem S_text (k i : Int) (s rest : List UInt8) (a : Nat) (acc : List Tk) (hw : WfT k i s) (hg : Gap rest) :
    scanS (tokL k i s ++ rest) 0 a acc = scanS rest 0 (a + (tokL k i s).length) (acc ++ [⟨k, a, i, s⟩]) := by
  obtain ⟨⟨c, t, e, h1, h2⟩, h3⟩ := tok_back k i s rest hw hg
  have h4 := S_tok c (t ++ rest) a acc (okR k i s (tokL k i s).length) h1 h2 (by rw [← h3, e]; rfl) rfl
  rw [e, List.cons_append, h4]
  have h5 : (c :: (t ++ rest)).drop (okR k i s (tokL k i s).length).z = rest := by
    show (c :: (t ++ rest)).drop (tokL k i s).length = rest
    rw [e, ← List.cons_append]; simp
  rw [h5, ← e]
  rfl

/-- A text that is left out. -/
def SepL (b : List UInt8) : Prop := ∀ rest a acc, scanS (b ++ rest) 0 a acc = scanS rest 0 (a + b.length) acc
theorem sep_nil : SepL [] := fun _ _ _ => rfl
theorem sep_cons {c : UInt8} {r : List UInt8} (h : blankB c = true) (hr : SepL r) : SepL (c :: r) := fun rest a acc => by
  rw [List.cons_append, S_blank _ _ _ _ h, hr, List.length_cons, show a + 1 + r.length = a + (r.length + 1) by omega]
theorem sep_line {r : List UInt8} (h : r.all lineB = true) : SepL (59 :: (r ++ [10])) := fun rest a acc => by
  have hr : runN lineB (59 :: (r ++ 10 :: rest)) = (59 :: r).length := run_app lineB (59 :: r) (10 :: rest) (by rw [List.all_cons, h]; rfl) (fun c t e => by injection e with e1 _; rw [← e1]; rfl)
  rw [List.cons_append, List.append_assoc]
  show scanS (59 :: (r ++ 10 :: rest)) 0 a acc = _
  rw [S_line 59 _ a acc (by decide), hr]
  have h5 : (59 :: (r ++ 10 :: rest)).drop (59 :: r).length = 10 :: rest := by rw [← List.cons_append]; simp
  rw [h5, S_blank _ _ _ _ (by decide)]
  congr 1
  simp only [List.length_cons, List.length_append, List.length_nil]; omega
theorem sep_app {x y : List UInt8} (hx : SepL x) (hy : SepL y) : SepL (x ++ y) := fun rest a acc => by
  rw [List.append_assoc, hx, hy, List.length_append, Nat.add_assoc]
theorem line_end {r : List UInt8} (h : r.all lineB = true) (a : Nat) (acc : List Tk) : scanS (59 :: r) 0 a acc = ⟨acc, 0, 0⟩ := by
  have hr : runN lineB (59 :: r) = (59 :: r).length := run_end lineB (59 :: r) (by rw [List.all_cons, h]; rfl)
  rw [S_line 59 _ a acc (by decide), hr, List.drop_length]; rfl
end Go.Proofs.YtlnkeebfaninfaaGreatDoor
