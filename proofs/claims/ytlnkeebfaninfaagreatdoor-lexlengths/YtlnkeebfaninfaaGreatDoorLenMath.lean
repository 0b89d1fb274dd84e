/- Symbols, names, strings of one letter: how they are read. -/
import Derived.Test.YtlnkeebfaninfaaGreatDoorLexConv
namespace Go.Proofs.YtlnkeebfaninfaaGreatDoor
open Go.RowKit

def kk (n : Nat) : List UInt8 := List.replicate n 107
theorem kk_len (n : Nat) : (kk n).length = n := List.length_replicate
theorem kk_succ (n : Nat) : kk (n + 1) = kk n ++ [107] := List.replicate_succ'
theorem kk_cons (n : Nat) : kk (n + 1) = 107 :: kk n := rfl
theorem kk_all (p : UInt8 → Bool) (h : p 107 = true) (n : Nat) : (kk n).all p = true := by
  rw [List.all_eq_true]
  intro x hx
  rw [(List.mem_replicate.1 hx).2]; exact h
theorem kk_esc : ∀ n : Nat, escL (kk n) = kk n
  | 0 => rfl
  | n + 1 => by
    rw [kk_cons, escL_cons, kk_esc n]; rfl
theorem kk_shape (n : Nat) (h : 1 ≤ n) : shapeL (kk n) = false := by
  obtain ⟨m, rfl⟩ : ∃ m, n = m + 1 := ⟨n - 1, by omega⟩
  unfold shapeL
  have e : bodyL (kk (m + 1)) = 107 :: kk m := by
    rw [kk_cons]
    show (if (107 : UInt8).toNat = 45 ∨ (107 : UInt8).toNat = 43 then kk m else 107 :: kk m) = _
    rw [if_neg (by decide)]
  rw [e]; rfl
theorem kk_good (n : Nat) (h1 : 1 ≤ n) (h2 : n ≤ 40) : goodL (kk n) = true := by
  obtain ⟨m, rfl⟩ : ∃ m, n = m + 1 := ⟨n - 1, by omega⟩
  unfold goodL
  rw [kk_len, decide_eq_true ⟨by rw [kk_cons]; simp, h2⟩, kk_cons]
  show (true && (letB 107 && (kk m).all partB)) = true
  rw [kk_all partB (by decide)]; rfl
theorem kk_ba (n : Nat) : baL (kk n) ++ ⟨#[107]⟩ = baL (kk (n + 1)) := by
  apply ba_ext
  rw [ba_app, baL_list, baL_list, kk_succ]
/-- The four texts. -/
def kT (r n : Nat) : List UInt8 := if r = 1 then 63 :: kk n else if r = 2 then 63 :: 42 :: (kk n ++ [42]) else if r = 3 then 34 :: (kk n ++ [34]) else kk n
def kMost (r : Nat) : Nat := if r = 3 then 1000 else 40
def kKind (r : Nat) : Int := if r = 1 then 6 else if r = 2 then 7 else if r = 3 then 3 else 2
theorem kT_ok (r n : Nat) (hr : r < 4) (h1 : 1 ≤ n) (h2 : n ≤ kMost r) : scanS (kT r n) 0 0 [] = ⟨[⟨kKind r, 0, 0, kk n⟩], 0, 0⟩ := by
  have key : ∀ k : Int, WfT k 0 (kk n) → kT r n = tokL k 0 (kk n) → kKind r = k → scanS (kT r n) 0 0 [] = ⟨[⟨kKind r, 0, 0, kk n⟩], 0, 0⟩ := by
    intro k hw e ek
    have h := S_text k 0 (kk n) [] 0 [] hw gap_nil
    rw [List.append_nil] at h
    rw [e, h, ek]; rfl
  match r, hr with
  | 0, _ => exact key 2 (.inr (.inl ⟨rfl, rfl, by rw [kk_len]; exact h1, by rw [kk_len]; exact h2, kk_all signB (by decide) n, kk_shape n h1⟩)) rfl rfl
  | 1, _ => exact key 6 (.inr (.inr (.inr (.inr ⟨.inl rfl, rfl, kk_good n h1 h2⟩)))) (tokL_var 0 _).symm rfl
  | 2, _ => exact key 7 (.inr (.inr (.inr (.inr ⟨.inr rfl, rfl, kk_good n h1 h2⟩)))) (tokL_glob 0 _).symm rfl
  | 3, _ => exact key 3 (.inr (.inr (.inl ⟨rfl, rfl, by rw [kk_len]; exact h2⟩))) (by rw [tokL_str, kk_esc]; rfl) rfl
theorem kT_no (r n : Nat) (hr : r < 4) (h2 : kMost r < n) : scanS (kT r n) 0 0 [] = ⟨[], 0, 4⟩ := by
  have key : ∀ (c : UInt8) (t : List UInt8), kT r n = c :: t → blankB c = false → c.toNat ≠ 59 → (oneL (c :: t)).e = 4 → scanS (kT r n) 0 0 [] = ⟨[], 0, 4⟩ := by
    intro c t e hb hl he
    rw [e, S_bad c t 0 [] hb hl (by rw [he]; decide), he]
  have hz : ∀ rest, (∀ c t, rest = c :: t → partB c = false) → nameE (kk n ++ rest) = 4 ∨ n ≤ 40 := by
    intro rest hrest
    by_cases h : n ≤ 40
    · exact .inr h
    · refine .inl ?_
      unfold nameE
      rw [if_pos]
      show 40 < runN partB (kk n ++ rest)
      rw [run_app partB (kk n) rest (kk_all partB (by decide) n) hrest, kk_len]; omega
  match r, hr with
  | 0, _ =>
    have h2' : 40 < n := h2
    obtain ⟨m, rfl⟩ : ∃ m, n = m + 1 := ⟨n - 1, by omega⟩
    refine key 107 (kk m) rfl (by decide) (by decide) ?_
    have h := word_text (kk (m + 1)) [] (by rw [kk_cons]; simp) (kk_all signB (by decide) _) gap_nil
    rw [List.append_nil] at h
    show (oneL (kk (m + 1))).e = 4
    rw [h]
    unfold wordOf
    have hp : parE (kk (m + 1)) = 2 := by unfold parE; rw [if_neg (by rw [kk_shape _ (by omega)]; decide)]
    rw [hp, if_neg (by decide), if_neg (by decide), kk_len, if_pos h2']; rfl
  | 1, _ =>
    have h2' : 40 < n := h2
    refine key 63 (kk n) rfl (by decide) (by decide) ?_
    have h := (hz [] (fun c t e => absurd e (by simp))).resolve_right (by omega)
    rw [List.append_nil] at h
    rw [one_var _ _ (by decide)]
    obtain ⟨m, rfl⟩ : ∃ m, n = m + 1 := ⟨n - 1, by omega⟩
    unfold varR
    rw [if_neg (show ¬ starL (kk (m + 1)) = true by intro e; exact absurd (show false = true from e) (by decide))]
    unfold plainR
    rw [h, if_neg (by decide)]; rfl
  | 2, _ =>
    have h2' : 40 < n := h2
    refine key 63 (42 :: (kk n ++ [42])) rfl (by decide) (by decide) ?_
    have h := (hz [42] (fun c t e => by injection e with e1 _; rw [← e1]; decide)).resolve_right (by omega)
    rw [one_var _ _ (by decide)]
    unfold varR
    rw [if_pos (by rfl)]
    show (globR (kk n ++ [42])).e = 4
    unfold globR
    rw [h, if_neg (by decide)]; rfl
  | 3, _ =>
    have h2' : 1000 < n := h2
    refine key 34 (kk n ++ [34]) rfl (by decide) (by decide) ?_
    rw [one_str _ _ (by decide)]
    have h := str_text (kk n) [] [] 1
    rw [kk_esc, List.nil_append] at h
    rw [h]
    unfold endR
    rw [kk_len, if_pos h2']; rfl
theorem kT_len (r n : Nat) : (kT r n).length ≤ n + 3 := by
  unfold kT
  split
  · simp [kk_len]
  · split
    · simp [kk_len]
    · split
      · simp [kk_len]
      · rw [kk_len]; omega
end Go.Proofs.YtlnkeebfaninfaaGreatDoor
