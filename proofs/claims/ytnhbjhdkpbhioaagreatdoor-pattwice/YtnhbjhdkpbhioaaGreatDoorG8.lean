/- Contracts of package lex's Text and of the reference's: tokens of the kinds that there are. -/
import Derived.Lib.ConvBytes
import Derived.Lib.SmallJoins
import Derived.Laws.AppendOwn
import Derived.Test.YtnhbjhdkpbhioaaGreatDoorG3
import Derived.Test.YtnhbjhdkpbhioaaGreatDoorG5
import Derived.Test.YtnhbjhdkpbhioaaGreatDoorG2
import Derived.Test.YtnhbjhdkpbhioaaGreatDoorG6
namespace Go.Proofs.YtnhbjhdkpbhioaaGreatDoor
open Go.RowKit

/-- A token's text. -/
def tokS (k i : Int) (s : ByteArray) : ByteArray :=
  if k = 4 then ⟨#[40]⟩ else if k = 5 then ⟨#[41]⟩ else if k = 6 then ⟨#[63]⟩ ++ s else if k = 7 then ⟨#[63, 42]⟩ ++ s ++ ⟨#[42]⟩ else if k = 8 then ⟨#[126]⟩ else rtextS k i s
def isKind (k : Int) : Prop := k = 1 ∨ k = 2 ∨ k = 3 ∨ k = 4 ∨ k = 5 ∨ k = 6 ∨ k = 7 ∨ k = 8
theorem tokS_val {k : Int} (i : Int) (s : ByteArray) (h : k = 1 ∨ k = 2 ∨ k = 3) : tokS k i s = textS k i s := by
  rw [text_right h]
  unfold tokS
  rw [if_neg (by omega), if_neg (by omega), if_neg (by omega), if_neg (by omega), if_neg (by omega)]

set_option maxHeartbeats 2000000 in
set_option maxRecDepth 4000 in
theorem lex_text (k a i : Int) (s : ByteArray) (w : World) (hk : isKind k) (hs : s.size ≤ 10000) (hi : inB i = true) (ht : TabW w) :
    Calls Tryz.prog 131 #[.agg #[.int .i64 (k), .int .i64 (a), .int .i64 (i), .string (s)]] w fun e w' => e = .returned (.string (tokS k i s)) ∧ Below w.heap.size w w' := by
  have hval : (k = 1 ∨ k = 2 ∨ k = 3) → Calls Tryz.prog 131 #[.agg #[.int .i64 (k), .int .i64 (a), .int .i64 (i), .string (s)]] w fun e w' => e = .returned (.string (tokS k i s)) ∧ Below w.heap.size w w' := by
    intro h
    obtain ⟨X, HX⟩ : ∃ X, Hid (tokS k i s = X) := ⟨_, rfl⟩
    have HT : Hid (∀ w' : World, Below w.heap.size w w' → Calls Tryz.prog 149 #[.agg #[.int .i64 (k), .int .i64 (i), .string (s)]] w' fun e w2 => e = .returned (.string X) ∧ Below w'.heap.size w' w2) := by
      intro w' hb
      rw [← HX.out, tokS_val i s h]
      exact text_val k i s w' (by omega) hi (tab_next ht hb)
    rw [HX.out]
    have d4 : (k == 4) = false := by simp; omega
    have d5 : (k == 5) = false := by simp; omega
    have d6 : (k == 6) = false := by simp; omega
    have d7 : (k == 7) = false := by simp; omega
    have d8 : (k == 8) = false := by simp; omega
    clear h hk ht
    go_enter Tryz.func131, Tryz.ntmps131
    go_wp2_with fail
    refine (HT.out _ (alloc_below _ _)).mono ?_
    rintro e w1 ⟨rfl, hb1⟩
    have HB : Hid (Below w.heap.size w w1) := next_trans (alloc_below _ _) hb1
    clear hb1
    go_wp2
    go_ret
    exact ⟨rfl, HB.out⟩
  rcases hk with h | h | h | h | h | h | h | h
  · exact hval (.inl h)
  · exact hval (.inr (.inl h))
  · exact hval (.inr (.inr h))
  · subst h
    go_enter Tryz.func131, Tryz.ntmps131
    go_wp2
    go_ret
    exact ⟨rfl, alloc_below _ _⟩
  · subst h
    go_enter Tryz.func131, Tryz.ntmps131
    go_wp2
    go_ret
    exact ⟨rfl, alloc_below _ _⟩
  · subst h
    go_enter Tryz.func131, Tryz.ntmps131
    go_wp2
    go_ret
    exact ⟨rfl, alloc_below _ _⟩
  · subst h
    go_enter Tryz.func131, Tryz.ntmps131
    go_wp2
    go_ret
    exact ⟨rfl, alloc_below _ _⟩
  · subst h
    go_enter Tryz.func131, Tryz.ntmps131
    go_wp2
    go_ret
    exact ⟨rfl, alloc_below _ _⟩

end Go.Proofs.YtnhbjhdkpbhioaaGreatDoor
/- Tokens' texts are read as those tokens again; blanks and comments are left out. -/
namespace Go.Proofs.YtnhbjhdkpbhioaaGreatDoor
open Go.RowKit

def tokL (k i : Int) (s : List UInt8) : List UInt8 := (tokS k i (baL s)).data.toList
theorem tokL_int (i : Int) (s : List UInt8) : tokL 1 i s = Lib.itoa i := rfl
theorem tokL_sym (i : Int) (s : List UInt8) : tokL 2 i s = s := rfl
theorem tokL_str (i : Int) (s : List UInt8) : tokL 3 i s = 34 :: (escL s ++ [34]) := rfl
theorem tokL_var (i : Int) (s : List UInt8) : tokL 6 i s = 63 :: s := by
  show (⟨#[63]⟩ ++ baL s : ByteArray).data.toList = _
  rw [ba_app]; rfl
theorem tokL_glob (i : Int) (s : List UInt8) : tokL 7 i s = 63 :: 42 :: (s ++ [42]) := by
  show (⟨#[63, 42]⟩ ++ baL s ++ ⟨#[42]⟩ : ByteArray).data.toList = _
  rw [ba_app, ba_app]; rfl
/-- What may stand behind a token: nothing, or a byte that is of no word and no name. -/
def Gap (r : List UInt8) : Prop := ∀ c t, r = c :: t → signB c = false ∧ partB c = false
theorem gap_nil : Gap [] := fun c t h => absurd h (by simp)
theorem blank_no {c : UInt8} (h : blankB c = true) : signB c = false ∧ partB c = false := by
  unfold blankB at h
  rw [decide_eq_true_eq] at h
  refine ⟨?_, ?_⟩
  · unfold signB; rw [decide_eq_false_iff_not]; omega
  · unfold partB partI ltrI othI
    rw [Bool.or_eq_false_iff, decide_eq_false_iff_not, decide_eq_false_iff_not]; omega
theorem gap_cons {c : UInt8} (t : List UInt8) (h : blankB c = true) : Gap (c :: t) := fun d u e => by
  injection e with e1 _; rw [← e1]; exact blank_no h
theorem gap_close (t : List UInt8) : Gap (41 :: t) := fun d u e => by
  injection e with e1 _; rw [← e1]; exact ⟨by decide, by decide⟩
theorem gap_sign {r : List UInt8} (h : Gap r) : ∀ c t, r = c :: t → signB c = false := fun c t e => (h c t e).1
theorem gap_part {r : List UInt8} (h : Gap r) : ∀ c t, r = c :: t → partB c = false := fun c t e => (h c t e).2
theorem sign_is {c : UInt8} (h : signB c = true) : blankB c = false ∧ c.toNat ≠ 59 ∧ ¬ (c.toNat = 40 ∨ c.toNat = 41 ∨ c.toNat = 126 ∨ c.toNat = 34 ∨ c.toNat = 63) := by
  unfold signB at h
  rw [decide_eq_true_eq] at h
  refine ⟨?_, by omega, by omega⟩
  unfold blankB; rw [decide_eq_false_iff_not]; omega
theorem str_text : ∀ (s rest acc : List UInt8) (n : Nat), strA (escL s ++ 34 :: rest) acc n = endR (acc ++ s) (n + (escL s).length)
  | [], rest, acc, n => by
    show strA (34 :: rest) acc n = _
    rw [strA_end _ _ _ _ (by decide), List.append_nil]; rfl
  | c :: s, rest, acc, n => by
    rw [escL_cons]
    by_cases h : markB c = true
    · rw [if_pos h]
      show strA (92 :: c :: (escL s ++ 34 :: rest)) acc n = _
      rw [strA_esc _ _ _ _ _ (by decide), str_text s rest (acc ++ [c]) (n + 2)]
      congr 1
      · simp
      · simp only [List.length_append, List.length_cons, List.length_nil]; omega
    · rw [if_neg h]
      have h2 : ¬ (c.toNat = 34 ∨ c.toNat = 92) := by
        intro e; exact h (by unfold markB; exact decide_eq_true e)
      show strA (c :: (escL s ++ 34 :: rest)) acc n = _
      rw [strA_one _ _ _ _ (by omega) (by omega), str_text s rest (acc ++ [c]) (n + 1)]
      congr 1
      · simp
      · simp only [List.length_append, List.length_cons, List.length_nil]; omega
theorem word_text (w rest : List UInt8) (hw : w ≠ []) (ha : w.all signB = true) (hg : Gap rest) : oneL (w ++ rest) = wordOf w w.length := by
  cases w with
  | nil => exact absurd rfl hw
  | cons c t =>
    have hc : signB c = true := by rw [List.all_cons, Bool.and_eq_true] at ha; exact ha.1
    rw [List.cons_append, one_word c _ (sign_is hc).2.2]
    have hr : runN signB (c :: (t ++ rest)) = (c :: t).length := run_app signB (c :: t) rest ha (gap_sign hg)
    unfold wordR
    rw [hr, if_neg (by simp)]
    congr 1
    rw [← List.cons_append]
    simp
theorem itoa_sign (n : Int) : (Lib.itoa n).all signB = true ∧ Lib.itoa n ≠ [] := by
  have hd : ∀ u : Nat, (Lib.decDigits u).all signB = true := by
    intro u
    have h := digits_all u
    unfold allD at h
    rw [List.all_eq_true] at h ⊢
    intro c hc
    have := digB_bd (h c hc)
    unfold signB; rw [decide_eq_true_eq]; omega
  unfold Lib.itoa
  split
  · refine ⟨?_, by simp⟩
    rw [List.all_cons, hd]; rfl
  · refine ⟨hd _, ?_⟩
    obtain ⟨c, r, h, _⟩ := digits_pos n.toNat
    rw [h]; simp
theorem good_parts {s : List UInt8} (h : goodL s = true) : s.all partB = true ∧ ∃ c t, s = c :: t ∧ c.toNat ≠ 42 := by
  unfold goodL at h
  rw [Bool.and_eq_true] at h
  cases s with
  | nil => exact absurd h.1 (by decide)
  | cons c t =>
    have h2 : (letB c && t.all partB) = true := h.2
    rw [Bool.and_eq_true] at h2
    refine ⟨by rw [List.all_cons, partB_of_let h2.1, h2.2]; rfl, c, t, rfl, ?_⟩
    intro e
    have := h2.1
    unfold letB ltrI at this
    rw [decide_eq_true_eq] at this
    omega
theorem name_text (s rest : List UInt8) (h : goodL s = true) (hr : ∀ c t, rest = c :: t → partB c = false) : nameZ (s ++ rest) = s.length ∧ nameE (s ++ rest) = 0 ∧ (s ++ rest).take (nameZ (s ++ rest)) = s ∧ (s ++ rest).drop (nameZ (s ++ rest)) = rest := by
  have hz : nameZ (s ++ rest) = s.length := run_app partB s rest (good_parts h).1 hr
  have ht : (s ++ rest).take (nameZ (s ++ rest)) = s := by rw [hz]; simp
  refine ⟨hz, ?_, ht, by rw [hz]; simp⟩
  unfold nameE
  rw [ht, h, hz, if_neg (by have := good_len h; omega), if_pos rfl]
/-- A token's text, with a gap behind it, is read as that token. -/
theorem tok_back (k i : Int) (s rest : List UInt8) (hw : WfT k i s) (hg : Gap rest) : (∃ c t, tokL k i s = c :: t ∧ blankB c = false ∧ c.toNat ≠ 59) ∧ oneL (tokL k i s ++ rest) = okR k i s (tokL k i s).length := by
  rcases hw with ⟨rfl, hi, rfl⟩ | ⟨rfl, rfl, h1, h2, h3, h4⟩ | ⟨rfl, rfl, h1⟩ | ⟨hk, rfl, rfl⟩ | ⟨hk, rfl, hs⟩
  · obtain ⟨ha, hn⟩ := itoa_sign i
    obtain ⟨p1, p2⟩ := par_itoa i hi
    rw [tokL_int]
    refine ⟨?_, ?_⟩
    · cases e : Lib.itoa i with
      | nil => exact absurd e hn
      | cons c t =>
        rw [e, List.all_cons, Bool.and_eq_true] at ha
        exact ⟨c, t, rfl, (sign_is ha.1).1, (sign_is ha.1).2.1⟩
    · rw [word_text _ _ hn ha hg]
      unfold wordOf
      rw [p2, if_pos rfl, p1]
  · rw [tokL_sym]
    refine ⟨?_, ?_⟩
    · cases s with
      | nil => simp at h1
      | cons c t =>
        rw [List.all_cons, Bool.and_eq_true] at h3
        exact ⟨c, t, rfl, (sign_is h3.1).1, (sign_is h3.1).2.1⟩
    · rw [word_text _ _ (by intro e; rw [e] at h1; simp at h1) h3 hg]
      unfold wordOf
      have hp : parE s = 2 := by unfold parE; rw [if_neg (by rw [h4]; decide)]
      rw [hp, if_neg (by decide), if_neg (by decide), if_neg (by omega)]
  · rw [tokL_str]
    refine ⟨⟨_, _, rfl, by decide, by decide⟩, ?_⟩
    rw [List.cons_append, one_str _ _ (by decide), List.append_assoc]
    show strA (escL s ++ 34 :: rest) [] 1 = _
    rw [str_text, List.nil_append]
    unfold endR
    rw [if_neg (by omega)]
    congr 1
    simp only [List.length_cons, List.length_append, List.length_nil]; omega
  · rcases hk with rfl | rfl | rfl
    · exact ⟨⟨40, [], rfl, by decide, by decide⟩, rfl⟩
    · exact ⟨⟨41, [], rfl, by decide, by decide⟩, rfl⟩
    · exact ⟨⟨126, [], rfl, by decide, by decide⟩, rfl⟩
  · rcases hk with rfl | rfl
    · rw [tokL_var]
      refine ⟨⟨_, _, rfl, by decide, by decide⟩, ?_⟩
      obtain ⟨n1, n2, n3, _⟩ := name_text s rest hs (gap_part hg)
      obtain ⟨_, c, t, e, hc⟩ := good_parts hs
      rw [List.cons_append, one_var _ _ (by decide)]
      unfold varR
      have hst : starL (s ++ rest) = false := by
        rw [e]; show decide (c.toNat = 42) = false; simpa using hc
      rw [hst, if_neg (by decide)]
      unfold plainR
      rw [n2, if_pos rfl, n3, n1]
      congr 1
      simp only [List.length_cons]; omega
    · rw [tokL_glob]
      refine ⟨⟨_, _, rfl, by decide, by decide⟩, ?_⟩
      obtain ⟨n1, n2, n3, n4⟩ := name_text s (42 :: rest) hs (fun c t e => by injection e with e1 _; rw [← e1]; decide)
      rw [List.cons_append, List.cons_append, one_var _ _ (by decide), List.append_assoc]
      show varR (42 :: (s ++ 42 :: rest)) = _
      unfold varR
      rw [if_pos (by rfl)]
      show globR (s ++ 42 :: rest) = _
      unfold globR
      rw [n2, if_pos rfl, n4, n3, n1, if_pos (by rfl)]
      congr 1
      simp only [List.length_cons, List.length_append, List.length_nil]; omega
theorem S_text (k i : Int) (s rest : List UInt8) (a : Nat) (acc : List Tk) (hw : WfT k i s) (hg : Gap rest) :
    scanS (tokL k i s ++ rest) 0 a acc = scanS rest 0 (a + (tokL k i s).length) (acc ++ [⟨k, a, i, s⟩]) := by
  obtain ⟨⟨c, t, e, h1, h2⟩, h3⟩ := tok_back k i s rest hw hg
  have h4 := S_tok c (t ++ rest) a acc (okR k i s (tokL k i s).length) h1 h2 (by rw [← h3, e]; rfl) rfl
  rw [e, List.cons_append, h4]
  have h5 : (c :: (t ++ rest)).drop (okR k i s (tokL k i s).length).z = rest := by
    show (c :: (t ++ rest)).drop (tokL k i s).length = rest
    rw [e, ← List.cons_append]; simp
  rw [h5, ← e]
  rfl

/-- A text that is left out. -/
def SepL (b : List UInt8) : Prop := ∀ rest a acc, scanS (b ++ rest) 0 a acc = scanS rest 0 (a + b.length) acc
theorem sep_nil : SepL [] := fun _ _ _ => rfl
theorem sep_cons {c : UInt8} {r : List UInt8} (h : blankB c = true) (hr : SepL r) : SepL (c :: r) := fun rest a acc => by
  rw [List.cons_append, S_blank _ _ _ _ h, hr, List.length_cons, show a + 1 + r.length = a + (r.length + 1) by omega]
theorem sep_line {r : List UInt8} (h : r.all lineB = true) : SepL (59 :: (r ++ [10])) := fun rest a acc => by
  have hr : runN lineB (59 :: (r ++ 10 :: rest)) = (59 :: r).length := run_app lineB (59 :: r) (10 :: rest) (by rw [List.all_cons, h]; rfl) (fun c t e => by injection e with e1 _; rw [← e1]; rfl)
  rw [List.cons_append, List.append_assoc]
  show scanS (59 :: (r ++ 10 :: rest)) 0 a acc = _
  rw [S_line 59 _ a acc (by decide), hr]
  have h5 : (59 :: (r ++ 10 :: rest)).drop (59 :: r).length = 10 :: rest := by rw [← List.cons_append]; simp
  rw [h5, S_blank _ _ _ _ (by decide)]
  congr 1
  simp only [List.length_cons, List.length_append, List.length_nil]; omega
theorem sep_app {x y : List UInt8} (hx : SepL x) (hy : SepL y) : SepL (x ++ y) := fun rest a acc => by
  rw [List.append_assoc, hx, hy, List.length_append, Nat.add_assoc]
theorem line_end {r : List UInt8} (h : r.all lineB = true) (a : Nat) (acc : List Tk) : scanS (59 :: r) 0 a acc = ⟨acc, 0, 0⟩ := by
  have hr : runN lineB (59 :: r) = (59 :: r).length := run_end lineB (59 :: r) (by rw [List.all_cons, h]; rfl)
  rw [S_line 59 _ a acc (by decide), hr, List.drop_length]; rfl
end Go.Proofs.YtnhbjhdkpbhioaaGreatDoor
/- The contract of the law's known: tokens of a form. -/
namespace Go.Proofs.YtnhbjhdkpbhioaaGreatDoor
open Go.RowKit

/-- The two texts. -/
def knA : List UInt8 := [40, 97, 32, 63, 120, 32, 63, 42, 103, 42, 32, 126, 53, 32, 34, 115, 34, 41, 32, 59, 32, 99]
def knB : List UInt8 := [97, 32, 63]
def knL : List Tk := [⟨4, 0, 0, []⟩, ⟨2, 1, 0, [97]⟩, ⟨6, 3, 0, [120]⟩, ⟨7, 6, 0, [103]⟩, ⟨8, 11, 0, []⟩, ⟨1, 12, 5, []⟩, ⟨3, 14, 0, [115]⟩, ⟨5, 17, 0, []⟩]
theorem scan_knA : scanQ knA 0 [] = ⟨knL, 0, 0⟩ := by rfl
theorem scan_knB : scanQ knB 0 [] = ⟨[], 2, 2⟩ := by rfl
theorem Bs_mark (w : World) (l : List UInt8) (C : Array Value) (T : Nat) (fr : Nat × Nat) (hC : C.toList = l.map fun c => .int .u8 (c.toNat : Int)) : Bs (w.alloc (.cells C T fr)) w.heap.size 0 l := fun i hi => by
  rw [Nat.zero_add, Go.Joins.cell_alloc_mark_at _ _ _ _ _ _ rfl, ← Array.getElem?_toList, hC, List.getElem?_map, List.getElem?_eq_getElem hi]; rfl
/-- errors.As turns no block that was there but its target's. -/
theorem as_cell (e : Addr) (t p : Addr) (w : World) (hp : p.block < w.heap.size) (hne : p.block ≠ t.block) : (asW e t w).cell? p = w.cell? p := by
  unfold asW
  rw [World.cell?_of_block (w := w)]
  rw [Below.heap_setCell _ _ _ _ hne, Below.heap_alloc _ _ _ (by simp; omega), Below.heap_alloc _ _ _ (by simp; omega), Below.heap_alloc _ _ _ (by simp; omega), Below.heap_alloc _ _ _ hp]
theorem as_below (B : Nat) (e t : Addr) (w : World) (hB : B ≤ w.heap.size) (ht : B ≤ t.block) : Below B w (asW e t w) := by
  unfold asW
  refine Below.setCell ?_ ht _
  exact ((((Below.refl _ _).alloc hB _).alloc (by simp; omega) _).alloc (by simp; omega) _).alloc (by simp; omega) _
theorem as_self (e t : Addr) (old : Value) (w : World) (ht : w.cell? t = some old) : (asW e t w).cell? t = some (.pointer (some e)) := by
  unfold asW
  have h : ((((w.alloc (.cells #[.pointer (some t)] 135)).alloc (.cells #[.pointer (some ⟨5, 135, none⟩), .pointer (some ⟨w.heap.size, 0, none⟩), .int .u64 150] 198)).alloc (.cells #[.pointer (some ⟨5, 135, none⟩), .pointer (some ⟨w.heap.size, 0, none⟩), .int .u64 150] 198)).alloc (.cells #[.pointer (some e)] 133)).cell? t = some old := alloc_cell (alloc_cell (alloc_cell (alloc_cell ht)))
  exact World.cell?_setCell_same _ _ _ h
theorem FaultAt.cells {w : World} {B : Nat} {a e : Int} (h : FaultAt w B a e) : w.cell? ⟨B, 0, none⟩ = some (.string ⟨#[99, 104, 97, 114]⟩) ∧ w.cell? ⟨B, 1, none⟩ = some (.int .i64 a) ∧ w.cell? ⟨B, 2, none⟩ = some (.iface 118 (.int .i64 e)) := by
  unfold FaultAt at h
  unfold World.cell?
  rw [h]; exact ⟨rfl, rfl, rfl⟩
/-- What the program's own memory is to hold, for the walks. -/
structure Lib4 (w : World) : Prop where
  tab : TabW w
  max : MaxW w
  err : ErrW w
theorem Lib4.next {w w' : World} (h : Lib4 w) (hb : Below w.heap.size w w') : Lib4 w' := ⟨tab_next h.tab hb, h.max.next hb, keep_cell hb h.err⟩
theorem own_at {w : World} {B T : Nat} {v : Value} {L : List Tk} (h : w.ownsRow B T 4 v L.length (toksC L)) (hL : 0 < L.length) : ∃ g cap, v = .slice (some ⟨g, 0, none⟩) L.length cap ∧ B ≤ g ∧ g < w.heap.size ∧ ∀ j v, (toksC L)[j]? = some v → w.cell? ⟨g, j, none⟩ = some v := by
  rcases h.2 with ⟨_, h0⟩ | ⟨g, cap, cur, rfl, hg, hh, _⟩
  · omega
  · have hlt : g < w.heap.size := by
      rcases Nat.lt_or_ge g w.heap.size with h1 | h1
      · exact h1
      · rw [Array.getElem?_eq_none h1] at hh; exact absurd hh (by simp)
    refine ⟨g, cap, rfl, hg, hlt, fun j v hj => ?_⟩
    have hjl : j < (toksC L).length := (List.getElem?_eq_some_iff.1 hj).1
    rw [h.1] at hjl
    rw [h.cellAt j hjl]; exact hj

theorem scan_ok (ao : Option Addr) (n cap : Nat) (l : List UInt8) (L : List Tk) (w : World) (hl : l.length = n) (h : IsB w ao l) (hn : n ≤ 65536) (hc : n ≤ cap) (hm : MaxW w) (hs : scanQ l 0 [] = ⟨L, 0, 0⟩) :
    Calls Tryz.prog 75 #[.slice ao n cap] w fun e w' => (∃ v, e = .returned (.tuple #[v, .nilIface]) ∧ w'.ownsRow w.heap.size 208 4 v L.length (toksC L)) ∧ Below w.heap.size w w' := by
  refine (scan_any ao n cap l w hl h hn hc hm).mono ?_
  rintro e w1 ⟨hb1, hr1⟩
  rw [hs] at hr1
  rcases hr1 with ⟨_, v, rfl, ho1⟩ | ⟨hx, _⟩
  · exact ⟨⟨v, rfl, ho1⟩, hb1⟩
  · exact absurd rfl hx
theorem scan_no (ao : Option Addr) (n cap : Nat) (l : List UInt8) (a : Nat) (f : Int) (w : World) (hl : l.length = n) (h : IsB w ao l) (hn : n ≤ 65536) (hc : n ≤ cap) (hm : MaxW w) (hs : scanQ l 0 [] = ⟨[], a, f⟩) (hf : f ≠ 0) :
    Calls Tryz.prog 75 #[.slice ao n cap] w fun e w' => (∃ B, w.heap.size ≤ B ∧ e = .returned (.tuple #[.slice none 0 0, .iface 133 (.pointer (some ⟨B, 0, none⟩))]) ∧ FaultAt w' B a f) ∧ Below w.heap.size w w' := by
  refine (scan_any ao n cap l w hl h hn hc hm).mono ?_
  rintro e w1 ⟨hb1, hr1⟩
  rw [hs] at hr1
  rcases hr1 with ⟨hx, _⟩ | ⟨_, B, h1, h2, h3⟩
  · exact absurd hx hf
  · exact ⟨⟨B, h1, h2, h3⟩, hb1⟩

end Go.Proofs.YtnhbjhdkpbhioaaGreatDoor
/- Rows of tokens in memory. -/
namespace Go.Proofs.YtnhbjhdkpbhioaaGreatDoor
open Go.RowKit

/-- A row of tokens lies behind an address. -/
def IsToks (w : World) (ao : Option Addr) (L : List Tk) : Prop :=
  ∀ (j : Nat) (t : Tk), L[j]? = some t → ∃ b o, ao = some ⟨b, o, none⟩ ∧ w.cell? ⟨b, o + j * 4, none⟩ = some (.int .i64 t.k) ∧ w.cell? ⟨b, o + j * 4 + 1, none⟩ = some (.int .i64 (t.a : Int)) ∧ w.cell? ⟨b, o + j * 4 + 2, none⟩ = some (.int .i64 t.i) ∧ w.cell? ⟨b, o + j * 4 + 3, none⟩ = some (.string (baL t.s))
theorem IsToks.next {w w' : World} {ao : Option Addr} {L : List Tk} (h : IsToks w ao L) (hb : Below w.heap.size w w') : IsToks w' ao L := by
  intro j v hj
  obtain ⟨b, o, h0, h1, h2, h3, h4⟩ := h j v hj
  exact ⟨b, o, h0, keep_cell hb h1, keep_cell hb h2, keep_cell hb h3, keep_cell hb h4⟩
theorem toks_at : ∀ (L : List Tk) (j q : Nat) (t : Tk), L[j]? = some t → q < 4 → (toksC L)[j * 4 + q]? = (tkC t)[q]?
  | [], j, q, t, h, _ => by simp at h
  | x :: r, 0, q, t, h, hq => by
    simp at h
    subst h
    have hl : (tkC x).length = 4 := rfl
    rw [Nat.zero_mul, Nat.zero_add]
    unfold toksC
    rw [List.flatMap_cons, List.getElem?_append_left (by omega)]
  | x :: r, j + 1, q, t, h, hq => by
    rw [List.getElem?_cons_succ] at h
    have hl : (tkC x).length = 4 := rfl
    unfold toksC
    rw [List.flatMap_cons, List.getElem?_append_right (by omega), hl, show (j + 1) * 4 + q - 4 = j * 4 + q by omega]
    exact toks_at r j q t h hq
theorem own_toks {w : World} {B T : Nat} {v : Value} {L : List Tk} (h : w.ownsRow B T 4 v L.length (toksC L)) : ∃ ao cap, v = .slice ao L.length cap ∧ IsToks w ao L := by
  rcases h.2 with ⟨rfl, h0⟩ | ⟨g, cap, cur, rfl, _, _, _⟩
  · refine ⟨none, 0, by rw [h0], ?_⟩
    have e : L = [] := List.eq_nil_of_length_eq_zero h0
    subst e
    intro j t hj; simp at hj
  · refine ⟨_, cap, rfl, fun j t hj => ⟨g, 0, rfl, ?_⟩⟩
    have hjl : j < L.length := (List.getElem?_eq_some_iff.1 hj).1
    have hc : ∀ q, q < 4 → w.cell? ⟨g, j * 4 + q, none⟩ = (tkC t)[q]? := fun q hq => by
      rw [h.cellAt (j * 4 + q) (by omega), toks_at L j q t hj hq]
    rw [Nat.zero_add]
    exact ⟨hc 0 (by omega), hc 1 (by omega), hc 2 (by omega), hc 3 (by omega)⟩
theorem wf_kind {k i : Int} {s : List UInt8} (h : WfT k i s) : isKind k := by
  unfold isKind
  rcases h with ⟨h, _⟩ | ⟨h, _⟩ | ⟨h, _⟩ | ⟨h, _⟩ | ⟨h, _⟩ <;> omega
/-- Scan, its answer by cases. -/
theorem scan_yes (ao : Option Addr) (n cap : Nat) (l : List UInt8) (R : Out) (w : World) (hl : l.length = n) (h : IsB w ao l) (hn : n ≤ 65536) (hc : n ≤ cap) (hm : MaxW w) (hs : scanQ l 0 [] = R) (he : R.e = 0) :
    Calls Tryz.prog 75 #[.slice ao n cap] w fun e w' => (∃ to tc, e = .returned (.tuple #[.slice to R.l.length tc, .nilIface]) ∧ IsToks w' to R.l) ∧ Below w.heap.size w w' := by
  refine (scan_any ao n cap l w hl h hn hc hm).mono ?_
  rintro e w1 ⟨hb1, hr1⟩
  rw [hs] at hr1
  rcases hr1 with ⟨_, v, rfl, ho1⟩ | ⟨hx, _⟩
  · obtain ⟨to, tc, rfl, ht⟩ := own_toks ho1
    exact ⟨⟨to, tc, rfl, ht⟩, hb1⟩
  · exact absurd he hx
theorem scan_fault (ao : Option Addr) (n cap : Nat) (l : List UInt8) (R : Out) (w : World) (hl : l.length = n) (h : IsB w ao l) (hn : n ≤ 65536) (hc : n ≤ cap) (hm : MaxW w) (hs : scanQ l 0 [] = R) (he : R.e ≠ 0) :
    Calls Tryz.prog 75 #[.slice ao n cap] w fun e w' => (∃ B, e = .returned (.tuple #[.slice none 0 0, .iface 133 (.pointer (some ⟨B, 0, none⟩))]) ∧ FaultAt w' B R.a R.e) ∧ Below w.heap.size w w' := by
  refine (scan_any ao n cap l w hl h hn hc hm).mono ?_
  rintro e w1 ⟨hb1, hr1⟩
  rw [hs] at hr1
  rcases hr1 with ⟨hx, _⟩ | ⟨_, B, h1, h2, h3⟩
  · exact absurd hx he
  · exact ⟨⟨B, h2, h3⟩, hb1⟩
theorem fault_lt {w : World} {B : Nat} {a e : Int} (h : FaultAt w B a e) : B < w.heap.size := by
  rcases Nat.lt_or_ge B w.heap.size with h1 | h1
  · exact h1
  · unfold FaultAt at h; rw [Array.getElem?_eq_none h1] at h; exact absurd h (by simp)
end Go.Proofs.YtnhbjhdkpbhioaaGreatDoor
/- Scan of a string's bytes. -/
namespace Go.Proofs.YtnhbjhdkpbhioaaGreatDoor
open Go.RowKit

theorem conv_str (X : ByteArray) (w : World) : (convert 9 22 (.string X)).run Tryz.prog w = .ok (.slice (some ⟨w.heap.size, 0, none⟩) X.size (grownCap w X.size 0 5)) (Lib.bytesWorld w 5 X) :=
  Lib.run_convert_string_bytes w 9 22 5 X Tryz.underlying9 Tryz.underlying22 Tryz.underlying5
theorem conv_bel (X : ByteArray) (w : World) : Below w.heap.size w (Lib.bytesWorld w 5 X) := Go.Joins.below_bytesWorld _ w _ X (Nat.le_refl _)
theorem conv_is (T : List UInt8) (w : World) : Bs (Lib.bytesWorld w 5 (baL T)) w.heap.size 0 T := fun i hi => by
  rw [Nat.zero_add, Lib.bytesWorld_cell w 5 (baL T) i hi]
  have : (baL T).data.toList.getD i 0 = T[i] := by
    rw [baL_list, List.getD_eq_getElem?_getD, List.getElem?_eq_getElem hi]; rfl
  rw [this]
theorem scan_conv (X : ByteArray) (T : List UInt8) (L : List Tk) (w : World) (N : Nat) (hN : X.size = N) (hX : X = baL T) (hn : T.length ≤ 65536) (hm : MaxW w) (hs : scanS T 0 0 [] = ⟨L, 0, 0⟩) :
    Calls Tryz.prog 75 #[.slice (some ⟨w.heap.size, 0, none⟩) N (grownCap w N 0 5)] (Lib.bytesWorld w 5 X) fun e w' => (∃ to tc, e = .returned (.tuple #[.slice to L.length tc, .nilIface]) ∧ IsToks w' to L) ∧ Below w.heap.size w w' := by
  subst hN
  subst hX
  refine (scan_yes (some ⟨w.heap.size, 0, none⟩) (baL T).size _ T ⟨L, 0, 0⟩ _ rfl (conv_is T w).isB hn (grownCap_ge _ _ _ _) (hm.next (conv_bel _ _)) hs rfl).mono ?_
  rintro e w1 ⟨h1, hb⟩
  exact ⟨h1, next_trans (conv_bel _ _) hb⟩
theorem scan_conv_no (X : ByteArray) (T : List UInt8) (a : Nat) (f : Int) (w : World) (N : Nat) (hN : X.size = N) (hX : X = baL T) (hn : T.length ≤ 65536) (hm : MaxW w) (hs : scanS T 0 0 [] = ⟨[], a, f⟩) (hf : f ≠ 0) :
    Calls Tryz.prog 75 #[.slice (some ⟨w.heap.size, 0, none⟩) N (grownCap w N 0 5)] (Lib.bytesWorld w 5 X) fun e w' => (∃ B, e = .returned (.tuple #[.slice none 0 0, .iface 133 (.pointer (some ⟨B, 0, none⟩))])) ∧ Below w.heap.size w w' := by
  subst hN
  subst hX
  refine (scan_fault (some ⟨w.heap.size, 0, none⟩) (baL T).size _ T ⟨[], a, f⟩ _ rfl (conv_is T w).isB hn (grownCap_ge _ _ _ _) (hm.next (conv_bel _ _)) hs hf).mono ?_
  rintro e w1 ⟨⟨B, h1, _⟩, hb⟩
  exact ⟨⟨B, h1⟩, next_trans (conv_bel _ _) hb⟩
end Go.Proofs.YtnhbjhdkpbhioaaGreatDoor
/- Rows of tokens, written with blanks between, are read as those tokens again. -/
namespace Go.Proofs.YtnhbjhdkpbhioaaGreatDoor
open Go.RowKit

def sumS : List Tk → Nat
  | [] => 0
  | t :: r => t.s.length + sumS r
theorem sumS_app : ∀ (x y : List Tk), sumS (x ++ y) = sumS x + sumS y
  | [], y => by simp [sumS]
  | t :: r, y => by
    rw [List.cons_append]
    show t.s.length + sumS (r ++ y) = t.s.length + sumS r + sumS y
    rw [sumS_app r y]; omega
theorem str_sz : ∀ (r acc : List UInt8) (n : Nat), acc.length ≤ n → (strA r acc n).e = 0 → (strA r acc n).s.length ≤ (strA r acc n).z
  | [], acc, n, _, h => by rw [strA_nil] at h; exact absurd h (by decide)
  | c :: r, acc, n, ha, h => by
    by_cases h1 : c.toNat = 34
    · rw [strA_end _ _ _ _ h1] at h ⊢
      unfold endR at h ⊢
      split at h
      · exact absurd h (by decide)
      · rename_i h3
        rw [if_neg h3]
        show acc.length ≤ n + 1; omega
    · by_cases h2 : c.toNat = 92
      · cases r with
        | nil => rw [strA_esc0 _ _ _ h2] at h; exact absurd h (by decide)
        | cons d t =>
          rw [strA_esc _ _ _ _ _ h2] at h ⊢
          exact str_sz t _ _ (by rw [List.length_append, List.length_singleton]; omega) h
      · rw [strA_one _ _ _ _ h1 h2] at h ⊢
        exact str_sz r _ _ (by rw [List.length_append, List.length_singleton]; omega) h
theorem one_sz (r : List UInt8) (h : (oneL r).e = 0) : (oneL r).s.length ≤ (oneL r).z := by
  cases r with
  | nil => exact absurd h (by decide)
  | cons c t =>
    rw [oneL_cons] at h ⊢
    by_cases c1 : c.toNat = 40
    · rw [if_pos c1]; exact Nat.zero_le _
    rw [if_neg c1] at h ⊢
    by_cases c2 : c.toNat = 41
    · rw [if_pos c2]; exact Nat.zero_le _
    rw [if_neg c2] at h ⊢
    by_cases c3 : c.toNat = 126
    · rw [if_pos c3]; exact Nat.zero_le _
    rw [if_neg c3] at h ⊢
    by_cases c4 : c.toNat = 34
    · rw [if_pos c4] at h ⊢; exact str_sz _ _ _ (Nat.zero_le _) h
    rw [if_neg c4] at h ⊢
    by_cases c5 : c.toNat = 63
    · rw [if_pos c5] at h ⊢
      unfold varR at h ⊢
      split at h
      · rename_i hs
        rw [if_pos hs]
        unfold globR at h ⊢
        split at h
        · rename_i hn
          rw [if_pos hn]
          split at h
          · rename_i hq
            rw [if_pos hq]
            show ((t.drop 1).take (nameZ (t.drop 1))).length ≤ 2 + nameZ (t.drop 1) + 1
            rw [List.length_take]; omega
          · exact absurd h (by decide)
        · rename_i hn; exact absurd h hn
      · rename_i hs
        rw [if_neg hs]
        unfold plainR at h ⊢
        split at h
        · rename_i hn
          rw [if_pos hn]
          show (t.take (nameZ t)).length ≤ 1 + nameZ t
          rw [List.length_take]; omega
        · rename_i hn; exact absurd h hn
    · rw [if_neg c5] at h ⊢
      unfold wordR at h ⊢
      split at h
      · exact absurd h (by decide)
      · rename_i hz
        rw [if_neg hz]
        unfold wordOf at h ⊢
        split at h
        · rename_i h1
          rw [if_pos h1]; exact Nat.zero_le _
        · rename_i h1
          rw [if_neg h1]
          split at h
          · exact absurd h (by decide)
          · rename_i h2
            rw [if_neg h2]
            split at h
            · exact absurd h (by decide)
            · rename_i h3
              rw [if_neg h3]
              show ((c :: t).take (runN signB (c :: t))).length ≤ runN signB (c :: t)
              rw [List.length_take]; omega
theorem scan_sum : ∀ (l : List UInt8) (k a : Nat) (acc : List Tk), k ≤ l.length → sumS (scanS l k a acc).l ≤ sumS acc + (l.length - k)
  | [], _, _, acc, _ => by show sumS acc ≤ _; omega
  | c :: r, k + 1, a, acc, h => by
    have := scan_sum r k (a + 1) acc (by simpa using h)
    show sumS (scanS r k (a + 1) acc).l ≤ _
    simp only [List.length_cons]; omega
  | c :: r, 0, a, acc, _ => by
    rw [scanS_0]
    simp only [List.length_cons]
    split
    · have := scan_sum r 0 (a + 1) acc (Nat.zero_le _); omega
    · split
      · have := scan_sum r (runN lineB r) (a + 1) acc (run_le _ _); omega
      · split
        · rename_i he
          have hz := one_z (c :: r) he
          have hs := one_sz (c :: r) he
          simp only [List.length_cons] at hz
          have := scan_sum r ((oneL (c :: r)).z - 1) (a + 1) (acc ++ [⟨(oneL (c :: r)).k, a, (oneL (c :: r)).i, (oneL (c :: r)).s⟩]) (by omega)
          rw [sumS_app] at this
          have e : sumS [(⟨(oneL (c :: r)).k, a, (oneL (c :: r)).i, (oneL (c :: r)).s⟩ : Tk)] = (oneL (c :: r)).s.length := Nat.add_zero _
          rw [e] at this
          omega
        · exact Nat.zero_le _
theorem scanQ_sum (l : List UInt8) : sumS (scanQ l 0 []).l ≤ l.length := by
  have := scan_sum l 0 0 [] (Nat.zero_le _)
  simp [sumS] at this
  exact this

def core (t : Tk) : Int × Int × List UInt8 := (t.k, t.i, t.s)
theorem tokL_len {k i : Int} {s : List UInt8} (h : WfT k i s) : (tokL k i s).length ≤ 2 * s.length + 23 := by
  rcases h with ⟨rfl, hi, rfl⟩ | ⟨rfl, rfl, _⟩ | ⟨rfl, rfl, _⟩ | ⟨hk, rfl, rfl⟩ | ⟨hk, rfl, _⟩
  · rw [tokL_int]; have := itoa_len i hi; omega
  · rw [tokL_sym]; omega
  · rw [tokL_str]; have := (escL_len s).2; simp only [List.length_cons, List.length_append, List.length_nil]; omega
  · rcases hk with rfl | rfl | rfl <;> decide
  · rcases hk with rfl | rfl
    · rw [tokL_var]; simp only [List.length_cons]; omega
    · rw [tokL_glob]; simp only [List.length_cons, List.length_append, List.length_nil]; omega
/-- What was written so far is read as so many of the tokens. -/
def BackTo (L : List Tk) (k : Nat) (T : List UInt8) : Prop := (∃ P : List Tk, P.map core = (L.take k).map core ∧ ∀ rest, scanS (T ++ rest) 0 0 [] = scanS rest 0 T.length P) ∧ T.length ≤ 2 * sumS (L.take k) + 37 * k
theorem back_nil (L : List Tk) : BackTo L 0 [] := ⟨⟨[], rfl, fun _ => rfl⟩, Nat.zero_le _⟩
theorem take_tk {L : List Tk} {k : Nat} {t : Tk} (h : L[k]? = some t) : L.take (k + 1) = L.take k ++ [t] := by
  obtain ⟨hk, rfl⟩ := List.getElem?_eq_some_iff.1 h
  exact List.take_succ_eq_append_getElem hk
theorem back_step {L : List Tk} {k : Nat} {T sep : List UInt8} {t : Tk} (h : BackTo L k T) (ht : L[k]? = some t) (hw : WfT t.k t.i t.s) (hs : SepL sep) (hg : Gap sep) (hne : sep ≠ []) (hl : sep.length ≤ 14) : BackTo L (k + 1) (T ++ (tokL t.k t.i t.s ++ sep)) := by
  obtain ⟨⟨P, hP, hS⟩, hT⟩ := h
  refine ⟨⟨P ++ [⟨t.k, T.length, t.i, t.s⟩], ?_, ?_⟩, ?_⟩
  · rw [take_tk ht, List.map_append, List.map_append, hP]; rfl
  · intro rest
    have hg2 : Gap (sep ++ rest) := by
      cases sep with
      | nil => exact absurd rfl hne
      | cons c r => exact fun d u e => by injection e with e1 _; rw [← e1]; exact hg c r rfl
    rw [List.append_assoc, List.append_assoc, hS, S_text _ _ _ _ _ _ hw hg2, hs]
    congr 1
    rw [List.length_append, List.length_append]; omega
  · have h1 := tokL_len hw
    rw [take_tk ht, sumS_app, List.length_append, List.length_append]
    have e : sumS [t] = t.s.length := Nat.add_zero _
    omega
theorem sumS_take (L : List Tk) (k : Nat) : sumS (L.take k) ≤ sumS L := by
  have h : sumS L = sumS (L.take k) + sumS (L.drop k) := by rw [← sumS_app, List.take_append_drop]
  omega
theorem back_end {L : List Tk} {T : List UInt8} (h : BackTo L L.length T) : ∃ P : List Tk, P.length = L.length ∧ (∀ j : Nat, (P[j]?).map core = (L[j]?).map core) ∧ scanS T 0 0 [] = ⟨P, 0, 0⟩ := by
  obtain ⟨⟨P, hP, hS⟩, _⟩ := h
  rw [List.take_length] at hP
  refine ⟨P, ?_, ?_, ?_⟩
  · have := congrArg List.length hP
    simpa using this
  · intro j
    rw [← List.getElem?_map, ← List.getElem?_map, hP]
  · have := hS []
    rw [List.append_nil] at this
    rw [this]; rfl
end Go.Proofs.YtnhbjhdkpbhioaaGreatDoor
