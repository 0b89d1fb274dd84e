import Derived.Lib.ConvBytes
import Derived.Lib.SmallJoins
import Derived.Laws.AppendOwn
import Derived.Test.YtnhbjhdkpbhioaaGreatDoorG3
import Derived.Test.YtnhbjhdkpbhioaaGreatDoorG5
import Derived.Test.YtnhbjhdkpbhioaaGreatDoorG2
import Derived.Test.YtnhbjhdkpbhioaaGreatDoorG6
namespace Go.Proofs.YtnhbjhdkpbhioaaGreatDoor
open Go.RowKit
def tokS (k i : Int) (s : ByteArray) : ByteArray :=
  if k = 4 then ⟨#[40]⟩ else if k = 5 then ⟨#[41]⟩ else if k = 6 then ⟨#[63]⟩ ++ s else if k = 7 then ⟨#[63, 42]⟩ ++ s ++ ⟨#[42]⟩ else if k = 8 then ⟨#[126]⟩ else rtextS k i s
def isKind (k : Int) : Prop := k = 1 ∨ k = 2 ∨ k = 3 ∨ k = 4 ∨ k = 5 ∨ k = 6 ∨ k = 7 ∨ k = 8
theorem tokS_val {k : Int} (i : Int) (s : ByteArray) (h : k = 1 ∨ k = 2 ∨ k = 3) : tokS k i s = textS k i s := by
  rw [text_right h]
  unfold tokS
  rw [if_neg (by omega), if_neg (by omega), if_neg (by omega), if_neg (by omega), if_neg (by omega)]
set_option maxHeartbeats 2000000 in
set_option maxRecDepth 4000 in
theorem lex_text (k a i : Int) (s : ByteArray) (w : World) (hk : isKind k) (hs : s.size ≤ 10000) (hi : inB i = true) (ht : TabW w) :
    Calls Tryz.prog 131 #[.agg #[.int .i64 (k), .int .i64 (a), .int .i64 (i), .string (s)]] w fun e w' => e = .returned (.string (tokS k i s)) ∧ Below w.heap.size w w' := by
  have hval : (k = 1 ∨ k = 2 ∨ k = 3) → Calls Tryz.prog 131 #[.agg #[.int .i64 (k), .int .i64 (a), .int .i64 (i), .string (s)]] w fun e w' => e = .returned (.string (tokS k i s)) ∧ Below w.heap.size w w' := by
    intro h
    obtain ⟨X, HX⟩ : ∃ X, Hid (tokS k i s = X) := ⟨_, rfl⟩
    have HT : Hid (∀ w' : World, Below w.heap.size w w' → Calls Tryz.prog 149 #[.agg #[.int .i64 (k), .int .i64 (i), .string (s)]] w' fun e w2 => e = .returned (.string X) ∧ Below w'.heap.size w' w2) := by
      intro w' hb
      rw [← HX.out, tokS_val i s h]
      exact text_val k i s w' (by omega) hi (tab_next ht hb)
    rw [HX.out]
    have d4 : (k == 4) = false := by simp; omega
    have d5 : (k == 5) = false := by simp; omega
    have d6 : (k == 6) = false := by simp; omega
    have d7 : (k == 7) = false := by simp; omega
    have d8 : (k == 8) = false := by simp; omega
    clear h hk ht
    go_enter Tryz.func131, Tryz.ntmps131
    go_wp2_with fail
    refine (HT.out _ (alloc_below _ _)).mono ?_
    rintro e w1 ⟨rfl, hb1⟩
    have HB : Hid (Below w.heap.size w w1) := next_trans (alloc_below _ _) hb1
    clear hb1
    go_wp2
    go_ret
    exact ⟨rfl, HB.out⟩
  rcases hk with h | h | h | h | h | h | h | h
  · exact hval (.inl h)
  · exact hval (.inr (.inl h))
  · exact hval (.inr (.inr h))
  · subst h
    go_enter Tryz.func131, Tryz.ntmps131
    go_wp2
    go_ret
    exact ⟨rfl, alloc_below _ _⟩
  · subst h
    go_enter Tryz.func131, Tryz.ntmps131
    go_wp2
    go_ret
    exact ⟨rfl, alloc_below _ _⟩
  · subst h
    go_enter Tryz.func131, Tryz.ntmps131
    go_wp2
    go_ret
    exact ⟨rfl, alloc_below _ _⟩
  · subst h
    go_enter Tryz.func131, Tryz.ntmps131
    go_wp2
    go_ret
    exact ⟨rfl, alloc_below _ _⟩
  · subst h
    go_enter Tryz.func131, Tryz.ntmps131
    go_wp2
    go_ret
    exact ⟨rfl, alloc_below _ _⟩
end Go.Proofs.YtnhbjhdkpbhioaaGreatDoor
namespace Go.Proofs.YtnhbjhdkpbhioaaGreatDoor
open Go.RowKit
def tokL (k i : Int) (s : List UInt8) : List UInt8 := (tokS k i (baL s)).data.toList
theorem tokL_int (i : Int) (s : List UInt8) : tokL 1 i s = Lib.itoa i := rfl
theorem tokL_sym (i : Int) (s : List UInt8) : tokL 2 i s = s := rfl
theorem tokL_str (i : Int) (s : List UInt8) : tokL 3 i s = 34 :: (escL s ++ [34]) := rfl
theorem tokL_var (i : Int) (s : List UInt8) : tokL 6 i s = 63 :: s := by
  show (⟨#[63]⟩ ++ baL s : ByteArray).data.toList = _
  rw [ba_app]; rfl
theorem tokL_glob (i : Int) (s : List UInt8) : tokL 7 i s = 63 :: 42 :: (s ++ [42]) := by
  show (⟨#[63, 42]⟩ ++ baL s ++ ⟨#[42]⟩ : ByteArray).data.toList = _
  rw [ba_app, ba_app]; rfl
end Go.Proofs.YtnhbjhdkpbhioaaGreatDoor
namespace Go.Proofs.YtnhbjhdkpbhioaaGreatDoor
open Go.RowKit
theorem Bs_mark (w : World) (l : List UInt8) (C : Array Value) (T : Nat) (fr : Nat × Nat) (hC : C.toList = l.map fun c => .int .u8 (c.toNat : Int)) : Bs (w.alloc (.cells C T fr)) w.heap.size 0 l := fun i hi => by
  rw [Nat.zero_add, Go.Joins.cell_alloc_mark_at _ _ _ _ _ _ rfl, ← Array.getElem?_toList, hC, List.getElem?_map, List.getElem?_eq_getElem hi]; rfl
theorem as_below (B : Nat) (e t : Addr) (w : World) (hB : B ≤ w.heap.size) (ht : B ≤ t.block) : Below B w (asW e t w) := by
  unfold asW
  refine Below.setCell ?_ ht _
  exact ((((Below.refl _ _).alloc hB _).alloc (by simp; omega) _).alloc (by simp; omega) _).alloc (by simp; omega) _
theorem as_self (e t : Addr) (old : Value) (w : World) (ht : w.cell? t = some old) : (asW e t w).cell? t = some (.pointer (some e)) := by
  unfold asW
  have h : ((((w.alloc (.cells #[.pointer (some t)] 135)).alloc (.cells #[.pointer (some ⟨5, 135, none⟩), .pointer (some ⟨w.heap.size, 0, none⟩), .int .u64 150] 198)).alloc (.cells #[.pointer (some ⟨5, 135, none⟩), .pointer (some ⟨w.heap.size, 0, none⟩), .int .u64 150] 198)).alloc (.cells #[.pointer (some e)] 133)).cell? t = some old := alloc_cell (alloc_cell (alloc_cell (alloc_cell ht)))
  exact World.cell?_setCell_same _ _ _ h
theorem FaultAt.cells {w : World} {B : Nat} {a e : Int} (h : FaultAt w B a e) : w.cell? ⟨B, 0, none⟩ = some (.string ⟨#[99, 104, 97, 114]⟩) ∧ w.cell? ⟨B, 1, none⟩ = some (.int .i64 a) ∧ w.cell? ⟨B, 2, none⟩ = some (.iface 118 (.int .i64 e)) := by
  unfold FaultAt at h
  unfold World.cell?
  rw [h]; exact ⟨rfl, rfl, rfl⟩
structure Lib4 (w : World) : Prop where
  tab : TabW w
  max : MaxW w
  err : ErrW w
theorem Lib4.next {w w' : World} (h : Lib4 w) (hb : Below w.heap.size w w') : Lib4 w' := ⟨tab_next h.tab hb, h.max.next hb, keep_cell hb h.err⟩
end Go.Proofs.YtnhbjhdkpbhioaaGreatDoor
namespace Go.Proofs.YtnhbjhdkpbhioaaGreatDoor
open Go.RowKit
def IsToks (w : World) (ao : Option Addr) (L : List Tk) : Prop :=
  ∀ (j : Nat) (t : Tk), L[j]? = some t → ∃ b o, ao = some ⟨b, o, none⟩ ∧ w.cell? ⟨b, o + j * 4, none⟩ = some (.int .i64 t.k) ∧ w.cell? ⟨b, o + j * 4 + 1, none⟩ = some (.int .i64 (t.a : Int)) ∧ w.cell? ⟨b, o + j * 4 + 2, none⟩ = some (.int .i64 t.i) ∧ w.cell? ⟨b, o + j * 4 + 3, none⟩ = some (.string (baL t.s))
theorem IsToks.next {w w' : World} {ao : Option Addr} {L : List Tk} (h : IsToks w ao L) (hb : Below w.heap.size w w') : IsToks w' ao L := by
  intro j v hj
  obtain ⟨b, o, h0, h1, h2, h3, h4⟩ := h j v hj
  exact ⟨b, o, h0, keep_cell hb h1, keep_cell hb h2, keep_cell hb h3, keep_cell hb h4⟩
theorem toks_at : ∀ (L : List Tk) (j q : Nat) (t : Tk), L[j]? = some t → q < 4 → (toksC L)[j * 4 + q]? = (tkC t)[q]?
  | [], j, q, t, h, _ => by simp at h
  | x :: r, 0, q, t, h, hq => by
    simp at h
    subst h
    have hl : (tkC x).length = 4 := rfl
    rw [Nat.zero_mul, Nat.zero_add]
    unfold toksC
    rw [List.flatMap_cons, List.getElem?_append_left (by omega)]
  | x :: r, j + 1, q, t, h, hq => by
    rw [List.getElem?_cons_succ] at h
    have hl : (tkC x).length = 4 := rfl
    unfold toksC
    rw [List.flatMap_cons, List.getElem?_append_right (by omega), hl, show (j + 1) * 4 + q - 4 = j * 4 + q by omega]
    exact toks_at r j q t h hq
theorem own_toks {w : World} {B T : Nat} {v : Value} {L : List Tk} (h : w.ownsRow B T 4 v L.length (toksC L)) : ∃ ao cap, v = .slice ao L.length cap ∧ IsToks w ao L := by
  rcases h.2 with ⟨rfl, h0⟩ | ⟨g, cap, cur, rfl, _, _, _⟩
  · refine ⟨none, 0, by rw [h0], ?_⟩
    have e : L = [] := List.eq_nil_of_length_eq_zero h0
    subst e
    intro j t hj; simp at hj
  · refine ⟨_, cap, rfl, fun j t hj => ⟨g, 0, rfl, ?_⟩⟩
    have hjl : j < L.length := (List.getElem?_eq_some_iff.1 hj).1
    have hc : ∀ q, q < 4 → w.cell? ⟨g, j * 4 + q, none⟩ = (tkC t)[q]? := fun q hq => by
      rw [h.cellAt (j * 4 + q) (by omega), toks_at L j q t hj hq]
    rw [Nat.zero_add]
    exact ⟨hc 0 (by omega), hc 1 (by omega), hc 2 (by omega), hc 3 (by omega)⟩
theorem fault_lt {w : World} {B : Nat} {a e : Int} (h : FaultAt w B a e) : B < w.heap.size := by
  rcases Nat.lt_or_ge B w.heap.size with h1 | h1
  · exact h1
  · unfold FaultAt at h; rw [Array.getElem?_eq_none h1] at h; exact absurd h (by simp)
end Go.Proofs.YtnhbjhdkpbhioaaGreatDoor
namespace Go.Proofs.YtnhbjhdkpbhioaaGreatDoor
open Go.RowKit
def sumS : List Tk → Nat
  | [] => 0
  | t :: r => t.s.length + sumS r
theorem sumS_app : ∀ (x y : List Tk), sumS (x ++ y) = sumS x + sumS y
  | [], y => by simp [sumS]
  | t :: r, y => by
    rw [List.cons_append]
    show t.s.length + sumS (r ++ y) = t.s.length + sumS r + sumS y
    rw [sumS_app r y]; omega
theorem str_sz : ∀ (r acc : List UInt8) (n : Nat), acc.length ≤ n → (strA r acc n).e = 0 → (strA r acc n).s.length ≤ (strA r acc n).z
  | [], acc, n, _, h => by rw [strA_nil] at h; exact absurd h (by decide)
  | c :: r, acc, n, ha, h => by
    by_cases h1 : c.toNat = 34
    · rw [strA_end _ _ _ _ h1] at h ⊢
      unfold endR at h ⊢
      split at h
      · exact absurd h (by decide)
      · rename_i h3
        rw [if_neg h3]
        show acc.length ≤ n + 1; omega
    · by_cases h2 : c.toNat = 92
      · cases r with
        | nil => rw [strA_esc0 _ _ _ h2] at h; exact absurd h (by decide)
        | cons d t =>
          rw [strA_esc _ _ _ _ _ h2] at h ⊢
          exact str_sz t _ _ (by rw [List.length_append, List.length_singleton]; omega) h
      · rw [strA_one _ _ _ _ h1 h2] at h ⊢
        exact str_sz r _ _ (by rw [List.length_append, List.length_singleton]; omega) h
theorem one_sz (r : List UInt8) (h : (oneL r).e = 0) : (oneL r).s.length ≤ (oneL r).z := by
  cases r with
  | nil => exact absurd h (by decide)
  | cons c t =>
    rw [oneL_cons] at h ⊢
    by_cases c1 : c.toNat = 40
    · rw [if_pos c1]; exact Nat.zero_le _
    rw [if_neg c1] at h ⊢
    by_cases c2 : c.toNat = 41
    · rw [if_pos c2]; exact Nat.zero_le _
    rw [if_neg c2] at h ⊢
    by_cases c3 : c.toNat = 126
    · rw [if_pos c3]; exact Nat.zero_le _
    rw [if_neg c3] at h ⊢
    by_cases c4 : c.toNat = 34
    · rw [if_pos c4] at h ⊢; exact str_sz _ _ _ (Nat.zero_le _) h
    rw [if_neg c4] at h ⊢
    by_cases c5 : c.toNat = 63
    · rw [if_pos c5] at h ⊢
      unfold varR at h ⊢
      split at h
      · rename_i hs
        rw [if_pos hs]
        unfold globR at h ⊢
        split at h
        · rename_i hn
          rw [if_pos hn]
          split at h
          · rename_i hq
            rw [if_pos hq]
            show ((t.drop 1).take (nameZ (t.drop 1))).length ≤ 2 + nameZ (t.drop 1) + 1
            rw [List.length_take]; omega
          · exact absurd h (by decide)
        · rename_i hn; exact absurd h hn
      · rename_i hs
        rw [if_neg hs]
        unfold plainR at h ⊢
        split at h
        · rename_i hn
          rw [if_pos hn]
          show (t.take (nameZ t)).length ≤ 1 + nameZ t
          rw [List.length_take]; omega
        · rename_i hn; exact absurd h hn
    · rw [if_neg c5] at h ⊢
      unfold wordR at h ⊢
      split at h
      · exact absurd h (by decide)
      · rename_i hz
        rw [if_neg hz]
        unfold wordOf at h ⊢
        split at h
        · rename_i h1
          rw [if_pos h1]; exact Nat.zero_le _
        · rename_i h1
          rw [if_neg h1]
          split at h
          · exact absurd h (by decide)
          · rename_i h2
            rw [if_neg h2]
            split at h
            · exact absurd h (by decide)
            · rename_i h3
              rw [if_neg h3]
              show ((c :: t).take (runN signB (c :: t))).length ≤ runN signB (c :: t)
              rw [List.length_take]; omega
theorem scan_sum : ∀ (l : List UInt8) (k a : Nat) (acc : List Tk), k ≤ l.length → sumS (scanS l k a acc).l ≤ sumS acc + (l.length - k)
  | [], _, _, acc, _ => by show sumS acc ≤ _; omega
  | c :: r, k + 1, a, acc, h => by
    have := scan_sum r k (a + 1) acc (by simpa using h)
    show sumS (scanS r k (a + 1) acc).l ≤ _
    simp only [List.length_cons]; omega
  | c :: r, 0, a, acc, _ => by
    rw [scanS_0]
    simp only [List.length_cons]
    split
    · have := scan_sum r 0 (a + 1) acc (Nat.zero_le _); omega
    · split
      · have := scan_sum r (runN lineB r) (a + 1) acc (run_le _ _); omega
      · split
        · rename_i he
          have hz := one_z (c :: r) he
          have hs := one_sz (c :: r) he
          simp only [List.length_cons] at hz
          have := scan_sum r ((oneL (c :: r)).z - 1) (a + 1) (acc ++ [⟨(oneL (c :: r)).k, a, (oneL (c :: r)).i, (oneL (c :: r)).s⟩]) (by omega)
          rw [sumS_app] at this
          have e : sumS [(⟨(oneL (c :: r)).k, a, (oneL (c :: r)).i, (oneL (c :: r)).s⟩ : Tk)] = (oneL (c :: r)).s.length := Nat.add_zero _
          rw [e] at this
          omega
        · exact Nat.zero_le _
theorem scanQ_sum (l : List UInt8) : sumS (scanQ l 0 []).l ≤ l.length := by
  have := scan_sum l 0 0 [] (Nat.zero_le _)
  simp [sumS] at this
  exact this
def core (t : Tk) : Int × Int × List UInt8 := (t.k, t.i, t.s)
theorem tokL_len {k i : Int} {s : List UInt8} (h : WfT k i s) : (tokL k i s).length ≤ 2 * s.length + 23 := by
  rcases h with ⟨rfl, hi, rfl⟩ | ⟨rfl, rfl, _⟩ | ⟨rfl, rfl, _⟩ | ⟨hk, rfl, rfl⟩ | ⟨hk, rfl, _⟩
  · rw [tokL_int]; have := itoa_len i hi; omega
  · rw [tokL_sym]; omega
  · rw [tokL_str]; have := (escL_len s).2; simp only [List.length_cons, List.length_append, List.length_nil]; omega
  · rcases hk with rfl | rfl | rfl <;> decide
  · rcases hk with rfl | rfl
    · rw [tokL_var]; simp only [List.length_cons]; omega
    · rw [tokL_glob]; simp only [List.length_cons, List.length_append, List.length_nil]; omega
end Go.Proofs.YtnhbjhdkpbhioaaGreatDoor
