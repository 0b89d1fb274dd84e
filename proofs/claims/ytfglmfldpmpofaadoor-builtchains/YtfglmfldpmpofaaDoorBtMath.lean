/- What is built in, as plain functions: names, bounds, sums, comparisons, texts. No program in sight. -/
import Derived.Test.YtfglmfldpmpofaaDoorNumOps
import Derived.Test.YtfglmfldpmpofaaDoorValHashM
namespace Go.Proofs.YtfglmfldpmpofaaDoor
open Go.RowKit

/-- A name's place among the names; 21: it is none. -/
def code (s : ByteArray) : Nat :=
  if s = ⟨#[42]⟩ then 0 else if s = ⟨#[43]⟩ then 1 else if s = ⟨#[45]⟩ then 2 else if s = ⟨#[60]⟩ then 3 else if s = ⟨#[60, 61]⟩ then 4 else if s = ⟨#[60, 62]⟩ then 5 else if s = ⟨#[61]⟩ then 6 else if s = ⟨#[62]⟩ then 7 else if s = ⟨#[62, 61]⟩ then 8 else if s = ⟨#[97, 98, 115]⟩ then 9 else if s = ⟨#[100, 105, 118]⟩ then 10 else if s = ⟨#[101, 113]⟩ then 11 else if s = ⟨#[108, 101, 110, 103, 116, 104]⟩ then 12 else if s = ⟨#[109, 97, 120]⟩ then 13 else if s = ⟨#[109, 105, 110]⟩ then 14 else if s = ⟨#[109, 111, 100]⟩ then 15 else if s = ⟨#[110, 101, 113]⟩ then 16 else if s = ⟨#[110, 111, 116]⟩ then 17 else if s = ⟨#[115, 116, 114, 45, 99, 97, 116]⟩ then 18 else if s = ⟨#[115, 121, 109, 45, 99, 97, 116]⟩ then 19 else if s = ⟨#[116, 121, 112, 101]⟩ then 20 else 21
def nameAt (c : Nat) : ByteArray :=
  if c = 0 then ⟨#[42]⟩ else if c = 1 then ⟨#[43]⟩ else if c = 2 then ⟨#[45]⟩ else if c = 3 then ⟨#[60]⟩ else if c = 4 then ⟨#[60, 61]⟩ else if c = 5 then ⟨#[60, 62]⟩ else if c = 6 then ⟨#[61]⟩ else if c = 7 then ⟨#[62]⟩ else if c = 8 then ⟨#[62, 61]⟩ else if c = 9 then ⟨#[97, 98, 115]⟩ else if c = 10 then ⟨#[100, 105, 118]⟩ else if c = 11 then ⟨#[101, 113]⟩ else if c = 12 then ⟨#[108, 101, 110, 103, 116, 104]⟩ else if c = 13 then ⟨#[109, 97, 120]⟩ else if c = 14 then ⟨#[109, 105, 110]⟩ else if c = 15 then ⟨#[109, 111, 100]⟩ else if c = 16 then ⟨#[110, 101, 113]⟩ else if c = 17 then ⟨#[110, 111, 116]⟩ else if c = 18 then ⟨#[115, 116, 114, 45, 99, 97, 116]⟩ else if c = 19 then ⟨#[115, 121, 109, 45, 99, 97, 116]⟩ else if c = 20 then ⟨#[116, 121, 112, 101]⟩ else ⟨#[]⟩
theorem code_0 : code ⟨#[42]⟩ = 0 := by decide
theorem code_1 : code ⟨#[43]⟩ = 1 := by decide
theorem code_2 : code ⟨#[45]⟩ = 2 := by decide
theorem code_3 : code ⟨#[60]⟩ = 3 := by decide
theorem code_4 : code ⟨#[60, 61]⟩ = 4 := by decide
theorem code_5 : code ⟨#[60, 62]⟩ = 5 := by decide
theorem code_6 : code ⟨#[61]⟩ = 6 := by decide
theorem code_7 : code ⟨#[62]⟩ = 7 := by decide
theorem code_8 : code ⟨#[62, 61]⟩ = 8 := by decide
theorem code_9 : code ⟨#[97, 98, 115]⟩ = 9 := by decide
theorem code_10 : code ⟨#[100, 105, 118]⟩ = 10 := by decide
theorem code_11 : code ⟨#[101, 113]⟩ = 11 := by decide
theorem code_12 : code ⟨#[108, 101, 110, 103, 116, 104]⟩ = 12 := by decide
theorem code_13 : code ⟨#[109, 97, 120]⟩ = 13 := by decide
theorem code_14 : code ⟨#[109, 105, 110]⟩ = 14 := by decide
theorem code_15 : code ⟨#[109, 111, 100]⟩ = 15 := by decide
theorem code_16 : code ⟨#[110, 101, 113]⟩ = 16 := by decide
theorem code_17 : code ⟨#[110, 111, 116]⟩ = 17 := by decide
theorem code_18 : code ⟨#[115, 116, 114, 45, 99, 97, 116]⟩ = 18 := by decide
theorem code_19 : code ⟨#[115, 121, 109, 45, 99, 97, 116]⟩ = 19 := by decide
theorem code_20 : code ⟨#[116, 121, 112, 101]⟩ = 20 := by decide
theorem code_cases (s : ByteArray) : (s = ⟨#[42]⟩) ∨ (s = ⟨#[43]⟩) ∨ (s = ⟨#[45]⟩) ∨ (s = ⟨#[60]⟩) ∨ (s = ⟨#[60, 61]⟩) ∨ (s = ⟨#[60, 62]⟩) ∨ (s = ⟨#[61]⟩) ∨ (s = ⟨#[62]⟩) ∨ (s = ⟨#[62, 61]⟩) ∨ (s = ⟨#[97, 98, 115]⟩) ∨ (s = ⟨#[100, 105, 118]⟩) ∨ (s = ⟨#[101, 113]⟩) ∨ (s = ⟨#[108, 101, 110, 103, 116, 104]⟩) ∨ (s = ⟨#[109, 97, 120]⟩) ∨ (s = ⟨#[109, 105, 110]⟩) ∨ (s = ⟨#[109, 111, 100]⟩) ∨ (s = ⟨#[110, 101, 113]⟩) ∨ (s = ⟨#[110, 111, 116]⟩) ∨ (s = ⟨#[115, 116, 114, 45, 99, 97, 116]⟩) ∨ (s = ⟨#[115, 121, 109, 45, 99, 97, 116]⟩) ∨ (s = ⟨#[116, 121, 112, 101]⟩) ∨ (s ≠ ⟨#[42]⟩ ∧ s ≠ ⟨#[43]⟩ ∧ s ≠ ⟨#[45]⟩ ∧ s ≠ ⟨#[60]⟩ ∧ s ≠ ⟨#[60, 61]⟩ ∧ s ≠ ⟨#[60, 62]⟩ ∧ s ≠ ⟨#[61]⟩ ∧ s ≠ ⟨#[62]⟩ ∧ s ≠ ⟨#[62, 61]⟩ ∧ s ≠ ⟨#[97, 98, 115]⟩ ∧ s ≠ ⟨#[100, 105, 118]⟩ ∧ s ≠ ⟨#[101, 113]⟩ ∧ s ≠ ⟨#[108, 101, 110, 103, 116, 104]⟩ ∧ s ≠ ⟨#[109, 97, 120]⟩ ∧ s ≠ ⟨#[109, 105, 110]⟩ ∧ s ≠ ⟨#[109, 111, 100]⟩ ∧ s ≠ ⟨#[110, 101, 113]⟩ ∧ s ≠ ⟨#[110, 111, 116]⟩ ∧ s ≠ ⟨#[115, 116, 114, 45, 99, 97, 116]⟩ ∧ s ≠ ⟨#[115, 121, 109, 45, 99, 97, 116]⟩ ∧ s ≠ ⟨#[116, 121, 112, 101]⟩) := by
  by_cases h0 : s = ⟨#[42]⟩
  · exact .inl h0
  by_cases h1 : s = ⟨#[43]⟩
  · exact .inr (.inl h1)
  by_cases h2 : s = ⟨#[45]⟩
  · exact .inr (.inr (.inl h2))
  by_cases h3 : s = ⟨#[60]⟩
  · exact .inr (.inr (.inr (.inl h3)))
  by_cases h4 : s = ⟨#[60, 61]⟩
  · exact .inr (.inr (.inr (.inr (.inl h4))))
  by_cases h5 : s = ⟨#[60, 62]⟩
  · exact .inr (.inr (.inr (.inr (.inr (.inl h5)))))
  by_cases h6 : s = ⟨#[61]⟩
  · exact .inr (.inr (.inr (.inr (.inr (.inr (.inl h6))))))
  by_cases h7 : s = ⟨#[62]⟩
  · exact .inr (.inr (.inr (.inr (.inr (.inr (.inr (.inl h7)))))))
  by_cases h8 : s = ⟨#[62, 61]⟩
  · exact .inr (.inr (.inr (.inr (.inr (.inr (.inr (.inr (.inl h8))))))))
  by_cases h9 : s = ⟨#[97, 98, 115]⟩
  · exact .inr (.inr (.inr (.inr (.inr (.inr (.inr (.inr (.inr (.inl h9)))))))))
  by_cases h10 : s = ⟨#[100, 105, 118]⟩
  · exact .inr (.inr (.inr (.inr (.inr (.inr (.inr (.inr (.inr (.inr (.inl h10))))))))))
  by_cases h11 : s = ⟨#[101, 113]⟩
  · exact .inr (.inr (.inr (.inr (.inr (.inr (.inr (.inr (.inr (.inr (.inr (.inl h11)))))))))))
  by_cases h12 : s = ⟨#[108, 101, 110, 103, 116, 104]⟩
  · exact .inr (.inr (.inr (.inr (.inr (.inr (.inr (.inr (.inr (.inr (.inr (.inr (.inl h12))))))))))))
  by_cases h13 : s = ⟨#[109, 97, 120]⟩
  · exact .inr (.inr (.inr (.inr (.inr (.inr (.inr (.inr (.inr (.inr (.inr (.inr (.inr (.inl h13)))))))))))))
  by_cases h14 : s = ⟨#[109, 105, 110]⟩
  · exact .inr (.inr (.inr (.inr (.inr (.inr (.inr (.inr (.inr (.inr (.inr (.inr (.inr (.inr (.inl h14))))))))))))))
  by_cases h15 : s = ⟨#[109, 111, 100]⟩
  · exact .inr (.inr (.inr (.inr (.inr (.inr (.inr (.inr (.inr (.inr (.inr (.inr (.inr (.inr (.inr (.inl h15)))))))))))))))
  by_cases h16 : s = ⟨#[110, 101, 113]⟩
  · exact .inr (.inr (.inr (.inr (.inr (.inr (.inr (.inr (.inr (.inr (.inr (.inr (.inr (.inr (.inr (.inr (.inl h16))))))))))))))))
  by_cases h17 : s = ⟨#[110, 111, 116]⟩
  · exact .inr (.inr (.inr (.inr (.inr (.inr (.inr (.inr (.inr (.inr (.inr (.inr (.inr (.inr (.inr (.inr (.inr (.inl h17)))))))))))))))))
  by_cases h18 : s = ⟨#[115, 116, 114, 45, 99, 97, 116]⟩
  · exact .inr (.inr (.inr (.inr (.inr (.inr (.inr (.inr (.inr (.inr (.inr (.inr (.inr (.inr (.inr (.inr (.inr (.inr (.inl h18))))))))))))))))))
  by_cases h19 : s = ⟨#[115, 121, 109, 45, 99, 97, 116]⟩
  · exact .inr (.inr (.inr (.inr (.inr (.inr (.inr (.inr (.inr (.inr (.inr (.inr (.inr (.inr (.inr (.inr (.inr (.inr (.inr (.inl h19)))))))))))))))))))
  by_cases h20 : s = ⟨#[116, 121, 112, 101]⟩
  · exact .inr (.inr (.inr (.inr (.inr (.inr (.inr (.inr (.inr (.inr (.inr (.inr (.inr (.inr (.inr (.inr (.inr (.inr (.inr (.inr (.inl h20))))))))))))))))))))
  exact .inr (.inr (.inr (.inr (.inr (.inr (.inr (.inr (.inr (.inr (.inr (.inr (.inr (.inr (.inr (.inr (.inr (.inr (.inr (.inr (.inr (⟨h0, h1, h2, h3, h4, h5, h6, h7, h8, h9, h10, h11, h12, h13, h14, h15, h16, h17, h18, h19, h20⟩)))))))))))))))))))))
theorem code_none {s : ByteArray} (h : s ≠ ⟨#[42]⟩ ∧ s ≠ ⟨#[43]⟩ ∧ s ≠ ⟨#[45]⟩ ∧ s ≠ ⟨#[60]⟩ ∧ s ≠ ⟨#[60, 61]⟩ ∧ s ≠ ⟨#[60, 62]⟩ ∧ s ≠ ⟨#[61]⟩ ∧ s ≠ ⟨#[62]⟩ ∧ s ≠ ⟨#[62, 61]⟩ ∧ s ≠ ⟨#[97, 98, 115]⟩ ∧ s ≠ ⟨#[100, 105, 118]⟩ ∧ s ≠ ⟨#[101, 113]⟩ ∧ s ≠ ⟨#[108, 101, 110, 103, 116, 104]⟩ ∧ s ≠ ⟨#[109, 97, 120]⟩ ∧ s ≠ ⟨#[109, 105, 110]⟩ ∧ s ≠ ⟨#[109, 111, 100]⟩ ∧ s ≠ ⟨#[110, 101, 113]⟩ ∧ s ≠ ⟨#[110, 111, 116]⟩ ∧ s ≠ ⟨#[115, 116, 114, 45, 99, 97, 116]⟩ ∧ s ≠ ⟨#[115, 121, 109, 45, 99, 97, 116]⟩ ∧ s ≠ ⟨#[116, 121, 112, 101]⟩) : code s = 21 := by
  obtain ⟨h0, h1, h2, h3, h4, h5, h6, h7, h8, h9, h10, h11, h12, h13, h14, h15, h16, h17, h18, h19, h20⟩ := h
  unfold code
  rw [if_neg h0, if_neg h1, if_neg h2, if_neg h3, if_neg h4, if_neg h5, if_neg h6, if_neg h7, if_neg h8, if_neg h9, if_neg h10, if_neg h11, if_neg h12, if_neg h13, if_neg h14, if_neg h15, if_neg h16, if_neg h17, if_neg h18, if_neg h19, if_neg h20]
theorem code_lt {s : ByteArray} (h : code s ≠ 21) : s = nameAt (code s) ∧ code s < 21 := by
  rcases code_cases s with rfl | rfl | rfl | rfl | rfl | rfl | rfl | rfl | rfl | rfl | rfl | rfl | rfl | rfl | rfl | rfl | rfl | rfl | rfl | rfl | rfl | hn
  · exact ⟨rfl, by decide⟩
  · exact ⟨rfl, by decide⟩
  · exact ⟨rfl, by decide⟩
  · exact ⟨rfl, by decide⟩
  · exact ⟨rfl, by decide⟩
  · exact ⟨rfl, by decide⟩
  · exact ⟨rfl, by decide⟩
  · exact ⟨rfl, by decide⟩
  · exact ⟨rfl, by decide⟩
  · exact ⟨rfl, by decide⟩
  · exact ⟨rfl, by decide⟩
  · exact ⟨rfl, by decide⟩
  · exact ⟨rfl, by decide⟩
  · exact ⟨rfl, by decide⟩
  · exact ⟨rfl, by decide⟩
  · exact ⟨rfl, by decide⟩
  · exact ⟨rfl, by decide⟩
  · exact ⟨rfl, by decide⟩
  · exact ⟨rfl, by decide⟩
  · exact ⟨rfl, by decide⟩
  · exact ⟨rfl, by decide⟩
  · exact absurd (code_none hn) h

/-- How few and how many a name takes (-1: any number). -/
def loC (c : Nat) : Int := if c = 0 ∨ c = 1 ∨ c = 18 ∨ c = 21 then 0 else if c = 2 ∨ c = 13 ∨ c = 14 ∨ c = 19 ∨ c = 9 ∨ c = 17 ∨ c = 12 ∨ c = 20 then 1 else 2
def hiC (c : Nat) : Int := if c = 0 ∨ c = 1 ∨ c = 18 ∨ c = 2 ∨ c = 13 ∨ c = 14 ∨ c = 19 ∨ c = 3 ∨ c = 4 ∨ c = 7 ∨ c = 8 then -1 else if c = 21 then 0 else if c = 9 ∨ c = 17 ∨ c = 12 ∨ c = 20 then 1 else 2
def fitC (c : Nat) (n : Nat) : Bool := decide (loC c ≤ (n : Int) ∧ (hiC c < 0 ∨ (n : Int) ≤ hiC c))

/-- One step of a sum: the number and 0, or 0 and the code. -/
def twoF (c : Nat) (a b : Int) : Int × Int :=
  if c = 1 then (resV (a + b), resE (a + b)) else if c = 0 then (resV (a * b), resE (a * b)) else if c = 10 then (divV a b, divE a b) else if c = 15 then (modV a b, modE b)
  else if c = 14 then (if b < a then b else a, 0) else if c = 13 then (if a < b then b else a, 0) else (resV (a - b), resE (a - b))
theorem twoF_in (c : Nat) (a b : Int) (ha : inB a = true) (hb : inB b = true) : inB (twoF c a b).1 = true := by
  unfold twoF
  split
  · exact resV_bd _
  split
  · exact resV_bd _
  split
  · show inB (divV a b) = true
    unfold divV
    split
    · decide
    · rename_i h
      rw [inB_iff] at ha ⊢
      exact tdiv_bd a b (fun h0 => h (.inl h0)) ha.1 ha.2 (least1_no (by cases hl : least1 a b; rfl; exact absurd (.inr hl) h))
  split
  · show inB (modV a b) = true
    unfold modV
    split
    · decide
    · rw [inB_iff] at ha ⊢
      exact tmod_bd a b ha.1 ha.2
  split
  · show inB (if b < a then b else a) = true
    split <;> assumption
  split
  · show inB (if a < b then b else a) = true
    split <;> assumption
  · exact resV_bd _
theorem twoF_e (c : Nat) (a b : Int) : 0 ≤ (twoF c a b).2 ∧ (twoF c a b).2 ≤ 11 := by
  unfold twoF
  split
  · exact resE_bd _
  split
  · exact resE_bd _
  split
  · exact divE_bd _ _
  split
  · exact modE_bd _
  split
  · show (0 : Int) ≤ 0 ∧ (0 : Int) ≤ 11; omega
  split
  · show (0 : Int) ≤ 0 ∧ (0 : Int) ≤ 11; omega
  · exact resE_bd _

/-- Step by step, from the left on. -/
def foldE (f : Int → Int → Int × Int) : Int → List Int → Int × Int
  | n, [] => (n, 0)
  | n, x :: l => if (f n x).2 = 0 then foldE f (f n x).1 l else (0, (f n x).2)
theorem foldE_nil (f : Int → Int → Int × Int) (n : Int) : foldE f n [] = (n, 0) := rfl
theorem foldE_cons (f : Int → Int → Int × Int) (n x : Int) (l : List Int) : foldE f n (x :: l) = if (f n x).2 = 0 then foldE f (f n x).1 l else (0, (f n x).2) := rfl
theorem foldE_go {f : Int → Int → Int × Int} {n x m : Int} {l : List Int} (h : f n x = (m, 0)) : foldE f n (x :: l) = foldE f m l := by rw [foldE_cons, h]; rfl
theorem foldE_no {f : Int → Int → Int × Int} {n x m e : Int} {l : List Int} (h : f n x = (m, e)) (he : e ≠ 0) : foldE f n (x :: l) = (0, e) := by rw [foldE_cons, h, if_neg he]
theorem foldE_in {f : Int → Int → Int × Int} (hf : ∀ a b, inB a = true → inB b = true → inB (f a b).1 = true) : ∀ (l : List Int) (n : Int), inB n = true → (∀ x ∈ l, inB x = true) → inB (foldE f n l).1 = true
  | [], n, hn, _ => hn
  | x :: l, n, hn, hl => by
    rw [foldE_cons]
    split
    · exact foldE_in hf l _ (hf n x hn (hl x (by simp))) (fun y hy => hl y (by simp [hy]))
    · show inB 0 = true; decide

/-- What a sum goes over. -/
def numL (c : Nat) (ns : List Int) : List Int :=
  if c = 1 then 0 :: ns else if c = 0 then 1 :: ns else if c = 2 ∧ ns.length = 1 then 0 :: ns else if c = 9 ∧ ns.getD 0 0 < 0 then 0 :: ns else ns
def foldL (c : Nat) : List Int → Int × Int
  | [] => (0, 0)
  | a :: r => foldE (twoF c) a r
def numR (c : Nat) (ns : List Int) : Int × Int := foldL c (numL c ns)

/-- Comparisons. -/
def cmpC (c : Nat) : Bool := decide (c = 3 ∨ c = 4 ∨ c = 5 ∨ c = 6 ∨ c = 7 ∨ c = 8)
def standB (c : Nat) (a b : Int) : Bool :=
  if c = 6 then decide (a = b) else if c = 5 then decide (a ≠ b) else if c = 3 then decide (a < b) else if c = 4 then decide (a ≤ b) else if c = 7 then decide (b < a) else decide (b ≤ a)
def chainB (c : Nat) : List Int → Bool
  | [] => true
  | a :: r => match r with
    | [] => true
    | b :: _ => standB c a b && chainB c r
theorem chain_snoc (c : Nat) (a b : Int) : ∀ l : List Int, chainB c (l ++ [a] ++ [b]) = (chainB c (l ++ [a]) && standB c a b)
  | [] => by simp [chainB]
  | [x] => by simp [chainB]
  | x :: y :: l => by
    have ih := chain_snoc c a b (y :: l)
    simp only [List.cons_append] at ih ⊢
    rw [chainB, chainB, ih, Bool.and_assoc]
theorem chain_take (c : Nat) (l : List Int) (k : Nat) (a b : Int) (ha : l[k]? = some a) (hb : l[k + 1]? = some b) : chainB c (l.take (k + 2)) = (chainB c (l.take (k + 1)) && standB c a b) := by
  obtain ⟨h1, e1⟩ := List.getElem?_eq_some_iff.1 ha
  obtain ⟨h2, e2⟩ := List.getElem?_eq_some_iff.1 hb
  rw [List.take_succ_eq_append_getElem h2, List.take_succ_eq_append_getElem h1, e1, e2, chain_snoc]
theorem chain_false {c : Nat} {l : List Int} (k : Nat) (h : chainB c (l.take k) = false) : chainB c l = false := by
  by_cases hk : l.length ≤ k
  · rwa [List.take_of_length_le hk] at h
  have key : ∀ d, chainB c (l.take (k + d)) = false := by
    intro d
    induction d with
    | zero => exact h
    | succ d ih =>
      rcases Nat.lt_or_ge (k + d) l.length with hd | hd
      · cases e : k + d with
        | zero => rw [e] at ih; simp [chainB] at ih
        | succ m =>
          rw [show k + (d + 1) = m + 2 by omega]
          rw [e] at ih hd
          rw [chain_take c l m l[m] l[m + 1] (List.getElem?_eq_getElem (by omega)) (List.getElem?_eq_getElem hd), ih]
          rfl
      · rw [List.take_of_length_le (by omega)]
        rw [List.take_of_length_le (by omega)] at ih
        exact ih
  have := key (l.length - k)
  rwa [List.take_of_length_le (by omega)] at this

/-- Values: their numbers, their texts. -/
def rightV (v : Val) : Prop := rightB v.k v.i v.s = true ∧ inB v.i = true
def numsV (L : List Val) : List Int := L.map (·.i)
def allInt (L : List Val) : Bool := L.all fun v => decide (v.k = 1)
def plainL (v : Val) : List UInt8 := if v.k = 1 then Lib.itoa v.i else v.s.data.toList
def catL (L : List Val) : List UInt8 := L.flatMap plainL
def catS (L : List Val) : ByteArray := ⟨(catL L).toArray⟩
theorem catL_snoc (L : List Val) (v : Val) : catL (L ++ [v]) = catL L ++ plainL v := by unfold catL; rw [List.flatMap_append]; simp
theorem catL_take (L : List Val) (n : Nat) (v : Val) (h : L[n]? = some v) : catL (L.take (n + 1)) = catL (L.take n) ++ plainL v := by
  obtain ⟨h1, e1⟩ := List.getElem?_eq_some_iff.1 h
  rw [List.take_succ_eq_append_getElem h1, e1, catL_snoc]
theorem catL_le (L : List Val) (n : Nat) : (catL (L.take n)).length ≤ (catL L).length := by
  have h : catL L = catL (L.take n) ++ catL (L.drop n) := by
    conv => lhs; rw [← List.take_append_drop n L]
    unfold catL; rw [List.flatMap_append]
  rw [h, List.length_append]; omega
theorem plainL_len {v : Val} (h : rightV v) : (plainL v).length ≤ 1000 := by
  obtain ⟨hr, hi⟩ := h
  unfold plainL
  split
  · have := itoa_len v.i hi; omega
  · rename_i hk
    rcases right_kind hr with h1 | h2 | h3
    · exact absurd h1 hk
    · rw [h2, right_sym, Bool.and_eq_true] at hr
      have h4 := hr.2
      unfold symB at h4
      rw [Bool.and_eq_true, decide_eq_true_eq, Lib.size_eq] at h4
      omega
    · rw [h3, right_str, decide_eq_true_eq, Lib.size_eq] at hr
      omega
theorem catL_len {L : List Val} (h : ∀ v ∈ L, rightV v) : (catL L).length ≤ 1000 * L.length := by
  induction L with
  | nil => exact Nat.le_refl _
  | cons v L ih =>
    have a := plainL_len (h v (by simp))
    have b := ih (fun u hu => h u (by simp [hu]))
    show (plainL v ++ catL L).length ≤ _
    rw [List.length_append, List.length_cons]
    omega

/-- What a name tells of values: a value and 0, or no value and why not. -/
def none0 : Val := ⟨0, 0, ⟨#[]⟩⟩
def at0 (L : List Val) (n : Nat) : Val := L.getD n none0
def boolV (b : Bool) : Val := ⟨2, 0, boolS b⟩
def sameV (v u : Val) : Bool := sameB v.k v.i v.s u.k u.i u.s
def lengthR (v : Val) : Val × Int := if v.k = 3 then (⟨1, (v.s.size : Int), ⟨#[]⟩⟩, 0) else (none0, 8)
def typeS (k : Int) : ByteArray := if k = 1 then ⟨#[73, 78, 84, 69, 71, 69, 82]⟩ else if k = 2 then ⟨#[83, 89, 77, 66, 79, 76]⟩ else ⟨#[83, 84, 82, 73, 78, 71]⟩
def symcatR (L : List Val) : Val × Int := if 40 < (catL L).length then (none0, 4) else if symB (catS L) = true then (⟨2, 0, catS L⟩, 0) else (none0, 2)
def strcatR (L : List Val) : Val × Int := if 1000 < (catL L).length then (none0, 4) else (⟨3, 0, catS L⟩, 0)
def numbersR (c : Nat) (L : List Val) : Val × Int :=
  if allInt L = true then (if cmpC c = true then (boolV (chainB c (numsV L)), 0) else if (numR c (numsV L)).2 = 0 then (⟨1, (numR c (numsV L)).1, ⟨#[]⟩⟩, 0) else (none0, (numR c (numsV L)).2)) else (none0, 8)
def answerR (c : Nat) (L : List Val) : Val × Int :=
  if c = 11 then (boolV (sameV (at0 L 0) (at0 L 1)), 0) else if c = 16 then (boolV (!sameV (at0 L 0) (at0 L 1)), 0) else if c = 17 then (boolV (!trueB (at0 L 0).k (at0 L 0).i (at0 L 0).s), 0)
  else if c = 19 then symcatR L else if c = 18 then strcatR L else if c = 12 then lengthR (at0 L 0) else if c = 20 then (⟨2, 0, typeS (at0 L 0).k⟩, 0) else numbersR c L
def applyR (c : Nat) (L : List Val) : Val × Int := if c = 21 then (none0, 5) else if fitC c L.length = true then answerR c L else (none0, 1)

/-- What is told is right. -/
theorem boolV_right (b : Bool) : rightB (boolV b).k (boolV b).i (boolV b).s = true := by cases b <;> decide
theorem typeS_right (k : Int) : rightB 2 0 (typeS k) = true := by unfold typeS; split; decide; split <;> decide
theorem applyR_right {c : Nat} {L : List Val} (h : (applyR c L).2 = 0) : rightB (applyR c L).1.k (applyR c L).1.i (applyR c L).1.s = true := by
  unfold applyR at *
  split at h
  · exact absurd h (by decide)
  rename_i h21
  rw [if_neg h21]
  split at h
  case isFalse => exact absurd h (by decide)
  rename_i hf
  rw [if_pos hf]
  unfold answerR at *
  split at h
  · rename_i e; rw [if_pos e]; exact boolV_right _
  rename_i e1; rw [if_neg e1]
  split at h
  · rename_i e; rw [if_pos e]; exact boolV_right _
  rename_i e2; rw [if_neg e2]
  split at h
  · rename_i e; rw [if_pos e]; exact boolV_right _
  rename_i e3; rw [if_neg e3]
  split at h
  · rename_i e; rw [if_pos e]
    unfold symcatR at *
    split at h
    · exact absurd h (by decide)
    rename_i h1; rw [if_neg h1]
    split at h
    · rename_i h2; rw [if_pos h2]; show rightB 2 0 (catS L) = true
      rw [right_sym, h2]; rfl
    · exact absurd h (by decide)
  rename_i e4; rw [if_neg e4]
  split at h
  · rename_i e; rw [if_pos e]
    unfold strcatR at *
    split at h
    · exact absurd h (by decide)
    rename_i h1; rw [if_neg h1]
    show rightB 3 0 (catS L) = true
    rw [right_str, decide_eq_true_eq]
    refine ⟨rfl, ?_⟩
    rw [Lib.size_eq]
    show (catL L).toArray.toList.length ≤ 1000
    rw [List.toList_toArray]; omega
  rename_i e5; rw [if_neg e5]
  split at h
  · rename_i e; rw [if_pos e]
    unfold lengthR at *
    split at h
    · rename_i h1; rw [if_pos h1]; rfl
    · exact absurd h (by decide)
  rename_i e6; rw [if_neg e6]
  split at h
  · rename_i e; rw [if_pos e]; exact typeS_right _
  rename_i e7; rw [if_neg e7]
  unfold numbersR at *
  split at h
  case isFalse => exact absurd h (by decide)
  rename_i h1; rw [if_pos h1]
  split at h
  · rename_i h2; rw [if_pos h2]; exact boolV_right _
  rename_i h2; rw [if_neg h2]
  split at h
  · rename_i h3; rw [if_pos h3]; rfl
  · rename_i h3; exact absurd h h3
end Go.Proofs.YtfglmfldpmpofaaDoor
