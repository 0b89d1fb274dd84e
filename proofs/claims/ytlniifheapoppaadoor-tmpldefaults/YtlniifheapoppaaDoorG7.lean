/- Contracts of the reference's blank, text, name. -/
import Derived.Test.YtlniifheapoppaaDoorG5
import Derived.Test.YtlniifheapoppaaDoorG1
namespace Go.Proofs.YtlniifheapoppaaDoor
open Go.RowKit

/-- Where what was read ends, if it was. -/
def offZ (p : Nat) (R : Rd) : Int := if R.e = 0 then (p : Int) + (R.z : Int) else 0
theorem ret_sii {s t : ByteArray} {a b c d : Int} (h : s = t) (h2 : a = b) (h3 : c = d) : Ending.returned (.tuple #[.string s, .int .i64 a, .int .i64 c]) = .returned (.tuple #[.string t, .int .i64 b, .int .i64 d]) := by rw [h, h2, h3]
theorem ba_snoc (acc : List UInt8) (c : UInt8) : baL acc ++ chr (c.toNat : Int) = baL (acc ++ [c]) := by
  apply ba_ext
  rw [ba_app, chr_list, baL_list, baL_list]
  simp

theorem slice_mid (ao : Option Addr) (n cap a k : Nat) (A K : Int) (w : World) (hA : A = (a : Int)) (hK : K = (k : Int)) (ha : a ≤ k) (hk : k ≤ n) (hn : n ≤ cap) :
    (Instr.slice 30 (.slice ao n cap) (some (.int .i64 A)) (some (.int .i64 K)) none).run Tryd.prog w = .ok (.slice (fromA ao cap a) (k - a) (cap - a)) w := by
  subst hA hK
  have hz : Tryd.t5.size = 1 := by kernel_rfl
  have h := run_slice_lh (P := Tryd.prog) w 30 ao n cap (by kernel_rfl) .i64 .i64 (a : Int) (k : Int) (by omega) (by omega) (by omega)
  rw [h]
  have he : Tryd.prog.elem 30 = 5 := by kernel_rfl
  rw [he]
  simp [sizeOf, hz, sliced, fromA, Result.andThen]
theorem get_drop {l : List UInt8} {p j : Nat} {c : UInt8} (h : l[p + j]? = some c) : (l.drop p)[j]? = some c := by rw [List.getElem?_drop]; exact h
/-- How far a run goes: where it is. -/
theorem run_in {p : UInt8 → Bool} {l : List UInt8} {a j : Nat} {c : UInt8} (h : l[a + j]? = some c) (hj : j < runN p (l.drop a)) : p c = true := by
  have h1 := run_all p (l.drop a)
  rw [List.all_eq_true] at h1
  refine h1 c ?_
  refine List.mem_of_getElem? (i := j) ?_
  rw [List.getElem?_take_of_lt hj]
  exact get_drop h
theorem run_stop {p : UInt8 → Bool} : ∀ {l : List UInt8} {c : UInt8}, l[runN p l]? = some c → p c = false
  | [], c, h => by simp at h
  | d :: r, c, h => by
    rw [run_cons] at h
    by_cases hd : p d = true
    · rw [if_pos hd, List.getElem?_cons_succ] at h
      exact run_stop h
    · rw [if_neg hd] at h
      simp at h
      subst h
      simpa using hd
theorem run_out {p : UInt8 → Bool} {l : List UInt8} {a : Nat} {c : UInt8} (h : l[a + runN p (l.drop a)]? = some c) : p c = false := run_stop (get_drop h)

/-- Where a name ends, if it is one. -/
def nameN (p : Nat) (u : List UInt8) : Int := if nameE u = 0 then ((p + nameZ u : Nat) : Int) else 0
theorem nameN_no {u : List UInt8} {e : Int} (p : Nat) (h : nameE u = e) (h2 : e ≠ 0) : nameN p u = 0 := by unfold nameN; rw [if_neg (by rw [h]; exact h2)]
theorem nameN_ok {u : List UInt8} (p : Nat) (h : nameE u = 0) : nameN p u = ((p + nameZ u : Nat) : Int) := by unfold nameN; rw [if_pos h]
theorem IsB.from {w : World} {ao : Option Addr} {cap : Nat} {l : List UInt8} (h : IsB w ao l) (k : Nat) (hc : l.length ≤ cap) : IsB w (fromA ao cap k) (l.drop k) := fun hl => by
  rw [List.length_drop] at hl
  obtain ⟨b, o, rfl, h2⟩ := h (by omega)
  exact from_isB h2 k hc (by rw [List.length_drop]; exact hl)

end Go.Proofs.YtlniifheapoppaaDoor
/- The contract of the reference's one. -/
namespace Go.Proofs.YtlniifheapoppaaDoor
open Go.RowKit

/-- What the reference's one tells: the token, where it is one. -/
def ROne (p : Nat) (m : Rd) (e : Ending) : Prop := ∃ (k i : Int) (s : ByteArray) (z : Int), e = .returned (.tuple #[.agg #[.int .i64 (k), .int .i64 (p), .int .i64 (i), .string (s)], .int .i64 z, .int .i64 m.e]) ∧ (m.e = 0 → k = m.k ∧ i = m.i ∧ s = baL m.s ∧ z = (p : Int) + (m.z : Int))
theorem rone_ok (p : Nat) (k i : Int) (s : List UInt8) (z : Nat) (Z : Int) (hZ : Z = (p : Int) + (z : Int)) : ROne p (okR k i s z) (.returned (.tuple #[.agg #[.int .i64 (k), .int .i64 (p), .int .i64 (i), .string (baL s)], .int .i64 Z, .int .i64 0])) :=
  ⟨k, i, baL s, Z, rfl, fun _ => ⟨rfl, rfl, rfl, hZ⟩⟩
theorem rone_bad (p : Nat) (e : Int) (he : e ≠ 0) (k i : Int) (s : ByteArray) (Z : Int) : ROne p (badR e) (.returned (.tuple #[.agg #[.int .i64 (k), .int .i64 (p), .int .i64 (i), .string (s)], .int .i64 Z, .int .i64 e])) :=
  ⟨k, i, s, Z, rfl, fun h => absurd h he⟩
theorem rone_at (p : Nat) (m : Rd) (k : Int) (Z : Int) (hm : m.e = 0 → k = m.k ∧ m.i = 0 ∧ Z = (p : Int) + (m.z : Int)) : ROne p m (.returned (.tuple #[.agg #[.int .i64 (k), .int .i64 (p), .int .i64 (0), .string (baL m.s)], .int .i64 Z, .int .i64 m.e])) :=
  ⟨k, 0, baL m.s, Z, rfl, fun h => ⟨(hm h).1, (hm h).2.1.symm, rfl, (hm h).2.2⟩⟩
theorem str_kind : ∀ (r acc : List UInt8) (n : Nat), (strA r acc n).e = 0 → (strA r acc n).k = 3 ∧ (strA r acc n).i = 0
  | [], acc, n, h => by rw [strA_nil] at h; exact absurd h (by decide)
  | c :: r, acc, n, h => by
    by_cases h1 : c.toNat = 34
    · rw [strA_end _ _ _ _ h1] at h ⊢
      unfold endR at h ⊢
      split at h
      · exact absurd h (by decide)
      · rename_i h3; rw [if_neg h3]; exact ⟨rfl, rfl⟩
    · by_cases h2 : c.toNat = 92
      · cases r with
        | nil => rw [strA_esc0 _ _ _ h2] at h; exact absurd h (by decide)
        | cons d t =>
          rw [strA_esc _ _ _ _ _ h2] at h ⊢
          exact str_kind t _ _ h
      · rw [strA_one _ _ _ _ h1 h2] at h ⊢
        exact str_kind r _ _ h
theorem four_cells {w w1 : World} {v0 v1 v2 v3 : Value} {T : Nat} {o : Obj} (h : Below ((w.alloc (.cells #[v0, v1, v2, v3] T)).alloc o).heap.size ((w.alloc (.cells #[v0, v1, v2, v3] T)).alloc o) w1) :
    w1.cell? ⟨w.heap.size, 0, none⟩ = some v0 ∧ w1.cell? ⟨w.heap.size, 1, none⟩ = some v1 ∧ w1.cell? ⟨w.heap.size, 2, none⟩ = some v2 ∧ w1.cell? ⟨w.heap.size, 3, none⟩ = some v3 :=
  ⟨keep_cell h (alloc_cell (box0 rfl)), keep_cell h (alloc_cell (box0 rfl)), keep_cell h (alloc_cell (box0 rfl)), keep_cell h (alloc_cell (box0 rfl))⟩
theorem le_block1 (w : World) (q : Nat) : w.heap.size ≤ (⟨w.heap.size + 1, q, none⟩ : Addr).block := Nat.le_succ _

theorem plain_e (t : List UInt8) : (plainR t).e = nameE t := by unfold plainR; split <;> rename_i h <;> first | exact h.symm | rfl
theorem plain_s (t : List UInt8) : (plainR t).s = nameS t := by unfold plainR nameS; split <;> rfl
theorem plain_k (t : List UInt8) (h : (plainR t).e = 0) : (plainR t).k = 6 ∧ (plainR t).i = 0 ∧ (plainR t).z = 1 + nameZ t := by
  rw [plain_e] at h
  rw [plain_ok h]; exact ⟨rfl, rfl, rfl⟩

end Go.Proofs.YtlniifheapoppaaDoor
/- The contract of the reference's one: globals, words; all of it. -/
namespace Go.Proofs.YtlniifheapoppaaDoor
open Go.RowKit

theorem word_num (w : List UInt8) (z : Nat) (h : shapeL w = true) : (wordOf w z).e = parE w ∧ ((wordOf w z).e = 0 → (wordOf w z).k = 1 ∧ (wordOf w z).i = parV w ∧ (wordOf w z).s = [] ∧ (wordOf w z).z = z) := by
  have h2 : parE w = 0 ∨ parE w = 11 := by
    unfold parE; rw [if_pos h]; unfold resE; split
    · exact .inl rfl
    · exact .inr rfl
  unfold wordOf
  rcases h2 with h2 | h2
  · rw [if_pos h2]
    exact ⟨h2.symm, fun _ => ⟨rfl, rfl, rfl, rfl⟩⟩
  · rw [if_neg (by rw [h2]; decide), if_pos h2]
    exact ⟨h2.symm, fun h3 => absurd h3 (by decide)⟩
theorem parE_no {w : List UInt8} (h : shapeL w = false) : parE w = 2 := by unfold parE; rw [if_neg (by rw [h]; decide)]

end Go.Proofs.YtlniifheapoppaaDoor
/- The contract of the reference's Scan. -/
namespace Go.Proofs.YtlniifheapoppaaDoor
open Go.RowKit

end Go.Proofs.YtlniifheapoppaaDoor
