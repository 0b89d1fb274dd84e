/- What the law SymbolPlays carries from round to round. -/
import Derived.Test.YthkkgjoegcbaaaaLawFull
import Derived.Deep.QuietTactic
import Derived.BigQuiet
import Derived.WalkSmall
namespace Go.Proofs.Ythkkgjoegcbaaaa
open Go.RowKit Go.Maps

def IsStrs (w : World) (a : Option Addr) (len cap : Nat) (Sx : Nat → ByteArray) : Prop :=
  (a = none ∧ len = 0 ∧ cap = 0) ∨ ∃ x, a = some x ∧ len ≤ cap ∧ cap ≤ maxLen ∧ ∀ i, i < len → w.cell? (x.add i) = some (.string (Sx i)) ∧ (Sx i).size ≤ maxLen

/-- The world stands but for draws. -/
def Still (w w' : World) : Prop := ∃ n, w' = w.drewN n
theorem Still.refl (w : World) : Still w w := ⟨0, rfl⟩
theorem Still.cell {w w' : World} (h : Still w w') (a : Addr) : w'.cell? a = w.cell? a := by obtain ⟨n, rfl⟩ := h; rfl
theorem Still.heap {w w' : World} (h : Still w w') : w'.heap = w.heap := by obtain ⟨n, rfl⟩ := h; rfl
theorem Still.drewN {w w' : World} (h : Still w w') (m : Nat) : Still w (w'.drewN m) := by obtain ⟨n, rfl⟩ := h; exact ⟨n + m, by simp⟩
theorem Still.below {w w' : World} (B : Nat) (h : Still w w') : Below B w w' := by obtain ⟨n, rfl⟩ := h; exact below_drewN (Below.refl _ _) n

theorem bytes_ne {t s : ByteArray} (h : t ≠ s) : (t.toList == s.toList) = false := by
  rw [beq_eq_false_iff_ne]
  intro e
  rw [ByteArray.toList_eq, ByteArray.toList_eq] at e
  exact h (ByteArray.ext (Array.toList_inj.1 e))

/-- The round's facts: the table and the law's own row hold the same names, and lie apart. -/
structure Rel (wr w : World) (b : Nat) (v mm : Value) (M : List ByteArray) (ao : Option Addr) (cm : Nat) : Prop where
  tab : Tab wr b v mm M
  own : wr.ownsRow w.heap.size 9 1 (.slice ao M.length cm) M.length (M.map Value.string)
  dis : ∀ g, (Value.slice ao M.length cm).ownBlock = some g → ¬ Foot b v mm g
  bel : Below w.heap.size w wr

theorem Rel.still {wr wr' w : World} {b : Nat} {v mm : Value} {M : List ByteArray} {ao : Option Addr} {cm : Nat} (R : Rel wr w b v mm M ao cm) (h : Still wr wr') : Rel wr' w b v mm M ao cm :=
  ⟨R.tab.kept fun _ _ => by rw [h.heap], ownsRow_same R.own fun _ _ => by rw [h.heap], R.dis, R.bel.trans (h.below _)⟩

theorem own_cell {w : World} {B : Nat} {ao : Option Addr} {cm : Nat} {M : List ByteArray} (h : w.ownsRow B 9 1 (.slice ao M.length cm) M.length (M.map Value.string)) {j : Nat} (hj : j < M.length) :
    ∃ g, ao = some ⟨g, 0, none⟩ ∧ ∀ (i : Nat) (hi : i < M.length), w.cell? ⟨g, i, none⟩ = some (.string M[i]) := by
  rcases h.2 with ⟨_, e⟩ | ⟨g, cap, cur, e, _, hg, _, _, _, ht⟩
  · omega
  · injection e with e _ _
    refine ⟨g, e, fun i hi => ?_⟩
    rw [cell_of_row w g _ cur 9 (0, 0) hg]
    exact len_nat ht hi

theorem pos_take {M : List ByteArray} (ho : Once M) (s : ByteArray) (j : Nat) (hj : j < M.length) : pos (M.take (j + 1)) s = if M[j] = s then j + 1 else pos (M.take j) s := by
  have e : M.take (j + 1) = M.take j ++ [M[j]] := List.take_succ_eq_append_getElem hj
  rw [e]
  split
  · next h =>
    subst h
    have h0 : pos (M.take j) M[j] = 0 := pos_absent _ _ fun i hi => by
      rw [List.getElem?_take] at hi
      split at hi
      · have := ho i j _ hi (List.getElem?_eq_getElem hj)
        omega
      · cases hi
    rw [pos_snoc_same _ _ h0, List.length_take]
    omega
  · next h => exact pos_snoc_other _ _ _ (fun e => h e.symm)

/-- Behind an Intern that took the name: the law's own row stands. -/
theorem Rel.interned {wr w w3 : World} {b : Nat} {v mm v3 m3 : Value} {M : List ByteArray} {ao : Option Addr} {cm : Nat} (R : Rel wr w b v mm M ao cm) (hB : w.heap.size ≤ b)
    (t3 : Touch wr w3 (Foot b v mm)) (hf : ∀ k, Foot b v3 m3 k → Foot b v mm k ∨ wr.heap.size ≤ k) :
    w3.ownsRow w.heap.size 9 1 (.slice ao M.length cm) M.length (M.map Value.string) ∧ (∀ g, (Value.slice ao M.length cm).ownBlock = some g → ¬ Foot b v3 m3 g) ∧ Below w.heap.size w w3 := by
  refine ⟨ownsRow_same R.own fun g hg => t3.block g (R.own.lt g hg).2 (R.dis g hg), fun g hg hF => ?_, R.bel.trans ((touch_below R.tab t3).mono hB)⟩
  rcases hf g hF with h | h
  · exact R.dis g hg h
  · have := (R.own.lt g hg).2
    omega

/-- Behind the law's own append. -/
theorem rel_appended {w w3 w5 : World} {b : Nat} {v3 m3 : Value} {M : List ByteArray} {ao : Option Addr} {cm g cap : Nat} {s : ByteArray} {o : Obj} (T3 : Tab w3 b v3 m3 (M ++ [s])) (hdis : ∀ g, (Value.slice ao M.length cm).ownBlock = some g → ¬ Foot b v3 m3 g) (hb : Below w.heap.size w w3)
    (hown : w3.ownsRow w.heap.size 9 1 (.slice ao M.length cm) M.length (M.map Value.string))
    (hr : w5.ownsRow w.heap.size 9 1 (.slice (some ⟨g, 0, none⟩) (M.length + 1) cap) (M.length + 1) (M.map Value.string ++ [.string s])) (hg : (w3.alloc o).grownBy w5 (Value.slice ao M.length cm).ownBlock) (hgb : (Value.slice ao M.length cm).ownBlock = some g ∨ (w3.alloc o).heap.size ≤ g) :
    Rel w5 w b v3 m3 (M ++ [s]) (some ⟨g, 0, none⟩) cap := by
  refine ⟨T3.kept fun k hk => ?_, by simpa using hr, fun g' hg' hF => ?_, ?_⟩
  · have hlt := (T3.foot hk).2
    rw [hg.block k (by simp; omega) (fun e => hdis k e.symm hk), Below.heap_alloc _ _ _ hlt]
  · have e : g' = g := by simp [Value.ownBlock] at hg'; exact hg'.symm
    subst e
    rcases hgb with h | h
    · exact hdis g' h hF
    · have := (T3.foot hF).2
      simp at h
      omega
  · exact ((hb.alloc hb.size o).grown hg (by have := hb.size; simp; omega) fun k e => (hown.lt k e).1)

end Go.Proofs.Ythkkgjoegcbaaaa
