/- Steps of the law's own rows. -/
import Derived.Test.YtgjnnahflaaagaaDoorPlaysM
import Derived.Deep.RegionLaw
namespace Go.Proofs.YtgjnnahflaaagaaDoor
open Go.RowKit Go.Maps

/-- append to a row of the document's facts that is ours, as one step of a region that draws. -/
theorem step_append_rf (w : World) {ops : Array Oper} {o : Oper} {a : Act} {K : Act → World → Prop} {Q : Exit → Act → World → Prop} {E : Prop}
    (hgd : o.guard = none) (s x : Operand) (hop : o.op = .call { callee := .builtin .append, args := #[s, x], argTypes := #[26, 26] })
    (base : Nat) (v : Value) (n : Nat) (xs : List Value) (hs : a.eval s = v) (hown : w.ownsRow base 34 3 v n xs)
    (ad : Addr) (m c : Nat) (G : List Ft) (hx : a.eval x = .slice (some ad) m c) (hG : G.length = m) (hc : ∀ j u, (ftsC G)[j]? = some u → w.cell? (ad.add j) = some u)
    (hn : n + m ≤ 5000) (hbase : base ≤ w.heap.size)
    (h : ∀ v' w', w'.ownsRow base 34 3 v' (n + m) (xs ++ ftsC G) → w.grownBy w' v.ownBlock → K (a.put o.dst v') w') :
    if Region.wanted o (yielded ops a.tmps) = true then Oper.wp Tryd.prog o a w K Q else E := by
  have hw : Region.wanted o (yielded ops a.tmps) = true := by simp [Region.wanted, hgd]
  rw [if_pos hw]
  obtain ⟨i0, hi, hz0, hz1, hz2⟩ := infoRf'
  exact wp_append_own (P := Tryd.prog) w s x 26 hop base 34 i0 _ 3 48 Tryd.underlying26 hi hz0 hz1 hz2 rfl (by decide) v n xs hs hown ad m c (ftsC G) hx (by rw [ftsC_len, hG]) hc (ftsC_one G) (by unfold maxLen; omega) (by omega) hbase fun v' w' h1 h2 _ => h v' w' h1 h2
theorem erased {w w2 w5 : World} {p j M rn n : Nat} {rv v5 : Value} {R : List Ft} (hR : Rw 34 w2 w.heap.size rv R) (hj : p + 1 = j) (hn : R.length = rn) (hM : rn = M + 1) (hp : p < rn) (hnn : n = M) (hb : Below w2.heap.size w2 w5) (hB : w.heap.size ≤ w2.heap.size)
    (ho : w5.ownsRow w2.heap.size 34 3 v5 n (([] ++ ftsC (R.take p)) ++ ftsC (R.drop j))) : ∃ ro rc, v5 = .slice ro M rc ∧ Rw 34 w5 w.heap.size v5 (R.eraseIdx p) := by
  have hel : (R.eraseIdx p).length = M := by rw [List.length_eraseIdx]; split <;> omega
  rw [List.nil_append, ftsC_app, ← hj, ← List.eraseIdx_eq_take_drop_succ] at ho
  subst hnn
  have hw : Rw 34 w5 w.heap.size v5 (R.eraseIdx p) := by
    refine ⟨?_, fun f hf => (hR.next hb).vals f ((List.eraseIdx_sublist R p).subset hf)⟩
    rw [hel]
    exact own_base ho hB
  obtain ⟨ao, cap, e, _⟩ := hw.slice
  rw [hel] at e
  exact ⟨ao, cap, e, hw⟩
theorem cells_take {w : World} {g N cap : Nat} {B : Nat} {R : List Ft} (h : Rw 34 w B (.slice (some ⟨g, 0, none⟩) N cap) R) (p : Nat) : ∀ j u, (ftsC (R.take p))[j]? = some u → w.cell? ((⟨g, 0, none⟩ : Addr).add j) = some u := by
  intro j u hj
  have hl := (List.getElem?_eq_some_iff.1 hj).1
  rw [← ftsC_take, List.length_take] at hl
  rw [← ftsC_take, List.getElem?_take_of_lt (by omega)] at hj
  exact h.row.cells (g := g) rfl j u hj
theorem cells_drop {w : World} {g N cap : Nat} {B : Nat} {R : List Ft} (h : Rw 34 w B (.slice (some ⟨g, 0, none⟩) N cap) R) (p : Nat) : ∀ j u, (ftsC (R.drop p))[j]? = some u → w.cell? ((⟨g, p * 3, none⟩ : Addr).add j) = some u := by
  intro j u hj
  rw [← ftsC_drop, List.getElem?_drop] at hj
  have := h.row.cells (g := g) rfl (p * 3 + j) u hj
  rw [Addr.add_lit] at this ⊢
  rw [Nat.zero_add] at this
  exact this
end Go.Proofs.YtgjnnahflaaagaaDoor
