/- Rows of values in memory. -/
import Derived.Test.YtfglmfldpmpofaaDoorBtMath
import Derived.Test.YtfglmfldpmpofaaDoorValOf
namespace Go.Proofs.YtfglmfldpmpofaaDoor
open Go.RowKit

/-- A row of values lies behind an address. -/
def IsVals (w : World) (ao : Option Addr) (L : List Val) : Prop :=
  ∀ (j : Nat) (v : Val), L[j]? = some v → ∃ b o, ao = some ⟨b, o, none⟩ ∧ w.cell? ⟨b, o + j * 3, none⟩ = some (.int .i64 v.k) ∧ w.cell? ⟨b, o + j * 3 + 1, none⟩ = some (.int .i64 v.i) ∧ w.cell? ⟨b, o + j * 3 + 2, none⟩ = some (.string v.s)
theorem IsVals.next {w w' : World} {ao : Option Addr} {L : List Val} (h : IsVals w ao L) (hb : Below w.heap.size w w') : IsVals w' ao L := by
  intro j v hj
  obtain ⟨b, o, h0, h1, h2, h3⟩ := h j v hj
  exact ⟨b, o, h0, keep_cell hb h1, keep_cell hb h2, keep_cell hb h3⟩
theorem IsVals.nil (w : World) (ao : Option Addr) : IsVals w ao [] := fun j v hj => by simp at hj
theorem at_cells {w0 wr : World} {B : Nat} {ao : Option Addr} {L : List Val} {n : Nat} {v : Val} (hv : IsVals w0 ao L) (hB : w0.heap.size = B) (hw : Below B w0 wr) (hn : L[n]? = some v) :
    ∃ b o, ao = some ⟨b, o, none⟩ ∧ wr.cell? ⟨b, o + n * 3, none⟩ = some (.int .i64 v.k) ∧ wr.cell? ⟨b, o + n * 3 + 1, none⟩ = some (.int .i64 v.i) ∧ wr.cell? ⟨b, o + n * 3 + 2, none⟩ = some (.string v.s) := by
  subst hB
  exact (hv.next hw) n v hn
theorem first_val {w : World} {ao : Option Addr} {v : Val} {L : List Val} (h : IsVals w ao (v :: L)) : ∃ b o, ao = some ⟨b, o, none⟩ ∧ w.cell? ⟨b, o, none⟩ = some (.int .i64 v.k) ∧ w.cell? ⟨b, o + 1, none⟩ = some (.int .i64 v.i) ∧ w.cell? ⟨b, o + 2, none⟩ = some (.string v.s) := by
  obtain ⟨b, o, rfl, h0, h1, h2⟩ := h 0 v rfl
  exact ⟨b, o, rfl, by simpa using h0, by simpa using h1, by simpa using h2⟩
theorem two_vals {w : World} {ao : Option Addr} {v u : Val} {L : List Val} (h : IsVals w ao (v :: u :: L)) : ∃ b o, ao = some ⟨b, o, none⟩ ∧ w.cell? ⟨b, o, none⟩ = some (.int .i64 v.k) ∧ w.cell? ⟨b, o + 1, none⟩ = some (.int .i64 v.i) ∧ w.cell? ⟨b, o + 2, none⟩ = some (.string v.s) ∧ w.cell? ⟨b, o + 3, none⟩ = some (.int .i64 u.k) ∧ w.cell? ⟨b, o + 4, none⟩ = some (.int .i64 u.i) ∧ w.cell? ⟨b, o + 5, none⟩ = some (.string u.s) := by
  obtain ⟨b, o, rfl, h0, h1, h2⟩ := first_val h
  obtain ⟨b', o', e, k0, k1, k2⟩ := h 1 u rfl
  obtain ⟨rfl, rfl⟩ : b' = b ∧ o' = o := by injection e with h; injection h with h1 h2; exact ⟨h1.symm, h2.symm⟩
  exact ⟨b', o', rfl, h0, h1, h2, by simpa using k0, by simpa using k1, by simpa using k2⟩
theorem allInt_take {L : List Val} {n : Nat} {v : Val} (h : L[n]? = some v) : allInt (L.take (n + 1)) = (allInt (L.take n) && decide (v.k = 1)) := by
  obtain ⟨h1, e1⟩ := List.getElem?_eq_some_iff.1 h
  rw [List.take_succ_eq_append_getElem h1, e1]
  unfold allInt
  rw [List.all_append]
  simp
theorem allInt_no {L : List Val} {n : Nat} (h : allInt (L.take n) = false) : allInt L = false := by
  cases e : allInt L
  · rfl
  · unfold allInt at *
    rw [List.all_eq_true] at e
    rw [List.all_eq_false] at h
    obtain ⟨x, hx, hn⟩ := h
    exact absurd (e x (List.mem_of_mem_take hx)) hn
theorem numsV_get {L : List Val} {n : Nat} {v : Val} (h : L[n]? = some v) : (numsV L)[n]? = some v.i := by unfold numsV; rw [List.getElem?_map, h]; rfl
theorem numsV_len (L : List Val) : (numsV L).length = L.length := by unfold numsV; rw [List.length_map]
end Go.Proofs.YtfglmfldpmpofaaDoor
