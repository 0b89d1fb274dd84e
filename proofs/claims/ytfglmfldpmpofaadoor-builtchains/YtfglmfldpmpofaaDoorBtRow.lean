/- Rows of values that a call makes: literals, appends. -/
import Derived.Test.YtfglmfldpmpofaaDoorBtRef1
import Derived.Laws.OwnMore
import Derived.Laws.AppendOwn
namespace Go.Proofs.YtfglmfldpmpofaaDoor
open Go.RowKit

def vC (v : Val) : List Value := [.int .i64 v.k, .int .i64 v.i, .string v.s]
def valsC (L : List Val) : List Value := L.flatMap vC
theorem valsC_cons (v : Val) (L : List Val) : valsC (v :: L) = vC v ++ valsC L := by unfold valsC; rw [List.flatMap_cons]
theorem valsC_snoc (L : List Val) (v : Val) : valsC L ++ vC v = valsC (L ++ [v]) := by unfold valsC; rw [List.flatMap_append]; simp
theorem valsC_app (L M : List Val) : valsC L ++ valsC M = valsC (L ++ M) := by unfold valsC; rw [List.flatMap_append]
theorem valsC_len (L : List Val) : (valsC L).length = L.length * 3 := by
  induction L with
  | nil => rfl
  | cons v L ih => rw [valsC_cons, List.length_append, ih, List.length_cons]; show 3 + _ = _; omega
theorem valsC_one : ∀ (L : List Val), ∀ u ∈ valsC L, u.oneCell' = true
  | [], u, h => by simp [valsC] at h
  | v :: L, u, h => by
    rw [valsC_cons, List.mem_append] at h
    rcases h with h | h
    · simp [vC] at h
      rcases h with rfl | rfl | rfl <;> rfl
    · exact valsC_one L u h
theorem vals_at : ∀ (L : List Val) (j q : Nat) (t : Val), L[j]? = some t → q < 3 → (valsC L)[j * 3 + q]? = (vC t)[q]?
  | [], j, q, t, h, _ => by simp at h
  | x :: r, 0, q, t, h, hq => by
    simp at h
    subst h
    have hl : (vC x).length = 3 := rfl
    rw [Nat.zero_mul, Nat.zero_add, valsC_cons, List.getElem?_append_left (by omega)]
  | x :: r, j + 1, q, t, h, hq => by
    rw [List.getElem?_cons_succ] at h
    have hl : (vC x).length = 3 := rfl
    rw [valsC_cons, List.getElem?_append_right (by omega), hl, show (j + 1) * 3 + q - 3 = j * 3 + q by omega]
    exact vals_at r j q t h hq
theorem own_vals {w : World} {B T : Nat} {v : Value} {L : List Val} {n : Nat} (hn : L.length = n) (h : w.ownsRow B T 3 v n (valsC L)) : ∃ ao cap, v = .slice ao n cap ∧ IsVals w ao L ∧ (ao = none → cap = 0) := by
  subst hn
  rcases h.2 with ⟨rfl, h0⟩ | ⟨g, cap, cur, rfl, _, _, _⟩
  · refine ⟨none, 0, by rw [h0], ?_, fun _ => rfl⟩
    have e : L = [] := List.eq_nil_of_length_eq_zero h0
    subst e
    intro j t hj; simp at hj
  · refine ⟨_, cap, rfl, fun j t hj => ⟨g, 0, rfl, ?_⟩, fun h => by cases h⟩
    have hjl : j < L.length := (List.getElem?_eq_some_iff.1 hj).1
    have hc : ∀ q, q < 3 → w.cell? ⟨g, j * 3 + q, none⟩ = (vC t)[q]? := fun q hq => by
      rw [h.cellAt (j * 3 + q) (by omega), vals_at L j q t hj hq]
    rw [Nat.zero_add]
    exact ⟨hc 0 (by omega), hc 1 (by omega), hc 2 (by omega)⟩
/-- The cells of a row of values, one behind the other. -/
theorem cells_vals {w : World} {b o : Nat} {L : List Val} (h : IsVals w (some ⟨b, o, none⟩) L) : ∀ j u, (valsC L)[j]? = some u → w.cell? ((⟨b, o, none⟩ : Addr).add j) = some u := by
  intro j u hj
  have hl := (List.getElem?_eq_some_iff.1 hj).1
  rw [valsC_len] at hl
  obtain ⟨q, r, hr, rfl⟩ : ∃ q r, r < 3 ∧ j = q * 3 + r := ⟨j / 3, j % 3, by omega, by omega⟩
  have hq : q < L.length := by omega
  have hv : L[q]? = some L[q] := List.getElem?_eq_getElem hq
  obtain ⟨b', o', e, c0, c1, c2⟩ := h q _ hv
  obtain ⟨rfl, rfl⟩ : b' = b ∧ o' = o := by injection e with h; injection h with h1 h2; exact ⟨h1.symm, h2.symm⟩
  rw [vals_at L q r _ hv hr] at hj
  have hadd : (⟨b', o', none⟩ : Addr).add (q * 3 + r) = ⟨b', o' + q * 3 + r, none⟩ := by unfold Addr.add; split <;> simp_all <;> omega
  rw [hadd]
  match r, hr, hj with
  | 0, _, hj => simp [vC] at hj; rw [← hj]; exact c0
  | 1, _, hj => simp [vC] at hj; rw [← hj]; exact c1
  | 2, _, hj => simp [vC] at hj; rw [← hj]; exact c2
theorem infoVal : (Tryd.prog.info? 26).map (fun i => (i.zero, i.size, i.bytes)) = some (some (.agg #[.int .i64 (0), .int .i64 (0), .string (⟨#[]⟩)]), 3, 32) := by kernel_rfl
theorem infoVal' : ∃ i, Tryd.prog.info? 26 = some i ∧ i.zero = some (.agg #[.int .i64 (0), .int .i64 (0), .string (⟨#[]⟩)]) ∧ i.size = 3 ∧ i.bytes = 32 := by
  obtain ⟨i, h, e⟩ := Option.map_eq_some_iff.1 infoVal
  simp only [Prod.mk.injEq] at e
  exact ⟨i, h, e.1, e.2.1, e.2.2⟩
/-- A row behind a row of the call's own. -/
theorem append_vals {w : World} {base n : Nat} {v : Value} {xs : List Value} {ao : Option Addr} {N cap : Nat} {L : List Val} (hown : w.ownsRow base 26 3 v n xs) (hN : L.length = N) (hv : IsVals w ao L) (hc : ao = none → N = 0 ∧ cap = 0) (hn : n ≤ 1000) (hN2 : N ≤ 1000) (hb : base ≤ w.heap.size) :
    ∃ v' w', (Builtin.append_ #[22, 22] 22 #[v, .slice ao N cap]).run Tryd.prog w = .ok v' w' ∧ w'.ownsRow base 26 3 v' (n + N) (xs ++ valsC L) ∧ w.grownBy w' v.ownBlock := by
  obtain ⟨i0, hi, hz0, hz1, hz2⟩ := infoVal'
  cases ao with
  | none =>
    obtain ⟨rfl, rfl⟩ := hc rfl
    have e : L = [] := List.eq_nil_of_length_eq_zero hN
    subst e
    refine ⟨v, w, run_append_owned_none w base 22 22 26 i0 3 Tryd.underlying22 hi v n xs hown, ?_, World.grownBy.refl _ _⟩
    show w.ownsRow base 26 3 v n (xs ++ [])
    rw [List.append_nil]
    exact hown
  | some a =>
    have hcell : ∀ j u, (valsC L)[j]? = some u → w.cell? (a.add j) = some u := by
      cases L with
      | nil => intro j u hj; simp [valsC] at hj
      | cons v0 L0 =>
        obtain ⟨b, o, e, _⟩ := hv 0 v0 rfl
        obtain rfl : a = ⟨b, o, none⟩ := Option.some.inj e
        exact cells_vals hv
    obtain ⟨v', w', h1, h2, h3, _⟩ := run_append_own (P := Tryd.prog) w base 22 22 26 i0 (.agg #[.int .i64 (0), .int .i64 (0), .string (⟨#[]⟩)]) 3 32 Tryd.underlying22 hi hz0 hz1 hz2 rfl (by decide) v n xs hown a N cap (valsC L) (by rw [valsC_len, hN]) hcell (valsC_one L) (by unfold maxLen; omega) (by omega) hb
    exact ⟨v', w', h1, h2, h3⟩
end Go.Proofs.YtfglmfldpmpofaaDoor
