/- Rows of tests in memory; patterns, facts as values. -/
import Derived.Test.YtnhbjhdkpbhioaaGreatDoorPtMath
import Derived.Test.YtnhbjhdkpbhioaaGreatDoorG23
namespace Go.Proofs.YtnhbjhdkpbhioaaGreatDoor
open Go.RowKit

/-- A row of tests. -/
def IsTss (w : World) (ao : Option Addr) (L : List Ts) : Prop :=
  ∀ (j : Nat) (t : Ts), L[j]? = some t → ∃ b o, ao = some ⟨b, o, none⟩ ∧ w.cell? ⟨b, o + j * 6, none⟩ = some (.int .i64 (t.p : Int)) ∧ w.cell? ⟨b, o + j * 6 + 1, none⟩ = some (.bool t.n) ∧ w.cell? ⟨b, o + j * 6 + 2, none⟩ = some (.string t.v) ∧ w.cell? ⟨b, o + j * 6 + 3, none⟩ = some (.int .i64 t.k) ∧ w.cell? ⟨b, o + j * 6 + 4, none⟩ = some (.int .i64 t.i) ∧ w.cell? ⟨b, o + j * 6 + 5, none⟩ = some (.string t.s)
theorem IsTss.next {w w' : World} {ao : Option Addr} {L : List Ts} (h : IsTss w ao L) (hb : Below w.heap.size w w') : IsTss w' ao L := by
  intro j v hj
  obtain ⟨b, o, h0, h1, h2, h3, h4, h5, h6⟩ := h j v hj
  exact ⟨b, o, h0, keep_cell hb h1, keep_cell hb h2, keep_cell hb h3, keep_cell hb h4, keep_cell hb h5, keep_cell hb h6⟩
theorem IsTss.nil (w : World) (ao : Option Addr) : IsTss w ao [] := fun j v hj => by simp at hj
theorem IsTss.set {w : World} {R j : Nat} {ao : Option Addr} {L : List Ts} {u : Value} (h : IsTss w ao L) (hR : ∀ b o, ao = some ⟨b, o, none⟩ → b ≠ R) : IsTss (w.setCell ⟨R, j, none⟩ u) ao L := by
  intro i v hi
  obtain ⟨b, o, h0, h1, h2, h3, h4, h5, h6⟩ := h i v hi
  have hb := Below.heap_setCell w ⟨R, j, none⟩ u b (hR b o h0)
  exact ⟨b, o, h0, by rw [World.cell?_of_block (a := ⟨b, _, none⟩) hb]; exact h1, by rw [World.cell?_of_block (a := ⟨b, _, none⟩) hb]; exact h2, by rw [World.cell?_of_block (a := ⟨b, _, none⟩) hb]; exact h3, by rw [World.cell?_of_block (a := ⟨b, _, none⟩) hb]; exact h4, by rw [World.cell?_of_block (a := ⟨b, _, none⟩) hb]; exact h5, by rw [World.cell?_of_block (a := ⟨b, _, none⟩) hb]; exact h6⟩
def tC (t : Ts) : List Value := [.int .i64 (t.p : Int), .bool t.n, .string t.v, .int .i64 t.k, .int .i64 t.i, .string t.s]
def tsV (t : Ts) : Value := .agg #[.int .i64 (t.p : Int), .bool t.n, .string t.v, .int .i64 t.k, .int .i64 t.i, .string t.s]
def tsC (L : List Ts) : List Value := L.flatMap tC
theorem tsC_cons (t : Ts) (L : List Ts) : tsC (t :: L) = tC t ++ tsC L := by unfold tsC; rw [List.flatMap_cons]
theorem tsC_snoc (L : List Ts) (t : Ts) : tsC L ++ tC t = tsC (L ++ [t]) := by unfold tsC; rw [List.flatMap_append]; simp
theorem tsC_len (L : List Ts) : (tsC L).length = L.length * 6 := by
  induction L with
  | nil => rfl
  | cons a r ih => rw [tsC_cons, List.length_append, ih, List.length_cons]; show 6 + _ = _; omega
theorem tss_at : ∀ (L : List Ts) (j q : Nat) (t : Ts), L[j]? = some t → q < 6 → (tsC L)[j * 6 + q]? = (tC t)[q]?
  | [], j, q, t, h, _ => by simp at h
  | a :: r, 0, q, t, h, hq => by
    simp at h; subst h
    rw [tsC_cons, Nat.zero_mul, Nat.zero_add, List.getElem?_append_left (by show q < 6; exact hq)]
  | a :: r, j + 1, q, t, h, hq => by
    rw [tsC_cons, show (j + 1) * 6 + q = 6 + (j * 6 + q) by omega, List.getElem?_append_right (by show 6 ≤ _; omega)]
    show (tsC r)[6 + (j * 6 + q) - 6]? = _
    rw [show 6 + (j * 6 + q) - 6 = j * 6 + q by omega]
    exact tss_at r j q t (by simpa using h) hq
theorem own_tss {w : World} {B T : Nat} {v : Value} {L : List Ts} {n : Nat} (hn : L.length = n) (h : w.ownsRow B T 6 v n (tsC L)) : ∃ ao cap, v = .slice ao n cap ∧ IsTss w ao L ∧ n ≤ cap := by
  subst hn
  rcases h.2 with ⟨rfl, h0⟩ | ⟨g, cap, cur, rfl, _, _, hn, _⟩
  · refine ⟨none, 0, by rw [h0], ?_, by omega⟩
    have e : L = [] := List.eq_nil_of_length_eq_zero h0
    subst e
    intro j t hj; simp at hj
  · refine ⟨_, cap, rfl, fun j t hj => ⟨g, 0, rfl, ?_⟩, hn⟩
    have hjl : j < L.length := (List.getElem?_eq_some_iff.1 hj).1
    have hc : ∀ q, q < 6 → w.cell? ⟨g, j * 6 + q, none⟩ = (tC t)[q]? := fun q hq => by
      rw [h.cellAt (j * 6 + q) (by omega), tss_at L j q t hj hq]
    rw [Nat.zero_add]
    exact ⟨hc 0 (by omega), hc 1 (by omega), hc 2 (by omega), hc 3 (by omega), hc 4 (by omega), hc 5 (by omega)⟩
def zeroTs : Value := .agg #[.int .i64 0, .bool false, .string ⟨#[]⟩, .int .i64 0, .int .i64 0, .string ⟨#[]⟩]
theorem infoTs : (Tryz.prog.info? 88).map (fun i => (i.zero, i.size, i.bytes)) = some (some zeroTs, 6, 64) := by kernel_rfl
theorem infoTs' : ∃ i, Tryz.prog.info? 88 = some i ∧ i.zero = some zeroTs ∧ i.size = 6 ∧ i.bytes = 64 := by
  obtain ⟨i, h, e⟩ := Option.map_eq_some_iff.1 infoTs
  simp only [Prod.mk.injEq] at e
  exact ⟨i, h, e.1, e.2.1, e.2.2⟩
theorem infoRTs : (Tryz.prog.info? 125).map (fun i => (i.zero, i.size, i.bytes)) = some (some zeroTs, 6, 64) := by kernel_rfl
theorem infoRTs' : ∃ i, Tryz.prog.info? 125 = some i ∧ i.zero = some zeroTs ∧ i.size = 6 ∧ i.bytes = 64 := by
  obtain ⟨i, h, e⟩ := Option.map_eq_some_iff.1 infoRTs
  simp only [Prod.mk.injEq] at e
  exact ⟨i, h, e.1, e.2.1, e.2.2⟩
theorem infoBd : (Tryz.prog.info? 91).map (fun i => (i.zero, i.size, i.bytes)) = some (some zeroSl, 4, 48) := by kernel_rfl
theorem infoBd' : ∃ i, Tryz.prog.info? 91 = some i ∧ i.zero = some zeroSl ∧ i.size = 4 ∧ i.bytes = 48 := by
  obtain ⟨i, h, e⟩ := Option.map_eq_some_iff.1 infoBd
  simp only [Prod.mk.injEq] at e
  exact ⟨i, h, e.1, e.2.1, e.2.2⟩
theorem infoRBd : (Tryz.prog.info? 158).map (fun i => (i.zero, i.size, i.bytes)) = some (some zeroSl, 4, 48) := by kernel_rfl
theorem infoRBd' : ∃ i, Tryz.prog.info? 158 = some i ∧ i.zero = some zeroSl ∧ i.size = 4 ∧ i.bytes = 48 := by
  obtain ⟨i, h, e⟩ := Option.map_eq_some_iff.1 infoRBd
  simp only [Prod.mk.injEq] at e
  exact ⟨i, h, e.1, e.2.1, e.2.2⟩
/-- Patterns, facts as values. -/
def ptV (p : Ptn) (ao : Option Addr) (cap : Nat) : Value := .agg #[.string p.t, .slice ao p.l.length cap]
end Go.Proofs.YtnhbjhdkpbhioaaGreatDoor
