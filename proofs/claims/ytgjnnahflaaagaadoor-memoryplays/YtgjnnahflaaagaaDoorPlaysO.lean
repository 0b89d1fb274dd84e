/- What is answered is overwritten: the memory stays. -/
import Derived.Test.YtgjnnahflaaagaaDoorPlaysT
namespace Go.Proofs.YtgjnnahflaaagaaDoor
open Go.RowKit Go.Maps

/-- Cells that may be written: n values of a row from block S on. -/
def OvA (w : World) (S : Nat) (a : Option Addr) (n : Nat) : Prop :=
  ∀ j, j < n → ∃ b o, a = some ⟨b, o, none⟩ ∧ (S ≤ b ∧ Kd w b 32) ∧ (∀ q, w.frozen? ⟨b, q, none⟩ = false) ∧ ∀ r, r < 3 → ∃ x, w.cell? ⟨b, o + j * 3 + r, none⟩ = some x
theorem OvA.of {w : World} {S c : Nat} {a : Option Addr} {L : List Val} (h : ValsAt w S a c L) : OvA w S a L.length := by
  intro j hj
  obtain ⟨b, o, e, h1, h2, h3⟩ := h.vals j _ (List.getElem?_eq_getElem hj)
  refine ⟨b, o, e, h.blk _ e, fun q => h.fz _ e q, fun r hr => ?_⟩
  match r, hr with
  | 0, _ => exact ⟨_, h1⟩
  | 1, _ => exact ⟨_, h2⟩
  | 2, _ => exact ⟨_, h3⟩
theorem OvA.next {w w' : World} {S n : Nat} {a : Option Addr} (h : OvA w S a n) (hb : Below w.heap.size w w') : OvA w' S a n := by
  intro j hj
  obtain ⟨b, o, e, h0, h1, h2⟩ := h j hj
  obtain ⟨x, hx⟩ := h2 0 (by omega)
  refine ⟨b, o, e, ⟨h0.1, h0.2.next hb⟩, fun q => ?_, fun r hr => ?_⟩
  · rw [hb.frozen (p := ⟨b, q, none⟩) (World.block_lt_of_cell? w ⟨b, o + j * 3 + 0, none⟩ hx)]
    exact h1 q
  · obtain ⟨y, hy⟩ := h2 r hr
    exact ⟨y, keep_cell hb hy⟩
theorem cell_set {w : World} {p q : Addr} {u x : Value} (h : w.cell? p = some x) : ∃ y, (w.setCell q u).cell? p = some y := by
  by_cases e : p = q
  · subst e
    exact ⟨u, World.cell?_setCell_same _ _ _ h⟩
  · exact ⟨x, by rw [World.cell?_setCell_other _ _ _ _ (fun h => e h.symm)]; exact h⟩
theorem OvA.set {w : World} {S n c q' : Nat} {a : Option Addr} (h : OvA w S a n) (u : Value) : OvA (w.setCell ⟨q', c, none⟩ u) S a n := by
  intro j hj
  obtain ⟨b, o, e, h0, h1, h2⟩ := h j hj
  refine ⟨b, o, e, ⟨h0.1, h0.2.set _ _⟩, fun q => by rw [World.frozen?_setCell]; exact h1 q, fun r hr => ?_⟩
  obtain ⟨y, hy⟩ := h2 r hr
  exact cell_set hy
/-- What All answered, as it may be overwritten. -/
structure OvW (w0 wq : World) (xv : Value) (G : List Ft) : Prop where
  bel : Below w0.heap.size w0 wq
  x : wq.ownsRow w0.heap.size 44 3 xv G.length (ftsC G)
  ov : ∀ f ∈ G, OvA wq w0.heap.size f.a f.l.length
theorem OvW.next {w0 wq w' : World} {xv : Value} {G : List Ft} (h : OvW w0 wq xv G) (hb : Below wq.heap.size wq w') : OvW w0 w' xv G :=
  ⟨next_trans h.bel hb, own_next h.x hb, fun f hf => (h.ov f hf).next hb⟩
theorem OvW.set {w0 wq : World} {xv : Value} {G : List Ft} (h : OvW w0 wq xv G) {b : Nat} (hb : w0.heap.size ≤ b) (hk : Kd wq b 32) (j : Nat) (u : Value) : OvW w0 (wq.setCell ⟨b, j, none⟩ u) xv G :=
  ⟨h.bel.setCell (p := ⟨b, j, none⟩) hb u, own_keep h.x fun k hk2 => Below.heap_setCell _ _ _ _ (fun e => by
    have h1 := Kd.own h.x hk2
    have e' : k = b := e
    subst e'
    exact absurd (h1.uniq hk) (by decide)), fun f hf => (h.ov f hf).set u⟩
theorem OvW.at {w0 wq : World} {ao : Option Addr} {n cap : Nat} {G : List Ft} (h : OvW w0 wq (.slice ao n cap) G) {j : Nat} {f : Ft} (hj : G[j]? = some f) :
    ∃ g, ao = some ⟨g, 0, none⟩ ∧ wq.cell? ⟨g, j * 3 + 2, none⟩ = some (.slice f.a f.l.length f.c) ∧ Kd wq g 44 := by
  have hl : j < G.length := (List.getElem?_eq_some_iff.1 hj).1
  rcases h.x.2 with ⟨e, h0⟩ | ⟨g, cap', cur, e, _⟩
  · omega
  · injection e with e1 e2 e3
    subst e1 e2 e3
    refine ⟨g, rfl, ?_, Kd.own h.x rfl⟩
    rw [h.x.cellAt (j * 3 + 2) (by omega), fts_at G j 2 f hj (by omega)]
    rfl
end Go.Proofs.YtgjnnahflaaagaaDoor
