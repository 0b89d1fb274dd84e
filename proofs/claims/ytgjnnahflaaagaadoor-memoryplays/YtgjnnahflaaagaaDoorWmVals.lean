/- Rows of values in memory: literals, appends, copies; a row's block by its kind. -/
import Derived.Test.YtgjnnahflaaagaaDoorWmMath
import Derived.Test.YtgjnnahflaaagaaDoorValRows
import Derived.Test.YtgjnnahflaaagaaDoorKeep
import Derived.Laws.OwnMore
import Derived.Laws.AppendOwn
import Derived.Lib.OwnKind
import Derived.Deep.OwnRows
namespace Go.Proofs.YtgjnnahflaaagaaDoor
open Go.RowKit

def vC (v : Val) : List Value := [.int .i64 v.k, .int .i64 v.i, .string v.s]
def valsC (L : List Val) : List Value := L.flatMap vC
theorem valsC_cons (v : Val) (L : List Val) : valsC (v :: L) = vC v ++ valsC L := by unfold valsC; rw [List.flatMap_cons]
theorem valsC_snoc (L : List Val) (v : Val) : valsC L ++ vC v = valsC (L ++ [v]) := by unfold valsC; rw [List.flatMap_append]; simp
theorem valsC_app (L M : List Val) : valsC L ++ valsC M = valsC (L ++ M) := by unfold valsC; rw [List.flatMap_append]
theorem valsC_len (L : List Val) : (valsC L).length = L.length * 3 := by
  induction L with
  | nil => rfl
  | cons v L ih => rw [valsC_cons, List.length_append, ih, List.length_cons]; show 3 + _ = _; omega
theorem valsC_one : ∀ (L : List Val), ∀ u ∈ valsC L, u.oneCell' = true
  | [], u, h => by simp [valsC] at h
  | v :: L, u, h => by
    rw [valsC_cons, List.mem_append] at h
    rcases h with h | h
    · simp [vC] at h
      rcases h with rfl | rfl | rfl <;> rfl
    · exact valsC_one L u h
theorem vals_at : ∀ (L : List Val) (j q : Nat) (t : Val), L[j]? = some t → q < 3 → (valsC L)[j * 3 + q]? = (vC t)[q]?
  | [], j, q, t, h, _ => by simp at h
  | x :: r, 0, q, t, h, hq => by
    simp at h
    subst h
    have hl : (vC x).length = 3 := rfl
    rw [Nat.zero_mul, Nat.zero_add, valsC_cons, List.getElem?_append_left (by omega)]
  | x :: r, j + 1, q, t, h, hq => by
    rw [List.getElem?_cons_succ] at h
    have hl : (vC x).length = 3 := rfl
    rw [valsC_cons, List.getElem?_append_right (by omega), hl, show (j + 1) * 3 + q - 3 = j * 3 + q by omega]
    exact vals_at r j q t h hq
theorem own_vals {w : World} {B T : Nat} {v : Value} {L : List Val} {n : Nat} (hn : L.length = n) (h : w.ownsRow B T 3 v n (valsC L)) : ∃ ao cap, v = .slice ao n cap ∧ IsVals w ao L ∧ (ao = none → cap = 0) := by
  subst hn
  rcases h.2 with ⟨rfl, h0⟩ | ⟨g, cap, cur, rfl, _, _, _⟩
  · refine ⟨none, 0, by rw [h0], ?_, fun _ => rfl⟩
    have e : L = [] := List.eq_nil_of_length_eq_zero h0
    subst e
    intro j t hj; simp at hj
  · refine ⟨_, cap, rfl, fun j t hj => ⟨g, 0, rfl, ?_⟩, fun h => by cases h⟩
    have hjl : j < L.length := (List.getElem?_eq_some_iff.1 hj).1
    have hc : ∀ q, q < 3 → w.cell? ⟨g, j * 3 + q, none⟩ = (vC t)[q]? := fun q hq => by
      rw [h.cellAt (j * 3 + q) (by omega), vals_at L j q t hj hq]
    rw [Nat.zero_add]
    exact ⟨hc 0 (by omega), hc 1 (by omega), hc 2 (by omega)⟩
/-- The cells of a row of values, one behind the other. -/
theorem cells_vals {w : World} {b o : Nat} {L : List Val} (h : IsVals w (some ⟨b, o, none⟩) L) : ∀ j u, (valsC L)[j]? = some u → w.cell? ((⟨b, o, none⟩ : Addr).add j) = some u := by
  intro j u hj
  have hl := (List.getElem?_eq_some_iff.1 hj).1
  rw [valsC_len] at hl
  obtain ⟨q, r, hr, rfl⟩ : ∃ q r, r < 3 ∧ j = q * 3 + r := ⟨j / 3, j % 3, by omega, by omega⟩
  have hq : q < L.length := by omega
  have hv : L[q]? = some L[q] := List.getElem?_eq_getElem hq
  obtain ⟨b', o', e, c0, c1, c2⟩ := h q _ hv
  obtain ⟨rfl, rfl⟩ : b' = b ∧ o' = o := by injection e with h; injection h with h1 h2; exact ⟨h1.symm, h2.symm⟩
  rw [vals_at L q r _ hv hr] at hj
  have hadd : (⟨b', o', none⟩ : Addr).add (q * 3 + r) = ⟨b', o' + q * 3 + r, none⟩ := by unfold Addr.add; split <;> simp_all <;> omega
  rw [hadd]
  match r, hr, hj with
  | 0, _, hj => simp [vC] at hj; rw [← hj]; exact c0
  | 1, _, hj => simp [vC] at hj; rw [← hj]; exact c1
  | 2, _, hj => simp [vC] at hj; rw [← hj]; exact c2
theorem infoVal : (Tryd.prog.info? 32).map (fun i => (i.zero, i.size, i.bytes)) = some (some (.agg #[.int .i64 (0), .int .i64 (0), .string (⟨#[]⟩)]), 3, 32) := by kernel_rfl
theorem infoVal' : ∃ i, Tryd.prog.info? 32 = some i ∧ i.zero = some (.agg #[.int .i64 (0), .int .i64 (0), .string (⟨#[]⟩)]) ∧ i.size = 3 ∧ i.bytes = 32 := by
  obtain ⟨i, h, e⟩ := Option.map_eq_some_iff.1 infoVal
  simp only [Prod.mk.injEq] at e
  exact ⟨i, h, e.1, e.2.1, e.2.2⟩
/-- A row behind a row of the call's own. -/
theorem append_vals {w : World} {base n : Nat} {v : Value} {xs : List Value} {ao : Option Addr} {N cap : Nat} {L : List Val} (hown : w.ownsRow base 32 3 v n xs) (hN : L.length = N) (hv : IsVals w ao L) (hc : ao = none → N = 0 ∧ cap = 0) (hn : n ≤ 1000) (hN2 : N ≤ 1000) (hb : base ≤ w.heap.size) :
    ∃ v' w', (Builtin.append_ #[27, 27] 27 #[v, .slice ao N cap]).run Tryd.prog w = .ok v' w' ∧ w'.ownsRow base 32 3 v' (n + N) (xs ++ valsC L) ∧ w.grownBy w' v.ownBlock := by
  obtain ⟨i0, hi, hz0, hz1, hz2⟩ := infoVal'
  cases ao with
  | none =>
    obtain ⟨rfl, rfl⟩ := hc rfl
    have e : L = [] := List.eq_nil_of_length_eq_zero hN
    subst e
    refine ⟨v, w, run_append_owned_none w base 27 27 32 i0 3 Tryd.underlying27 hi v n xs hown, ?_, World.grownBy.refl _ _⟩
    show w.ownsRow base 32 3 v n (xs ++ [])
    rw [List.append_nil]
    exact hown
  | some a =>
    have hcell : ∀ j u, (valsC L)[j]? = some u → w.cell? (a.add j) = some u := by
      cases L with
      | nil => intro j u hj; simp [valsC] at hj
      | cons v0 L0 =>
        obtain ⟨b, o, e, _⟩ := hv 0 v0 rfl
        obtain rfl : a = ⟨b, o, none⟩ := Option.some.inj e
        exact cells_vals hv
    obtain ⟨v', w', h1, h2, h3, _⟩ := run_append_own (P := Tryd.prog) w base 27 27 32 i0 (.agg #[.int .i64 (0), .int .i64 (0), .string (⟨#[]⟩)]) 3 32 Tryd.underlying27 hi hz0 hz1 hz2 rfl (by decide) v n xs hown a N cap (valsC L) (by rw [valsC_len, hN]) hcell (valsC_one L) (by unfold maxLen; omega) (by omega) hb
    exact ⟨v', w', h1, h2, h3⟩

/-- What lies in a block is of this kind. -/
def Kd (w : World) (k T : Nat) : Prop := ∃ c fz, w.heap[k]? = some (.cells c T fz)
theorem Kd.lt {w : World} {k T : Nat} (h : Kd w k T) : k < w.heap.size := by
  obtain ⟨c, fz, h⟩ := h
  exact (Array.getElem?_eq_some_iff.1 h).1
theorem Kd.keep {w w' : World} {k T : Nat} (h : Kd w k T) (e : w'.heap[k]? = w.heap[k]?) : Kd w' k T := by
  obtain ⟨c, fz, h⟩ := h
  exact ⟨c, fz, by rw [e]; exact h⟩
theorem Kd.uniq {w : World} {k T T' : Nat} (h : Kd w k T) (h' : Kd w k T') : T = T' := by
  obtain ⟨c, fz, h⟩ := h
  obtain ⟨c', fz', h'⟩ := h'
  rw [h] at h'
  injection h' with h'
  injection h' with _ h' _
theorem Kd.own {w : World} {B e size n k : Nat} {v : Value} {xs : List Value} (h : w.ownsRow B e size v n xs) (hk : v.ownBlock = some k) : Kd w k e := Lib.ownsRow_kind h k hk

/-- A block of cells of one type that is not frozen. -/
def Bk (w : World) (b T : Nat) (c : Array Value) : Prop := w.heap[b]? = some (.cells c T (0, 0))
theorem Bk.kd {w : World} {b T : Nat} {c : Array Value} (h : Bk w b T c) : Kd w b T := ⟨c, _, h⟩
theorem Bk.lt {w : World} {b T : Nat} {c : Array Value} (h : Bk w b T c) : b < w.heap.size := h.kd.lt
theorem Bk.cell {w : World} {b T : Nat} {c : Array Value} (h : Bk w b T c) (j : Nat) : w.cell? ⟨b, j, none⟩ = c[j]? := by unfold World.cell?; rw [h]; rfl
theorem Bk.froz {w : World} {b T : Nat} {c : Array Value} (h : Bk w b T c) (j : Nat) : w.frozen? ⟨b, j, none⟩ = false := Lib.frozen_of_heap h j
theorem Bk.keep {w w' : World} {b T : Nat} {c : Array Value} (h : Bk w b T c) (e : w'.heap[b]? = w.heap[b]?) : Bk w' b T c := e.trans h
theorem Bk.next {w w' : World} {b T : Nat} {c : Array Value} (h : Bk w b T c) (hb : Below w.heap.size w w') : Bk w' b T c := h.keep (hb.block b h.lt)
theorem Bk.made (w : World) (T : Nat) (c : Array Value) : Bk (w.alloc (.cells c T)) w.heap.size T c := by show (w.heap.push _)[w.heap.size]? = _; rw [Array.getElem?_push_size]
theorem Bk.made' {w w' : World} {T b : Nat} {c : Array Value} (he : w.alloc (.cells c T) = w') (hb : w.heap.size = b) : Bk w' b T c := by subst he hb; exact Bk.made w T c
theorem Bk.set {w : World} {b T : Nat} {c : Array Value} (h : Bk w b T c) (j : Nat) (u : Value) : Bk (w.setCell ⟨b, j, none⟩ u) b T (c.setIfInBounds j u) := by
  unfold Bk at *
  simp [World.setCell, Array.getElem?_modify, h]
theorem Bk.off {w : World} {b k T : Nat} {c : Array Value} (h : Bk w b T c) (hn : b ≠ k) (j : Nat) (u : Value) : Bk (w.setCell ⟨k, j, none⟩ u) b T c := h.keep (Below.heap_setCell _ _ _ _ hn)
theorem alloc_below (w : World) (o : Obj) : Below w.heap.size w (w.alloc o) := (Below.refl _ _).alloc (Nat.le_refl _) _
theorem next_trans {w w1 w2 : World} (h : Below w.heap.size w w1) (h2 : Below w1.heap.size w1 w2) : Below w.heap.size w w2 := below_next h h2 h.size
theorem below_drawn {B : Nat} {w w1 : World} (h : Below B w w1) (n : Nat) : Below B w (w1.drewN n) := ⟨h.os, h.tape, h.output, h.size, h.block⟩
theorem below_undrawn {B : Nat} {w w1 : World} (h : Below B w.drew w1) : Below B w w1 := ⟨h.os, h.tape, h.output, h.size, h.block⟩
theorem IsVals.keep {w w' : World} {ao : Option Addr} {L : List Val} (h : IsVals w ao L) (e : ∀ x, ao = some x → w'.heap[x.block]? = w.heap[x.block]?) : IsVals w' ao L := by
  intro j v hj
  obtain ⟨b, o, h0, h1, h2, h3⟩ := h j v hj
  have hb : w'.heap[b]? = w.heap[b]? := e _ h0
  exact ⟨b, o, h0, (World.cell?_of_block (a := ⟨b, o + j * 3, none⟩) hb).trans h1, (World.cell?_of_block (a := ⟨b, o + j * 3 + 1, none⟩) hb).trans h2, (World.cell?_of_block (a := ⟨b, o + j * 3 + 2, none⟩) hb).trans h3⟩
theorem IsVals.nil (w : World) (ao : Option Addr) : IsVals w ao [] := fun j v hj => by simp at hj

/-- Values in memory that is ours, from block B on. -/
structure ValsAt (w : World) (B : Nat) (a : Option Addr) (c : Nat) (L : List Val) : Prop where
  vals : IsVals w a L
  nil : a = none → L = [] ∧ c = 0
  blk : ∀ x, a = some x → B ≤ x.block ∧ Kd w x.block 32
  fz : ∀ x, a = some x → ∀ j, w.frozen? ⟨x.block, j, none⟩ = false
theorem ValsAt.keep {w w' : World} {B c : Nat} {a : Option Addr} {L : List Val} (h : ValsAt w B a c L) (e : ∀ x, a = some x → w'.heap[x.block]? = w.heap[x.block]?) : ValsAt w' B a c L :=
  ⟨h.vals.keep e, h.nil, fun x hx => ⟨(h.blk x hx).1, (h.blk x hx).2.keep (e x hx)⟩, fun x hx j => (World.frozen?_of_block (a := ⟨x.block, j, none⟩) (e x hx)).trans (h.fz x hx j)⟩
theorem ValsAt.next {w w' : World} {B c : Nat} {a : Option Addr} {L : List Val} (h : ValsAt w B a c L) (hb : Below w.heap.size w w') : ValsAt w' B a c L := h.keep fun x hx => hb.block _ (h.blk x hx).2.lt
theorem Kd.set {w : World} {k T q : Nat} (h : Kd w k T) (j : Nat) (u : Value) : Kd (w.setCell ⟨q, j, none⟩ u) k T := by
  by_cases e : k = q
  · obtain ⟨c, fz, h⟩ := h
    subst e
    exact ⟨c.setIfInBounds j u, fz, by simp [World.setCell, Array.getElem?_modify, h]⟩
  · exact h.keep (Below.heap_setCell _ _ _ _ e)
theorem Kd.next {w w' : World} {k T : Nat} (h : Kd w k T) (hb : Below w.heap.size w w') : Kd w' k T := h.keep (hb.block k h.lt)
theorem ValsAt.set {w : World} {B c k T : Nat} {a : Option Addr} {L : List Val} (h : ValsAt w B a c L) (hk : Kd w k T) (hT : T ≠ 32) (j : Nat) (u : Value) : ValsAt (w.setCell ⟨k, j, none⟩ u) B a c L :=
  h.keep fun x hx => Below.heap_setCell _ _ _ _ (fun e => hT (by have := (h.blk x hx).2; rw [e] at this; exact hk.uniq this))
theorem ValsAt.base {w : World} {B B' c : Nat} {a : Option Addr} {L : List Val} (h : ValsAt w B a c L) (hB : B' ≤ B) : ValsAt w B' a c L :=
  ⟨h.vals, h.nil, fun x hx => ⟨Nat.le_trans hB (h.blk x hx).1, (h.blk x hx).2⟩, h.fz⟩
theorem ValsAt.none (w : World) (B : Nat) : ValsAt w B none 0 [] := ⟨IsVals.nil _ _, fun _ => ⟨rfl, rfl⟩, (fun x h => by cases h), (fun x h => by cases h)⟩
theorem ValsAt.own {w : World} {B n : Nat} {v : Value} {L : List Val} (hn : L.length = n) (h : w.ownsRow B 32 3 v n (valsC L)) : ∃ ao cap, v = .slice ao n cap ∧ ValsAt w B ao cap L := by
  obtain ⟨ao, cap, rfl, hv, hc⟩ := own_vals hn h
  refine ⟨ao, cap, rfl, hv, fun e => ⟨?_, hc e⟩, ?_, ?_⟩
  · subst e
    cases L with
    | nil => rfl
    | cons v0 L0 => obtain ⟨b, o, e, _⟩ := hv 0 v0 rfl; cases e
  · intro x hx
    subst hx
    exact ⟨(h.lt x.block rfl).1, Kd.own h rfl⟩
  · intro x hx j
    subst hx
    rcases h.2 with ⟨e, _⟩ | ⟨g, cap', cur, e, _, hg, _⟩
    · cases e
    · injection e with e1 _ _
      obtain rfl := Option.some.inj e1
      exact Lib.frozen_of_heap hg j

/-- A row of facts of a type T, as cells. -/
def ftC (f : Ft) : List Value := [.int .i64 f.id, .string f.t, .slice f.a f.l.length f.c]
def ftV (f : Ft) : Value := .agg #[.int .i64 f.id, .string f.t, .slice f.a f.l.length f.c]
def ftsC (L : List Ft) : List Value := L.flatMap ftC
theorem ftsC_cons (f : Ft) (L : List Ft) : ftsC (f :: L) = ftC f ++ ftsC L := by unfold ftsC; rw [List.flatMap_cons]
theorem ftsC_snoc (L : List Ft) (f : Ft) : ftsC L ++ ftC f = ftsC (L ++ [f]) := by unfold ftsC; rw [List.flatMap_append]; simp
theorem ftsC_app (L M : List Ft) : ftsC L ++ ftsC M = ftsC (L ++ M) := by unfold ftsC; rw [List.flatMap_append]
theorem ftsC_len (L : List Ft) : (ftsC L).length = L.length * 3 := by
  induction L with
  | nil => rfl
  | cons v L ih => rw [ftsC_cons, List.length_append, ih, List.length_cons]; show 3 + _ = _; omega
theorem ftsC_one : ∀ (L : List Ft), ∀ u ∈ ftsC L, u.oneCell' = true
  | [], u, h => by simp [ftsC] at h
  | v :: L, u, h => by
    rw [ftsC_cons, List.mem_append] at h
    rcases h with h | h
    · simp [ftC] at h
      rcases h with rfl | rfl | rfl <;> rfl
    · exact ftsC_one L u h
theorem fts_at : ∀ (L : List Ft) (j q : Nat) (t : Ft), L[j]? = some t → q < 3 → (ftsC L)[j * 3 + q]? = (ftC t)[q]?
  | [], j, q, t, h, _ => by simp at h
  | x :: r, 0, q, t, h, hq => by
    simp at h
    subst h
    have hl : (ftC x).length = 3 := rfl
    rw [Nat.zero_mul, Nat.zero_add, ftsC_cons, List.getElem?_append_left (by omega)]
  | x :: r, j + 1, q, t, h, hq => by
    rw [List.getElem?_cons_succ] at h
    have hl : (ftC x).length = 3 := rfl
    rw [ftsC_cons, List.getElem?_append_right (by omega), hl, show (j + 1) * 3 + q - 3 = j * 3 + q by omega]
    exact fts_at r j q t h hq
theorem ftsC_take (L : List Ft) (p : Nat) : (ftsC L).take (p * 3) = ftsC (L.take p) := by
  induction L generalizing p with
  | nil => simp [ftsC]
  | cons f r ih =>
    cases p with
    | zero => simp [ftsC]
    | succ p =>
      rw [List.take_succ_cons, ftsC_cons, ftsC_cons, List.take_append, List.take_of_length_le (show (ftC f).length ≤ (p + 1) * 3 by show 3 ≤ _; omega), show (p + 1) * 3 - (ftC f).length = p * 3 by show (p + 1) * 3 - 3 = _; omega, ih]
theorem ftsC_drop (L : List Ft) (p : Nat) : (ftsC L).drop (p * 3) = ftsC (L.drop p) := by
  induction L generalizing p with
  | nil => simp [ftsC]
  | cons f r ih =>
    cases p with
    | zero => simp
    | succ p =>
      rw [List.drop_succ_cons, ftsC_cons, List.drop_append, List.drop_eq_nil_of_le (show (ftC f).length ≤ (p + 1) * 3 by show 3 ≤ _; omega), List.nil_append, show (p + 1) * 3 - (ftC f).length = p * 3 by show (p + 1) * 3 - 3 = _; omega, ih]
/-- Facts of a type T that are ours, from block B on, the values too. -/
structure Rw (T : Nat) (w : World) (B : Nat) (v : Value) (F : List Ft) : Prop where
  row : w.ownsRow B T 3 v F.length (ftsC F)
  vals : ∀ f ∈ F, ValsAt w B f.a f.c f.l
theorem Rw.nil (T : Nat) (w : World) (B : Nat) : Rw T w B (.slice none 0 0) [] := ⟨World.ownsRow_nil _ _ _ _, fun f h => by simp at h⟩
theorem own_keep {w w' : World} {base : Nat} {e : TypeId} {size : Nat} {v : Value} {n : Nat} {xs : List Value} (h : w.ownsRow base e size v n xs) (hs : ∀ k, v.ownBlock = some k → w'.heap[k]? = w.heap[k]?) : w'.ownsRow base e size v n xs := by
  refine ⟨h.1, ?_⟩
  rcases h.2 with hn | ⟨g, cap, cur, rfl, hb, hgg, rest⟩
  · exact .inl hn
  · exact .inr ⟨g, cap, cur, rfl, hb, (hs g rfl).trans hgg, rest⟩
theorem own_base {w : World} {base base' : Nat} {e : TypeId} {size : Nat} {v : Value} {n : Nat} {xs : List Value} (h : w.ownsRow base e size v n xs) (hs : base' ≤ base) : w.ownsRow base' e size v n xs := by
  refine ⟨h.1, ?_⟩
  rcases h.2 with hn | ⟨g, cap, cur, rfl, hb, rest⟩
  · exact .inl hn
  · exact .inr ⟨g, cap, cur, rfl, by omega, rest⟩
theorem own_next {w w' : World} {B e size n : Nat} {v : Value} {xs : List Value} (h : w.ownsRow B e size v n xs) (hb : Below w.heap.size w w') : w'.ownsRow B e size v n xs :=
  own_keep h fun k hk => hb.block k (h.lt k hk).2
theorem Rw.keep {T : Nat} {w w' : World} {B : Nat} {v : Value} {F : List Ft} (h : Rw T w B v F) (e1 : ∀ k, v.ownBlock = some k → w'.heap[k]? = w.heap[k]?) (e2 : ∀ k, Kd w k 32 → w'.heap[k]? = w.heap[k]?) : Rw T w' B v F :=
  ⟨own_keep h.row e1, fun f hf => (h.vals f hf).keep fun x hx => e2 _ ((h.vals f hf).blk x hx).2⟩
theorem Rw.next {T : Nat} {w w' : World} {B : Nat} {v : Value} {F : List Ft} (h : Rw T w B v F) (hb : Below w.heap.size w w') : Rw T w' B v F :=
  h.keep (fun k hk => hb.block k (h.row.lt k hk).2) (fun k hk => hb.block k hk.lt)
theorem Rw.base {T : Nat} {w : World} {B B' : Nat} {v : Value} {F : List Ft} (h : Rw T w B v F) (hB : B' ≤ B) : Rw T w B' v F := ⟨own_base h.row hB, fun f hf => (h.vals f hf).base hB⟩
theorem Rw.slice {T : Nat} {w : World} {B : Nat} {v : Value} {F : List Ft} (h : Rw T w B v F) : ∃ ao cap, v = .slice ao F.length cap ∧ F.length ≤ cap ∧ (F ≠ [] → ∃ g, ao = some ⟨g, 0, none⟩) := by
  rcases h.row.2 with ⟨rfl, h0⟩ | ⟨g, cap, cur, rfl, _, _, hn, _⟩
  · exact ⟨none, 0, by rw [h0], by omega, fun hne => absurd (List.eq_nil_of_length_eq_zero h0) hne⟩
  · exact ⟨_, cap, rfl, hn, fun _ => ⟨g, rfl⟩⟩
/-- The cells of one fact of a row. -/
theorem Rw.at {T : Nat} {w : World} {B : Nat} {ao : Option Addr} {n cap : Nat} {F : List Ft} (h : Rw T w B (.slice ao n cap) F) {j : Nat} {f : Ft} (hj : F[j]? = some f) :
    ∃ g, ao = some ⟨g, 0, none⟩ ∧ w.cell? ⟨g, j * 3, none⟩ = some (.int .i64 f.id) ∧ w.cell? ⟨g, j * 3 + 1, none⟩ = some (.string f.t) ∧ w.cell? ⟨g, j * 3 + 2, none⟩ = some (.slice f.a f.l.length f.c) := by
  have hl : j < F.length := (List.getElem?_eq_some_iff.1 hj).1
  rcases h.row.2 with ⟨e, h0⟩ | ⟨g, cap', cur, e, _⟩
  · omega
  · injection e with e1 e2 e3
    subst e1 e2 e3
    refine ⟨g, rfl, ?_⟩
    have hc : ∀ q, q < 3 → w.cell? ⟨g, j * 3 + q, none⟩ = (ftC f)[q]? := fun q hq => by
      rw [h.row.cellAt (j * 3 + q) (by omega), fts_at F j q f hj hq]
    exact ⟨hc 0 (by omega), hc 1 (by omega), hc 2 (by omega)⟩
theorem Rw.len {T : Nat} {w : World} {B : Nat} {ao : Option Addr} {n cap : Nat} {F : List Ft} (h : Rw T w B (.slice ao n cap) F) : n = F.length := by
  obtain ⟨_, _, e, _⟩ := h.slice
  injection e
end Go.Proofs.YtgjnnahflaaagaaDoor
