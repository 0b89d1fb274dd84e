/- Rows of tokens in memory. -/
import Derived.Test.YtlnkeebfaninfaaGreatDoorLexKnown
import Derived.Test.YtlnkeebfaninfaaGreatDoorLexWf
namespace Go.Proofs.YtlnkeebfaninfaaGreatDoor
open Go.RowKit

/-- A row of tokens lies behind an address. -/
def IsToks (w : World) (ao : Option Addr) (L : List Tk) : Prop :=
  ∀ (j : Nat) (t : Tk), L[j]? = some t → ∃ b o, ao = some ⟨b, o, none⟩ ∧ w.cell? ⟨b, o + j * 4, none⟩ = some (.int .i64 t.k) ∧ w.cell? ⟨b, o + j * 4 + 1, none⟩ = some (.int .i64 (t.a : Int)) ∧ w.cell? ⟨b, o + j * 4 + 2, none⟩ = some (.int .i64 t.i) ∧ w.cell? ⟨b, o + j * 4 + 3, none⟩ = some (.string (baL t.s))
theorem IsToks.next {w w' : World} {ao : Option Addr} {L : List Tk} (h : IsToks w ao L) (hb : Below w.heap.size w w') : IsToks w' ao L := by
  intro j v hj
  obtain ⟨b, o, h0, h1, h2, h3, h4⟩ := h j v hj
  exact ⟨b, o, h0, keep_cell hb h1, keep_cell hb h2, keep_cell hb h3, keep_cell hb h4⟩
theorem toks_at : ∀ (L : List Tk) (j q : Nat) (t : Tk), L[j]? = some t → q < 4 → (toksC L)[j * 4 + q]? = (tkC t)[q]?
  | [], j, q, t, h, _ => by simp at h
  | x :: r, 0, q, t, h, hq => by
    simp at h
    subst h
    have hl : (tkC x).length = 4 := rfl
    rw [Nat.zero_mul, Nat.zero_add]
    unfold toksC
    rw [List.flatMap_cons, List.getElem?_append_left (by omega)]
  | x :: r, j + 1, q, t, h, hq => by
    rw [List.getElem?_cons_succ] at h
    have hl : (tkC x).length = 4 := rfl
    unfold toksC
    rw [List.flatMap_cons, List.getElem?_append_right (by omega), hl, show (j + 1) * 4 + q - 4 = j * 4 + q by omega]
    exact toks_at r j q t h hq
theorem own_toks {w : World} {B T : Nat} {v : Value} {L : List Tk} (h : w.ownsRow B T 4 v L.length (toksC L)) : ∃ ao cap, v = .slice ao L.length cap ∧ IsToks w ao L := by
  rcases h.2 with ⟨rfl, h0⟩ | ⟨g, cap, cur, rfl, _, _, _⟩
  · refine ⟨none, 0, by rw [h0], ?_⟩
    have e : L = [] := List.eq_nil_of_length_eq_zero h0
    subst e
    intro j t hj; simp at hj
  · refine ⟨_, cap, rfl, fun j t hj => ⟨g, 0, rfl, ?_⟩⟩
    have hjl : j < L.length := (List.getElem?_eq_some_iff.1 hj).1
    have hc : ∀ q, q < 4 → w.cell? ⟨g, j * 4 + q, none⟩ = (tkC t)[q]? := fun q hq => by
      rw [h.cellAt (j * 4 + q) (by omega), toks_at L j q t hj hq]
    rw [Nat.zero_add]
    exact ⟨hc 0 (by omega), hc 1 (by omega), hc 2 (by omega), hc 3 (by omega)⟩
theorem wf_kind {k i : Int} {s : List UInt8} (h : WfT k i s) : isKind k := by
  unfold isKind
  rcases h with ⟨h, _⟩ | ⟨h, _⟩ | ⟨h, _⟩ | ⟨h, _⟩ | ⟨h, _⟩ <;> omega
/-- Scan, its answer by cases. -/
theorem scan_yes (ao : Option Addr) (n cap : Nat) (l : List UInt8) (R : Out) (w : World) (hl : l.length = n) (h : IsB w ao l) (hn : n ≤ 65536) (hc : n ≤ cap) (hm : MaxW w) (hs : scanQ l 0 [] = R) (he : R.e = 0) :
    Calls Tryz.prog 7 #[.slice ao n cap] w fun e w' => (∃ to tc, e = .returned (.tuple #[.slice to R.l.length tc, .nilIface]) ∧ IsToks w' to R.l) ∧ Below w.heap.size w w' := by
  refine (scan_any ao n cap l w hl h hn hc hm).mono ?_
  rintro e w1 ⟨hb1, hr1⟩
  rw [hs] at hr1
  rcases hr1 with ⟨_, v, rfl, ho1⟩ | ⟨hx, _⟩
  · obtain ⟨to, tc, rfl, ht⟩ := own_toks ho1
    exact ⟨⟨to, tc, rfl, ht⟩, hb1⟩
  · exact absurd he hx
theorem scan_fault (ao : Option Addr) (n cap : Nat) (l : List UInt8) (R : Out) (w : World) (hl : l.length = n) (h : IsB w ao l) (hn : n ≤ 65536) (hc : n ≤ cap) (hm : MaxW w) (hs : scanQ l 0 [] = R) (he : R.e ≠ 0) :
    Calls Tryz.prog 7 #[.slice ao n cap] w fun e w' => (∃ B, e = .returned (.tuple #[.slice none 0 0, .iface 32 (.pointer (some ⟨B, 0, none⟩))]) ∧ FaultAt w' B R.a R.e) ∧ Below w.heap.size w w' := by
  refine (scan_any ao n cap l w hl h hn hc hm).mono ?_
  rintro e w1 ⟨hb1, hr1⟩
  rw [hs] at hr1
  rcases hr1 with ⟨hx, _⟩ | ⟨_, B, h1, h2, h3⟩
  · exact absurd hx he
  · exact ⟨⟨B, h2, h3⟩, hb1⟩
theorem fault_lt {w : World} {B : Nat} {a e : Int} (h : FaultAt w B a e) : B < w.heap.size := by
  rcases Nat.lt_or_ge B w.heap.size with h1 | h1
  · exact h1
  · unfold FaultAt at h; rw [Array.getElem?_eq_none h1] at h; exact absurd h (by simp)
end Go.Proofs.YtlnkeebfaninfaaGreatDoor
