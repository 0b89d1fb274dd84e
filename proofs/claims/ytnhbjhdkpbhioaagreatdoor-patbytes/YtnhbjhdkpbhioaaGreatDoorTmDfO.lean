import Derived.Laws.MakeOwn
import Derived.Deep.OwnRows
import Derived.Test.YtnhbjhdkpbhioaaGreatDoorG23
import Derived.Lib.OwnKind
namespace Go.Proofs.YtnhbjhdkpbhioaaGreatDoor
open Go.RowKit
def strsC (L : List ByteArray) : List Value := L.map Value.string
theorem strsC_snoc (L : List ByteArray) (s : ByteArray) : strsC L ++ [.string s] = strsC (L ++ [s]) := by unfold strsC; rw [List.map_append]; rfl
theorem own_strs {w : World} {B T : Nat} {v : Value} {L : List ByteArray} {n : Nat} (hn : L.length = n) (h : w.ownsRow B T 1 v n (strsC L)) : ∃ ao cap, v = .slice ao n cap ∧ StrsA w ao L ∧ n ≤ cap := by
  subst hn
  rcases h.2 with ⟨rfl, h0⟩ | ⟨g, cap, cur, rfl, _, _, hn, _⟩
  · refine ⟨none, 0, by rw [h0], ?_, by omega⟩
    have e : L = [] := List.eq_nil_of_length_eq_zero h0
    subst e
    intro j t hj; simp at hj
  · refine ⟨_, cap, rfl, fun j t hj => ⟨g, 0, rfl, ?_⟩, hn⟩
    have hjl : j < L.length := (List.getElem?_eq_some_iff.1 hj).1
    rw [Nat.zero_add, h.cellAt j (by omega)]
    unfold strsC
    rw [List.getElem?_map, hj]; rfl
theorem infoStr : (Tryz.prog.info? 9).map (fun i => (i.zero, i.size, i.bytes)) = some (some (.string ⟨#[]⟩), 1, 16) := by kernel_rfl
theorem infoStr' : ∃ i, Tryz.prog.info? 9 = some i ∧ i.zero = some (.string ⟨#[]⟩) ∧ i.size = 1 ∧ i.bytes = 16 := by
  obtain ⟨i, h, e⟩ := Option.map_eq_some_iff.1 infoStr
  simp only [Prod.mk.injEq] at e
  exact ⟨i, h, e.1, e.2.1, e.2.2⟩
structure TdW (w wr : World) (TB : Nat) (v : Value) (k : Nat) (acc : List Sl) : Prop where
  bel : Below w.heap.size w wr
  t : Bx wr TB #[.string ⟨#[116]⟩, v]
  own : wr.ownsRow (TB + 1) 143 4 v k (slsC acc)
  lt : w.heap.size ≤ TB
theorem TdW.next {w wr w' : World} {TB : Nat} {v : Value} {k : Nat} {acc : List Sl} (h : TdW w wr TB v k acc) (hb : Below wr.heap.size wr w') : TdW w w' TB v k acc :=
  ⟨next_trans h.bel hb, h.t.next hb, own_next h.own hb, h.lt⟩
end Go.Proofs.YtnhbjhdkpbhioaaGreatDoor
