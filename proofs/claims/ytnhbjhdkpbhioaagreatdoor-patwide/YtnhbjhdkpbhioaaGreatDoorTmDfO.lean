/- Rows of texts that a call owns; two rows of their own, one beside the other. -/
import Derived.Test.YtnhbjhdkpbhioaaGreatDoorG28
import Derived.Lib.OwnKind
namespace Go.Proofs.YtnhbjhdkpbhioaaGreatDoor
open Go.RowKit

def strsC (L : List ByteArray) : List Value := L.map Value.string
theorem strsC_snoc (L : List ByteArray) (s : ByteArray) : strsC L ++ [.string s] = strsC (L ++ [s]) := by unfold strsC; rw [List.map_append]; rfl
theorem own_strs {w : World} {B T : Nat} {v : Value} {L : List ByteArray} {n : Nat} (hn : L.length = n) (h : w.ownsRow B T 1 v n (strsC L)) : ∃ ao cap, v = .slice ao n cap ∧ StrsA w ao L ∧ n ≤ cap := by
  subst hn
  rcases h.2 with ⟨rfl, h0⟩ | ⟨g, cap, cur, rfl, _, _, hn, _⟩
  · refine ⟨none, 0, by rw [h0], ?_, by omega⟩
    have e : L = [] := List.eq_nil_of_length_eq_zero h0
    subst e
    intro j t hj; simp at hj
  · refine ⟨_, cap, rfl, fun j t hj => ⟨g, 0, rfl, ?_⟩, hn⟩
    have hjl : j < L.length := (List.getElem?_eq_some_iff.1 hj).1
    rw [Nat.zero_add, h.cellAt j (by omega)]
    unfold strsC
    rw [List.getElem?_map, hj]; rfl
theorem infoStr : (Tryz.prog.info? 9).map (fun i => (i.zero, i.size, i.bytes)) = some (some (.string ⟨#[]⟩), 1, 16) := by kernel_rfl
theorem infoStr' : ∃ i, Tryz.prog.info? 9 = some i ∧ i.zero = some (.string ⟨#[]⟩) ∧ i.size = 1 ∧ i.bytes = 16 := by
  obtain ⟨i, h, e⟩ := Option.map_eq_some_iff.1 infoStr
  simp only [Prod.mk.injEq] at e
  exact ⟨i, h, e.1, e.2.1, e.2.2⟩
theorem own_apart {w : World} {B B' e e' size size' n n' : Nat} {v v' : Value} {xs xs' : List Value} (h : w.ownsRow B e size v n xs) (h' : w.ownsRow B' e' size' v' n' xs') (he : e ≠ e') : v.ownBlock = none ∨ v.ownBlock ≠ v'.ownBlock := by
  cases hv : v.ownBlock with
  | none => exact .inl rfl
  | some g =>
    refine .inr (fun hq => ?_)
    obtain ⟨c, fz, h1⟩ := Lib.ownsRow_kind h g hv
    obtain ⟨c', fz', h2⟩ := Lib.ownsRow_kind h' g hq.symm
    rw [h1] at h2
    injection h2 with h2
    injection h2 with _ h2 _
    exact he h2
theorem own_slice {w : World} {B e size n : Nat} {v : Value} {xs : List Value} (h : w.ownsRow B e size v n xs) : ∃ ao cap, v = .slice ao n cap := by
  rcases h.2 with ⟨rfl, h0⟩ | ⟨g, cap, cur, rfl, _⟩
  · exact ⟨none, 0, by rw [h0]⟩
  · exact ⟨_, _, rfl⟩
/-- A world in the first loop. -/
structure TdW (w wr : World) (TB : Nat) (v : Value) (k : Nat) (acc : List Sl) : Prop where
  bel : Below w.heap.size w wr
  t : Bx wr TB #[.string ⟨#[116]⟩, v]
  own : wr.ownsRow (TB + 1) 143 4 v k (slsC acc)
  lt : w.heap.size ≤ TB
theorem TdW.next {w wr w' : World} {TB : Nat} {v : Value} {k : Nat} {acc : List Sl} (h : TdW w wr TB v k acc) (hb : Below wr.heap.size wr w') : TdW w w' TB v k acc :=
  ⟨next_trans h.bel hb, h.t.next hb, own_next h.own hb, h.lt⟩
end Go.Proofs.YtnhbjhdkpbhioaaGreatDoor
