import Derived.Lib.AppendStr
import Derived.Laws.Concat
import Derived.Deep.RegionHeld3
import Derived.Test.YtnhbjhdkpbhioaaGreatDoorG3
import Derived.Laws.MakeOwn
import Derived.Deep.OwnRows
import Derived.Test.YtnhbjhdkpbhioaaGreatDoorG23
import Derived.Test.YtnhbjhdkpbhioaaGreatDoorG13
namespace Go.Proofs.YtnhbjhdkpbhioaaGreatDoor
open Go.RowKit
theorem bown_next {B e size n : Nat} {w w' : World} {v : Value} {xs : List Value} (h : w.ownsRow B e size v n xs) (hb : Below w.heap.size w w') : w'.ownsRow B e size v n xs := by
  refine ⟨h.1, h.2.elim Or.inl (fun ⟨g, cap, cur, hv, hg, hh, r⟩ => Or.inr ⟨g, cap, cur, hv, hg, ?_, r⟩)⟩
  have hlt : g < w.heap.size := by
    rcases Nat.lt_or_ge g w.heap.size with h1 | h1
    · exact h1
    · rw [Array.getElem?_eq_none h1] at hh; exact absurd hh (by simp)
  rw [hb.block g hlt]
  exact hh
theorem Bld.keep {B b : Nat} {l : List UInt8} {w w' : World} (h : Bld B b l w) (hb : Below w.heap.size w w') : Bld B b l w' := by
  have key : ∀ p, Lib.BuilderAt 170 5 B b p (Lib.byteCells l) w → Lib.BuilderAt 170 5 B b p (Lib.byteCells l) w' := by
    rintro p ⟨h1, v, h2, h3, h4⟩
    refine ⟨h1, v, ?_, bown_next h3 hb, h4⟩
    have hlt : b < w.heap.size := by
      rcases Nat.lt_or_ge b w.heap.size with h' | h'
      · exact h'
      · simp [Array.getElem?_eq_none h'] at h2
    rw [hb.block b hlt]
    exact h2
  exact h.imp (key _) (key _)
end Go.Proofs.YtnhbjhdkpbhioaaGreatDoor
namespace Go.Proofs.YtnhbjhdkpbhioaaGreatDoor
open Go.RowKit
structure TxW (w wr : World) (tn : ByteArray) (ao : Option Addr) (N cap : Nat) (P : Nat) (txt : List UInt8) : Prop where
  bel : Below w.heap.size w wr
  x : Bx wr w.heap.size #[.string tn, .slice ao N cap]
  b : Bld P P txt wr
theorem TxW.next {w wr w' : World} {tn : ByteArray} {ao : Option Addr} {N cap P : Nat} {txt : List UInt8} (h : TxW w wr tn ao N cap P txt) (hb : Below wr.heap.size wr w') : TxW w w' tn ao N cap P txt := ⟨next_trans h.bel hb, h.x.next hb, h.b.keep hb⟩
end Go.Proofs.YtnhbjhdkpbhioaaGreatDoor
