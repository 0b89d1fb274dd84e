/- Scan of a string's bytes. -/
import Derived.Test.YtlnkeebfaninfaaGreatDoorLexToks
import Derived.Test.YtlnkeebfaninfaaGreatDoorLexRound
import Derived.Lib.ConvBytes
import Derived.Lib.SmallJoins
import Derived.Laws.AppendOwn
namespace Go.Proofs.YtlnkeebfaninfaaGreatDoor
open Go.RowKit

theorem conv_str (X : ByteArray) (w : World) : (convert 9 22 (.string X)).run Tryz.prog w = .ok (.slice (some ⟨w.heap.size, 0, none⟩) X.size (grownCap w X.size 0 5)) (Lib.bytesWorld w 5 X) :=
  Lib.run_convert_string_bytes w 9 22 5 X Tryz.underlying9 Tryz.underlying22 Tryz.underlying5
theorem conv_bel (X : ByteArray) (w : World) : Below w.heap.size w (Lib.bytesWorld w 5 X) := Go.Joins.below_bytesWorld _ w _ X (Nat.le_refl _)
theorem conv_is (T : List UInt8) (w : World) : Bs (Lib.bytesWorld w 5 (baL T)) w.heap.size 0 T := fun i hi => by
  rw [Nat.zero_add, Lib.bytesWorld_cell w 5 (baL T) i hi]
  have : (baL T).data.toList.getD i 0 = T[i] := by
    rw [baL_list, List.getD_eq_getElem?_getD, List.getElem?_eq_getElem hi]; rfl
  rw [this]
theorem scan_conv (X : ByteArray) (T : List UInt8) (L : List Tk) (w : World) (N : Nat) (hN : X.size = N) (hX : X = baL T) (hn : T.length ≤ 65536) (hm : MaxW w) (hs : scanS T 0 0 [] = ⟨L, 0, 0⟩) :
    Calls Tryz.prog 7 #[.slice (some ⟨w.heap.size, 0, none⟩) N (grownCap w N 0 5)] (Lib.bytesWorld w 5 X) fun e w' => (∃ to tc, e = .returned (.tuple #[.slice to L.length tc, .nilIface]) ∧ IsToks w' to L) ∧ Below w.heap.size w w' := by
  subst hN
  subst hX
  refine (scan_yes (some ⟨w.heap.size, 0, none⟩) (baL T).size _ T ⟨L, 0, 0⟩ _ rfl (conv_is T w).isB hn (grownCap_ge _ _ _ _) (hm.next (conv_bel _ _)) hs rfl).mono ?_
  rintro e w1 ⟨h1, hb⟩
  exact ⟨h1, next_trans (conv_bel _ _) hb⟩
theorem scan_conv_no (X : ByteArray) (T : List UInt8) (a : Nat) (f : Int) (w : World) (N : Nat) (hN : X.size = N) (hX : X = baL T) (hn : T.length ≤ 65536) (hm : MaxW w) (hs : scanS T 0 0 [] = ⟨[], a, f⟩) (hf : f ≠ 0) :
    Calls Tryz.prog 7 #[.slice (some ⟨w.heap.size, 0, none⟩) N (grownCap w N 0 5)] (Lib.bytesWorld w 5 X) fun e w' => (∃ B, e = .returned (.tuple #[.slice none 0 0, .iface 32 (.pointer (some ⟨B, 0, none⟩))])) ∧ Below w.heap.size w w' := by
  subst hN
  subst hX
  refine (scan_fault (some ⟨w.heap.size, 0, none⟩) (baL T).size _ T ⟨[], a, f⟩ _ rfl (conv_is T w).isB hn (grownCap_ge _ _ _ _) (hm.next (conv_bel _ _)) hs hf).mono ?_
  rintro e w1 ⟨⟨B, h1, _⟩, hb⟩
  exact ⟨⟨B, h1⟩, next_trans (conv_bel _ _) hb⟩
end Go.Proofs.YtlnkeebfaninfaaGreatDoor
