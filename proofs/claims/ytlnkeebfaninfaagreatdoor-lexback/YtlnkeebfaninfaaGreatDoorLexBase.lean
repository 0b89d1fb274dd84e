/- Bytes in memory, slices of them. -/
import Derived.Test.YtlnkeebfaninfaaGreatDoorLexMath
import Derived.Test.YtlnkeebfaninfaaGreatDoorKeep
import Derived.Test.YtlnkeebfaninfaaGreatDoorSymGood
import Derived.Test.YtlnkeebfaninfaaGreatDoorValRight2
import Derived.Laws.BytesArg
import Derived.Test.YtlnkeebfaninfaaGreatDoorRefWords
import Derived.ChangeSame
namespace Go.Proofs.YtlnkeebfaninfaaGreatDoor
open Go.RowKit

/-- Bytes lie at a place. -/
def Bs (w : World) (b o : Nat) (l : List UInt8) : Prop := ∀ i (h : i < l.length), w.cell? ⟨b, o + i, none⟩ = some (.int .u8 (l[i].toNat : Int))
/-- Bytes lie behind an address, if there are any. -/
def IsB (w : World) (ao : Option Addr) (l : List UInt8) : Prop := 0 < l.length → ∃ b o, ao = some ⟨b, o, none⟩ ∧ Bs w b o l
theorem Bs.next {w w' : World} {b o : Nat} {l : List UInt8} (h : Bs w b o l) (hb : Below w.heap.size w w') : Bs w' b o l := fun i hi => keep_cell hb (h i hi)
theorem IsB.next {w w' : World} {ao : Option Addr} {l : List UInt8} (h : IsB w ao l) (hb : Below w.heap.size w w') : IsB w' ao l := fun hl => by
  obtain ⟨b, o, h1, h2⟩ := h hl
  exact ⟨b, o, h1, h2.next hb⟩
theorem Bs.drop {w : World} {b o : Nat} {l : List UInt8} (h : Bs w b o l) (k : Nat) : Bs w b (o + k) (l.drop k) := fun i hi => by
  rw [List.getElem_drop, show o + k + i = o + (k + i) by omega]
  exact h (k + i) (by rw [List.length_drop] at hi; omega)
theorem Bs.take {w : World} {b o : Nat} {l : List UInt8} (h : Bs w b o l) (k : Nat) : Bs w b o (l.take k) := fun i hi => by
  rw [List.getElem_take]
  exact h i (by rw [List.length_take] at hi; omega)
theorem Bs.isB {w : World} {b o : Nat} {l : List UInt8} (h : Bs w b o l) : IsB w (some ⟨b, o, none⟩) l := fun _ => ⟨b, o, rfl, h⟩
theorem IsB.nil (w : World) (ao : Option Addr) : IsB w ao [] := fun h => absurd h (Nat.lt_irrefl 0)

def numsOf (l : List UInt8) : List Int := l.map fun c => (c.toNat : Int)
theorem nums_len (l : List UInt8) : (numsOf l).length = l.length := by unfold numsOf; simp
theorem nums_bytes (l : List UInt8) : Lib.bytesOf (numsOf l) = l := by
  unfold Lib.bytesOf numsOf
  rw [List.map_map]
  conv => rhs; rw [← List.map_id l]
  apply List.map_congr_left
  intro c _
  simp
theorem nums_str (l : List UInt8) : strOfNums (numsOf l) = ⟨l.toArray⟩ := by
  have h := nums_bytes l
  unfold Lib.bytesOf at h
  unfold strOfNums
  rw [h]
theorem nums_get (l : List UInt8) (i : Nat) (h : i < l.length) : (numsOf l).getD i 0 = (l[i].toNat : Int) := by
  unfold numsOf
  rw [List.getD_eq_getElem?_getD, List.getElem?_map, List.getElem?_eq_getElem h]; rfl
theorem nums_bd (l : List UInt8) : ∀ x ∈ numsOf l, 0 ≤ x ∧ x < 256 := by
  intro x hx
  unfold numsOf at hx
  rw [List.mem_map] at hx
  obtain ⟨c, _, rfl⟩ := hx
  have := c.toNat_lt
  omega
theorem IsB.bytesIn {w : World} {ao : Option Addr} {l : List UInt8} (h : IsB w ao l) : Lib.BytesIn w ao l.length (numsOf l) := fun hl => by
  obtain ⟨b, o, h1, h2⟩ := h hl
  exact ⟨b, o, h1, fun i hi => by rw [nums_get l i hi]; exact h2 i hi⟩
/-- A text of bytes, as a string. -/
def baL (l : List UInt8) : ByteArray := ⟨l.toArray⟩
theorem baL_size (l : List UInt8) : (baL l).size = l.length := rfl
theorem baL_list (l : List UInt8) : (baL l).data.toList = l := rfl
theorem conv_at (b o n cap : Nat) (l : List UInt8) (w : World) (hl : l.length = n) (h : Bs w b o l) :
    (convert 22 9 (.slice (some ⟨b, o, none⟩) n cap)).run Tryz.prog w = .ok (.string (baL l)) w := by
  have := run_convert_bytes_arg (P := Tryz.prog) w 22 5 Tryz.underlying22 Tryz.underlying5 b o n cap (numsOf l) (by rw [nums_len, hl]) (fun i hi => by rw [nums_get l i (by omega)]; exact h i (by omega)) 9 Tryz.underlying9
  rw [this, nums_str]; rfl
/-- Where a slice goes on behind k bytes. -/
def fromA (ao : Option Addr) (cap k : Nat) : Option Addr := if cap = k then ao else ao.map (fun a => a.add k)
theorem cells_u8 : Tryz.prog.cellsOf 5 = 1 := by kernel_rfl
theorem slice_from (ao : Option Addr) (n cap k : Nat) (K : Int) (w : World) (hK : K = (k : Int)) (hk : k ≤ n) :
    (Instr.slice 22 (.slice ao n cap) (some (.int .i64 K)) none none).run Tryz.prog w = .ok (.slice (fromA ao cap k) (n - k) (cap - k)) w := by
  subst hK
  have hz : Tryz.t5.size = 1 := by kernel_rfl
  have h := run_slice_l (P := Tryz.prog) w 22 ao n cap (by kernel_rfl) .i64 (k : Int) (by omega) (by omega)
  rw [h]
  have he : Tryz.prog.elem 22 = 5 := by kernel_rfl
  rw [he]
  simp [sizeOf, hz, sliced, fromA, Result.andThen]
theorem slice_to (ao : Option Addr) (n cap k : Nat) (K : Int) (w : World) (hK : K = (k : Int)) (hk : k ≤ n) (hn : n ≤ cap) :
    (Instr.slice 22 (.slice ao n cap) none (some (.int .i64 K)) none).run Tryz.prog w = .ok (.slice ao k cap) w := by
  subst hK
  have h := run_slice_h (P := Tryz.prog) w 22 ao n cap (by kernel_rfl) .i64 (k : Int) (by omega) (by omega)
  rw [h]
  have he : Tryz.prog.elem 22 = 5 := by kernel_rfl
  rw [he]
  simp [sizeOf, sliced, Result.andThen, Addr.add]
theorem from_isB {w : World} {b o cap : Nat} {l : List UInt8} (h : Bs w b o l) (k : Nat) (hc : l.length ≤ cap) : IsB w (fromA (some ⟨b, o, none⟩) cap k) (l.drop k) := fun hl => by
  rw [List.length_drop] at hl
  unfold fromA
  rw [if_neg (by omega)]
  exact ⟨b, o + k, congrArg some (Go.WideShapes.add_plain ..), h.drop k⟩
theorem from_at (b o cap k : Nat) (h : k < cap) : fromA (some ⟨b, o, none⟩) cap k = some ⟨b, o + k, none⟩ := by
  unfold fromA; rw [if_neg (by omega)]; exact congrArg some (Go.WideShapes.add_plain ..)
end Go.Proofs.YtlnkeebfaninfaaGreatDoor
