/- From a row's reading of its arguments to rows of strings and of numbers. -/
import Derived.Test.YthpmnomplhhfgaaGreatDoorG22
import Derived.Test.YthpmnomplhhfgaaGreatDoorLawFl5
import Derived.Deep.Strs
namespace Go.Proofs.YthpmnomplhhfgaaGreatDoor
open Go.ChangeShapes Go.WideShapes Go.ChangeAt Go.RowKit

theorem open_strsL {H : Type} {enc : TypeId × Value → H} {W : World} {base : Nat} {spare : Nat → Bool} {held : Bool} {ao : Option Addr} {len cap : Nat} {d : DataW H} {ps : List MemPlace}
    (h : DataW.Trod enc Tryz.prog W base spare held 56 (.slice ao len cap) d ps) :
    ∃ L : List ByteArray, L.length = len ∧ StrsAt W ao L := by
  obtain ⟨fuel, hf⟩ := h
  rcases Go.Deep.open_strs Tryz.underlying56 Tryz.underlying9 (by kernel_rfl) hf with ⟨hcs, _⟩ | ⟨x, l, c, m, Sx, hcs, _, hl, _, hmm, _, hcell⟩
  · simp [Value.cells] at hcs
    obtain ⟨rfl, rfl, rfl⟩ := hcs
    exact ⟨[], rfl, fun j s hj => by simp at hj⟩
  · simp [Value.cells] at hcs
    obtain ⟨rfl, rfl, rfl⟩ := hcs
    refine ⟨(List.range len).map Sx, by rw [List.length_map, List.length_range], fun j s hj => ?_⟩
    have hjl := (List.getElem?_eq_some_iff.1 hj).1
    rw [List.length_map, List.length_range] at hjl
    rw [List.getElem?_map, List.getElem?_range hjl] at hj
    have hs : Sx j = s := by simpa using hj
    have hc := (hcell j (by rw [hmm]; split <;> omega)).1
    obtain ⟨b, o, q⟩ := x
    have hq : q = none := by
      have h0 := (hcell 0 (by rw [hmm]; split <;> omega)).1
      simpa [Addr.add] using World.cell?_spot h0
    subst hq
    rw [Go.WideShapes.add_plain, hs] at hc
    exact ⟨b, o, rfl, hc⟩
theorem open_intsL {H : Type} {enc : TypeId × Value → H} {W : World} {base : Nat} {spare : Nat → Bool} {held : Bool} {ao : Option Addr} {len cap : Nat} {d : DataW H} {ps : List MemPlace}
    (h : DataW.Trod enc Tryz.prog W base spare held 57 (.slice ao len cap) d ps) :
    ∃ Z : List Int, Z.length = len ∧ IntsAt W ao Z ∧ ∀ z ∈ Z, inB z = true := by
  obtain ⟨fuel, hf⟩ := h
  rcases open_ints Tryz.underlying57 Tryz.underlying3 (by kernel_rfl) hf with ⟨hcs, _⟩ | ⟨x, l, c, zs, hcs, _, hl, _, hz, _, hcell, hwz⟩
  · simp [Value.cells] at hcs
    obtain ⟨rfl, rfl, rfl⟩ := hcs
    exact ⟨[], rfl, fun j s hj => by simp at hj, fun z hz => by cases hz⟩
  · simp [Value.cells] at hcs
    obtain ⟨rfl, rfl, rfl⟩ := hcs
    have hle : len ≤ zs.length := by rw [hz]; split <;> omega
    refine ⟨zs.take len, by rw [List.length_take]; omega, fun j z hj => ?_, fun z hz => inB_wf (hwz z (List.mem_of_mem_take hz))⟩
    have hjl := (List.getElem?_eq_some_iff.1 hj).1
    rw [List.length_take] at hjl
    rw [List.getElem?_take_of_lt (by omega)] at hj
    have hc := hcell j (by omega)
    have hg : zs.getD j 0 = z := by rw [List.getD_eq_getElem?_getD, hj]; rfl
    obtain ⟨b, o, q⟩ := x
    have hq : q = none := by simpa [Addr.add] using World.cell?_spot (hcell 0 (by omega))
    subst hq
    rw [Go.WideShapes.add_plain, hg] at hc
    exact ⟨b, o, rfl, hc⟩
end Go.Proofs.YthpmnomplhhfgaaGreatDoor
