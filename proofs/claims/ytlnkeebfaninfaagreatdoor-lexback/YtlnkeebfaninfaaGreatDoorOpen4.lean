/- From a row's reading of its arguments to values and rows of bytes. -/
import Derived.Test.YtlnkeebfaninfaaGreatDoorBase4
import Derived.Test.YtlnkeebfaninfaaGreatDoorRows
import Derived.Test.YtlnkeebfaninfaaGreatDoorLexBase
import Derived.ProofKit
import Derived.OpenShut
import Derived.ShutString
import Derived.Below
import Derived.Deep.Slices
import Derived.ChangeSame
import Derived.ChangeSlices
namespace Go.Proofs.YtlnkeebfaninfaaGreatDoor
open Go.ChangeShapes Go.WideShapes Go.ChangeAt Go.RowKit

theorem inB_wf {n : Int} (h : (Lit.int .i64 n).wf = true) : inB n = true := by
  rw [inB_iff]; exact bounds_i64 h

/-- A value as it comes in: its numbers fit, its text is no longer than there may be. -/
def Val.wide (v : Val) : Prop := inB v.k = true ∧ inB v.i = true ∧ v.s.size ≤ maxLen

set_option maxRecDepth 8000 in
theorem three_cells {H : Type} {enc : TypeId × Value → H} {w : World} {base : Nat} {spare : Nat → Bool} {held : Bool} {fuel : Nat} {cs : List Value} {x : DataW H × List MemPlace}
    (h : DataW.trod enc Tryz.prog w base spare held fuel 71 cs = some x) : ∃ v : Val, cs = [.int .i64 v.k, .int .i64 v.i, .string v.s] ∧ v.wide := by
  obtain ⟨xs, n, _, _, hlen, hxl, hf⟩ := DataW.trod_struct Tryz.underlying71 h
  have ce : Tryz.prog.cellsOf 71 = 3 := by kernel_rfl
  have e3 : Tryz.prog.cellsOf 3 = 1 := by kernel_rfl
  have e2 : Tryz.prog.cellsOf 2 = 1 := by kernel_rfl
  have e9 : Tryz.prog.cellsOf 9 = 1 := by kernel_rfl
  rw [ce] at hlen
  match xs, hxl, cs, hlen with
  | [y0, y1, y2], _, [v0, v1, v2], _ =>
    have g0 := hf 0 _ rfl
    have g1 := hf 1 _ rfl
    have g2 := hf 2 _ rfl
    simp [e3, e2, e9] at g0 g1 g2
    obtain ⟨k, hk, _, wk⟩ := DataW.trod_int Tryz.underlying3 g0
    obtain ⟨i, hi, _, wi⟩ := DataW.trod_int Tryz.underlying2 g1
    obtain ⟨s, hs, _, ws⟩ := DataW.trod_string Tryz.underlying9 g2
    simp at hk hi hs
    subst hk hi hs
    exact ⟨⟨k, i, s⟩, rfl, inB_wf wk, inB_wf wi, ws⟩

set_option maxRecDepth 8000 in
theorem open_val {H : Type} {enc : TypeId × Value → H} {W : World} {r : Reach} {base b0 : Nat} {spare : Nat → Bool} {held : Bool} {v : Value} {d : DataW H} {ps : List MemPlace}
    (hok : Value.okWide Tryz.prog W r b0 71 v) (h : DataW.Trod enc Tryz.prog W base spare held 71 v d ps) :
    ∃ (k i : Int) (s : ByteArray), v = .agg #[.int .i64 (k), .int .i64 (i), .string (s)] ∧ inB k = true ∧ inB i = true ∧ s.size ≤ maxLen := by
  obtain ⟨cs, rfl, _⟩ := okWide_struct Tryz.underlying71 hok
  obtain ⟨fuel, hf⟩ := h
  obtain ⟨x, hx, hw⟩ := three_cells hf
  refine ⟨x.k, x.i, x.s, ?_, hw⟩
  have e : (Value.agg cs).cells = cs := rfl
  rw [e] at hx
  obtain ⟨cs⟩ := cs
  simp at hx
  rw [hx]

theorem wf_u8 {n : Int} (h : (Lit.int .u8 n).wf = true) : 0 ≤ n ∧ n < 256 := by
  have := bounds_u8 h
  omega
theorem open_bytes {H : Type} {enc : TypeId × Value → H} {W : World} {base : Nat} {spare : Nat → Bool} {held : Bool} {ao : Option Addr} {len cap : Nat} {d : DataW H} {ps : List MemPlace}
    (h : DataW.Trod enc Tryz.prog W base spare held 22 (.slice ao len cap) d ps) :
    ∃ l : List UInt8, l.length = len ∧ IsB W ao l ∧ len ≤ cap := by
  obtain ⟨fuel, hf⟩ := h
  have ce : Tryz.prog.cellsOf 5 = 1 := by kernel_rfl
  rcases open_ints Tryz.underlying22 Tryz.underlying5 ce hf with ⟨hcs, _⟩ | ⟨a, l, c, zs, hcs, _, hlc, _, hzl, _, hx, hw⟩
  · simp [Value.cells] at hcs
    obtain ⟨rfl, rfl, rfl⟩ := hcs
    exact ⟨[], rfl, IsB.nil _ _, Nat.le_refl _⟩
  · simp [Value.cells] at hcs
    obtain ⟨rfl, rfl, rfl⟩ := hcs
    have hle : len ≤ zs.length := by rw [hzl]; split <;> omega
    refine ⟨(zs.take len).map fun n => UInt8.ofNat n.toNat, by rw [List.length_map, List.length_take]; omega, fun hl => ?_, hlc⟩
    rw [List.length_map, List.length_take] at hl
    obtain ⟨b, o, s⟩ := a
    have hs : s = none := by simpa [Addr.add] using World.cell?_spot (hx 0 (by omega))
    subst hs
    refine ⟨b, o, rfl, fun i hi => ?_⟩
    rw [List.length_map, List.length_take] at hi
    have h1 := hx i (by omega)
    rw [Go.WideShapes.add_plain] at h1
    rw [h1, List.getElem_map, List.getElem_take]
    have hiz : i < zs.length := by omega
    have h2 : zs.getD i 0 = zs[i] := by rw [List.getD_eq_getElem?_getD, List.getElem?_eq_getElem hiz]; rfl
    rw [h2]
    have h3 := wf_u8 (hw zs[i] (List.getElem_mem hiz))
    have h4 : (UInt8.ofNat zs[i].toNat).toNat = zs[i].toNat := by rw [UInt8.toNat_ofNat']; omega
    rw [h4, Int.toNat_of_nonneg h3.1]
end Go.Proofs.YtlnkeebfaninfaaGreatDoor
