/- From a row's reading of its arguments to a fact, a row of binds. -/
import Derived.Test.YtnhbjhdkpbhioaaGreatDoorTmOpen
import Derived.Test.YtnhbjhdkpbhioaaGreatDoorG23
namespace Go.Proofs.YtnhbjhdkpbhioaaGreatDoor
open Go.ChangeShapes Go.WideShapes Go.ChangeAt Go.RowKit

set_option maxRecDepth 8000 in
theorem fact_cells {H : Type} {enc : TypeId × Value → H} {w : World} {base : Nat} {spare : Nat → Bool} {held : Bool} {fuel : Nat} {cs : List Value} {x : DataW H × List MemPlace}
    (h : DataW.trod enc Tryz.prog w base spare held fuel 66 cs = some x) : ∃ (id : Int) (ft : ByteArray) (ao : Option Addr) (len cap : Nat) (L : List Val), cs = [.int .i64 id, .string ft, .slice ao len cap] ∧ L.length = len ∧ IsVals w ao L ∧ (∀ v ∈ L, v.wide9) ∧ inB id = true ∧ ft.size ≤ maxLen := by
  obtain ⟨xs, n, _, _, hlen, hxl, hf⟩ := DataW.trod_struct Tryz.underlying66 h
  have ce : Tryz.prog.cellsOf 66 = 3 := by kernel_rfl
  have e3 : Tryz.prog.cellsOf 3 = 1 := by kernel_rfl
  have e2 : Tryz.prog.cellsOf 64 = 1 := by kernel_rfl
  have e9 : Tryz.prog.cellsOf 9 = 1 := by kernel_rfl
  rw [ce] at hlen
  match xs, hxl, cs, hlen with
  | [y0, y1, y2], _, [v0, v1, v2], _ =>
    have g0 := hf 0 _ rfl
    have g1 := hf 1 _ rfl
    have g2 := hf 2 _ rfl
    simp [e3, e2, e9] at g0 g1 g2
    obtain ⟨k, hk, _, wk⟩ := DataW.trod_int Tryz.underlying3 g0
    obtain ⟨s, hs, _, ws⟩ := DataW.trod_string Tryz.underlying9 g1
    simp at hk hs
    subst hk hs
    obtain ⟨ao, len, cap, rfl⟩ : ∃ ao len cap, v2 = .slice ao len cap := by
      rcases Go.Deep.open_slice Tryz.underlying64 g2 with ⟨hcs, _⟩ | ⟨a, l, c, m, n, D, Pl, hcs, _⟩
      · simp at hcs; exact ⟨_, _, _, hcs⟩
      · simp at hcs; exact ⟨_, _, _, hcs⟩
    obtain ⟨d2, p2⟩ := y2
    obtain ⟨L, h1, h2, h3, _⟩ := open_vals9 (show DataW.Trod enc Tryz.prog w base spare held 64 (.slice ao len cap) d2 p2 from ⟨_, g2⟩)
    exact ⟨k, s, ao, len, cap, L, rfl, h1, h2, h3, inB_wf wk, ws⟩

set_option maxRecDepth 8000 in
theorem open_fact {H : Type} {enc : TypeId × Value → H} {W : World} {r : Reach} {base b0 : Nat} {spare : Nat → Bool} {held : Bool} {v : Value} {d : DataW H} {ps : List MemPlace}
    (hok : Value.okWide Tryz.prog W r b0 66 v) (h : DataW.Trod enc Tryz.prog W base spare held 66 v d ps) :
    ∃ (id : Int) (ft : ByteArray) (ao : Option Addr) (len cap : Nat) (L : List Val), v = .agg #[.int .i64 id, .string ft, .slice ao len cap] ∧ L.length = len ∧ IsVals W ao L ∧ (∀ v ∈ L, v.wide9) ∧ inB id = true ∧ ft.size ≤ maxLen := by
  obtain ⟨cs, rfl, _⟩ := okWide_struct Tryz.underlying66 hok
  obtain ⟨fuel, hf⟩ := h
  obtain ⟨id, ft, ao, len, cap, L, hx, hw⟩ := fact_cells hf
  refine ⟨id, ft, ao, len, cap, L, ?_, hw⟩
  have e : (Value.agg cs).cells = cs := rfl
  rw [e] at hx
  obtain ⟨cs⟩ := cs
  simp at hx
  rw [hx]
end Go.Proofs.YtnhbjhdkpbhioaaGreatDoor
