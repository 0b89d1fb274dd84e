import Derived.Test.YtnhbjhdkpbhioaaGreatDoorG23
import Derived.Test.YtnhbjhdkpbhioaaGreatDoorG22
import Derived.Deep.Strs
import Derived.Deep.Slices
import Derived.ChangeSame
import Derived.ChangeSlices
namespace Go.Proofs.YtnhbjhdkpbhioaaGreatDoor
open Go.ChangeShapes Go.WideShapes Go.ChangeAt Go.RowKit
def Val.wide9 (v : Val) : Prop := inB v.k = true ∧ inB v.i = true ∧ v.s.size ≤ maxLen
set_option maxRecDepth 8000 in
theorem three_cells9 {H : Type} {enc : TypeId × Value → H} {w : World} {base : Nat} {spare : Nat → Bool} {held : Bool} {fuel : Nat} {cs : List Value} {x : DataW H × List MemPlace}
    (h : DataW.trod enc Tryz.prog w base spare held fuel 71 cs = some x) : ∃ v : Val, cs = [.int .i64 v.k, .int .i64 v.i, .string v.s] ∧ v.wide9 := by
  obtain ⟨xs, n, _, _, hlen, hxl, hf⟩ := DataW.trod_struct Tryz.underlying71 h
  have ce : Tryz.prog.cellsOf 71 = 3 := by kernel_rfl
  have e3 : Tryz.prog.cellsOf 3 = 1 := by kernel_rfl
  have e2 : Tryz.prog.cellsOf 2 = 1 := by kernel_rfl
  have e9 : Tryz.prog.cellsOf 9 = 1 := by kernel_rfl
  rw [ce] at hlen
  match xs, hxl, cs, hlen with
  | [y0, y1, y2], _, [v0, v1, v2], _ =>
    have g0 := hf 0 _ rfl
    have g1 := hf 1 _ rfl
    have g2 := hf 2 _ rfl
    simp [e3, e2, e9] at g0 g1 g2
    obtain ⟨k, hk, _, wk⟩ := DataW.trod_int Tryz.underlying3 g0
    obtain ⟨i, hi, _, wi⟩ := DataW.trod_int Tryz.underlying2 g1
    obtain ⟨s, hs, _, ws⟩ := DataW.trod_string Tryz.underlying9 g2
    simp at hk hi hs
    subst hk hi hs
    exact ⟨⟨k, i, s⟩, rfl, inB_wf wk, inB_wf wi, ws⟩
set_option maxRecDepth 8000 in
theorem open_vals9 {H : Type} {enc : TypeId × Value → H} {W : World} {base : Nat} {spare : Nat → Bool} {held : Bool} {ao : Option Addr} {len cap : Nat} {d : DataW H} {ps : List MemPlace}
    (h : DataW.Trod enc Tryz.prog W base spare held 64 (.slice ao len cap) d ps) :
    ∃ L : List Val, L.length = len ∧ IsVals W ao L ∧ (∀ v ∈ L, v.wide9) ∧ (ao = none → len = 0 ∧ cap = 0) := by
  obtain ⟨fuel, hf⟩ := h
  have ce : Tryz.prog.cellsOf 71 = 3 := by kernel_rfl
  rcases Go.Deep.open_slice Tryz.underlying64 hf with ⟨hcs, _⟩ | ⟨a, l, c, m, n, D, Pl, hcs, _, _, _, hmm, _, hx⟩
  · simp [Value.cells] at hcs
    obtain ⟨rfl, rfl, rfl⟩ := hcs
    exact ⟨[], rfl, fun j v hj => by simp at hj, fun v hv => by simp at hv, fun _ => ⟨rfl, rfl⟩⟩
  · simp [Value.cells] at hcs
    obtain ⟨rfl, rfl, rfl⟩ := hcs
    have hlm : len ≤ m := by rw [hmm]; split <;> omega
    have each : ∀ i, i < len → ∃ v : Val, v.wide9 ∧ ∃ b o, a = ⟨b, o, none⟩ ∧ W.cell? ⟨b, o + i * 3, none⟩ = some (.int .i64 v.k) ∧ W.cell? ⟨b, o + i * 3 + 1, none⟩ = some (.int .i64 v.i) ∧ W.cell? ⟨b, o + i * 3 + 2, none⟩ = some (.string v.s) := by
      intro i hi
      obtain ⟨cs0, k1, _⟩ := hx 0 (by omega)
      obtain ⟨cs', h1, h2⟩ := hx i (by omega)
      rw [ce] at h1 k1
      obtain ⟨_, _, kcell⟩ := World.cells?_some k1
      obtain ⟨_, hlen, hcell⟩ := World.cells?_some h1
      obtain ⟨v, rfl, hw⟩ := three_cells9 h2
      have f0 := hcell 0 (by omega)
      have f1 := hcell 1 (by omega)
      have f2 := hcell 2 (by omega)
      obtain ⟨b, o, sp⟩ := a
      have hsp : sp = none := by
        cases sp with
        | none => rfl
        | some t =>
          exfalso
          have g := kcell 0 (by omega)
          have hl0 : cs0.length = 3 := (World.cells?_some k1).2.1
          have : (W.cell? ⟨b, o, some t⟩) = none := by unfold World.cell?; simp; split <;> rfl
          simp [Addr.add] at g
          rw [this] at g
          have := List.getElem?_eq_none_iff.1 g.symm
          omega
      subst hsp
      simp only [Addr.add_lit] at f0 f1 f2
      exact ⟨v, hw, b, o, rfl, by simpa using f0, by simpa using f1, by simpa using f2⟩
    haveI : Inhabited Val := ⟨⟨0, 0, ⟨#[]⟩⟩⟩
    obtain ⟨V, hV⟩ := Go.Deep.choose_lt each
    refine ⟨(List.range len).map V, by simp, ?_, ?_, fun h => by cases h⟩
    · intro j v hj
      rw [List.getElem?_map] at hj
      obtain ⟨i, hi, rfl⟩ := Option.map_eq_some_iff.1 hj
      obtain ⟨h1, h2⟩ := List.getElem?_eq_some_iff.1 hi
      simp at h1 h2
      subst h2
      obtain ⟨_, b, o, rfl, c0, c1, c2⟩ := hV j h1
      exact ⟨b, o, rfl, c0, c1, c2⟩
    · intro v hv
      simp at hv
      obtain ⟨j, hj, rfl⟩ := hv
      exact (hV j hj).1
end Go.Proofs.YtnhbjhdkpbhioaaGreatDoor
