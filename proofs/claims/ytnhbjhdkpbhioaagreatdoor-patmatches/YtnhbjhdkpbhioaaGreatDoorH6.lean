import Derived.Test.YtnhbjhdkpbhioaaGreatDoorTmOpen
import Derived.Test.YtnhbjhdkpbhioaaGreatDoorG23
namespace Go.Proofs.YtnhbjhdkpbhioaaGreatDoor
open Go.ChangeShapes Go.WideShapes Go.ChangeAt Go.RowKit
set_option maxRecDepth 8000 in
theorem fact_cells {H : Type} {enc : TypeId × Value → H} {w : World} {base : Nat} {spare : Nat → Bool} {held : Bool} {fuel : Nat} {cs : List Value} {x : DataW H × List MemPlace}
    (h : DataW.trod enc Tryz.prog w base spare held fuel 66 cs = some x) : ∃ (id : Int) (ft : ByteArray) (ao : Option Addr) (len cap : Nat) (L : List Val), cs = [.int .i64 id, .string ft, .slice ao len cap] ∧ L.length = len ∧ IsVals w ao L ∧ (∀ v ∈ L, v.wide9) ∧ inB id = true ∧ ft.size ≤ maxLen := by
  obtain ⟨xs, n, _, _, hlen, hxl, hf⟩ := DataW.trod_struct Tryz.underlying66 h
  have ce : Tryz.prog.cellsOf 66 = 3 := by kernel_rfl
  have e3 : Tryz.prog.cellsOf 3 = 1 := by kernel_rfl
  have e2 : Tryz.prog.cellsOf 64 = 1 := by kernel_rfl
  have e9 : Tryz.prog.cellsOf 9 = 1 := by kernel_rfl
  rw [ce] at hlen
  match xs, hxl, cs, hlen with
  | [y0, y1, y2], _, [v0, v1, v2], _ =>
    have g0 := hf 0 _ rfl
    have g1 := hf 1 _ rfl
    have g2 := hf 2 _ rfl
    simp [e3, e2, e9] at g0 g1 g2
    obtain ⟨k, hk, _, wk⟩ := DataW.trod_int Tryz.underlying3 g0
    obtain ⟨s, hs, _, ws⟩ := DataW.trod_string Tryz.underlying9 g1
    simp at hk hs
    subst hk hs
    obtain ⟨ao, len, cap, rfl⟩ : ∃ ao len cap, v2 = .slice ao len cap := by
      rcases Go.Deep.open_slice Tryz.underlying64 g2 with ⟨hcs, _⟩ | ⟨a, l, c, m, n, D, Pl, hcs, _⟩
      · simp at hcs; exact ⟨_, _, _, hcs⟩
      · simp at hcs; exact ⟨_, _, _, hcs⟩
    obtain ⟨d2, p2⟩ := y2
    obtain ⟨L, h1, h2, h3, _⟩ := open_vals9 (show DataW.Trod enc Tryz.prog w base spare held 64 (.slice ao len cap) d2 p2 from ⟨_, g2⟩)
    exact ⟨k, s, ao, len, cap, L, rfl, h1, h2, h3, inB_wf wk, ws⟩
set_option maxRecDepth 8000 in
theorem open_fact {H : Type} {enc : TypeId × Value → H} {W : World} {r : Reach} {base b0 : Nat} {spare : Nat → Bool} {held : Bool} {v : Value} {d : DataW H} {ps : List MemPlace}
    (hok : Value.okWide Tryz.prog W r b0 66 v) (h : DataW.Trod enc Tryz.prog W base spare held 66 v d ps) :
    ∃ (id : Int) (ft : ByteArray) (ao : Option Addr) (len cap : Nat) (L : List Val), v = .agg #[.int .i64 id, .string ft, .slice ao len cap] ∧ L.length = len ∧ IsVals W ao L ∧ (∀ v ∈ L, v.wide9) ∧ inB id = true ∧ ft.size ≤ maxLen := by
  obtain ⟨cs, rfl, _⟩ := okWide_struct Tryz.underlying66 hok
  obtain ⟨fuel, hf⟩ := h
  obtain ⟨id, ft, ao, len, cap, L, hx, hw⟩ := fact_cells hf
  refine ⟨id, ft, ao, len, cap, L, ?_, hw⟩
  have e : (Value.agg cs).cells = cs := rfl
  rw [e] at hx
  obtain ⟨cs⟩ := cs
  simp at hx
  rw [hx]
end Go.Proofs.YtnhbjhdkpbhioaaGreatDoor
namespace Go.Proofs.YtnhbjhdkpbhioaaGreatDoor
open Go.ChangeShapes Go.WideShapes Go.ChangeAt Go.RowKit
set_option maxRecDepth 8000 in
theorem bind_cells {H : Type} {enc : TypeId × Value → H} {w : World} {base : Nat} {spare : Nat → Bool} {held : Bool} {fuel : Nat} {cs : List Value} {x : DataW H × List MemPlace}
    (h : DataW.trod enc Tryz.prog w base spare held fuel 91 cs = some x) : ∃ s : Sl, cs = [.string s.n, .int .i64 s.k, .int .i64 s.i, .string s.s] ∧ s.n.size ≤ maxLen ∧ Val.wide9 ⟨s.k, s.i, s.s⟩ := by
  obtain ⟨xs, n, _, _, hlen, hxl, hf⟩ := DataW.trod_struct Tryz.underlying91 h
  have ce : Tryz.prog.cellsOf 91 = 4 := by kernel_rfl
  have e3 : Tryz.prog.cellsOf 71 = 3 := by kernel_rfl
  have e9 : Tryz.prog.cellsOf 9 = 1 := by kernel_rfl
  rw [ce] at hlen
  match xs, hxl, cs, hlen with
  | [y0, y1], _, [v0, v1, v2, v3], _ =>
    have g0 := hf 0 _ rfl
    have g1 := hf 1 _ rfl
    simp [e3, e9] at g0 g1
    obtain ⟨s, hs, _, ws⟩ := DataW.trod_string Tryz.underlying9 g0
    obtain ⟨v, hv, hw⟩ := three_cells9 g1
    simp at hs hv
    obtain ⟨rfl, rfl, rfl⟩ := hv
    subst hs
    exact ⟨⟨s, v.k, v.i, v.s⟩, rfl, ws, hw⟩
set_option maxRecDepth 8000 in
theorem open_binds {H : Type} {enc : TypeId × Value → H} {W : World} {base : Nat} {spare : Nat → Bool} {held : Bool} {ao : Option Addr} {len cap : Nat} {d : DataW H} {ps : List MemPlace}
    (h : DataW.Trod enc Tryz.prog W base spare held 67 (.slice ao len cap) d ps) :
    ∃ L : List Sl, L.length = len ∧ IsSls W ao L ∧ (∀ s ∈ L, s.n.size ≤ maxLen ∧ Val.wide9 ⟨s.k, s.i, s.s⟩) ∧ (ao = none → len = 0 ∧ cap = 0) := by
  obtain ⟨fuel, hf⟩ := h
  have ce : Tryz.prog.cellsOf 91 = 4 := by kernel_rfl
  rcases Go.Deep.open_slice Tryz.underlying67 hf with ⟨hcs, _⟩ | ⟨a, l, c, m, n, D, Pl, hcs, _, _, _, hmm, _, hx⟩
  · simp [Value.cells] at hcs
    obtain ⟨rfl, rfl, rfl⟩ := hcs
    exact ⟨[], rfl, fun j v hj => by simp at hj, fun v hv => by simp at hv, fun _ => ⟨rfl, rfl⟩⟩
  · simp [Value.cells] at hcs
    obtain ⟨rfl, rfl, rfl⟩ := hcs
    have hlm : len ≤ m := by rw [hmm]; split <;> omega
    have each : ∀ i, i < len → ∃ s : Sl, (s.n.size ≤ maxLen ∧ Val.wide9 ⟨s.k, s.i, s.s⟩) ∧ ∃ b o, a = ⟨b, o, none⟩ ∧ W.cell? ⟨b, o + i * 4, none⟩ = some (.string s.n) ∧ W.cell? ⟨b, o + i * 4 + 1, none⟩ = some (.int .i64 s.k) ∧ W.cell? ⟨b, o + i * 4 + 2, none⟩ = some (.int .i64 s.i) ∧ W.cell? ⟨b, o + i * 4 + 3, none⟩ = some (.string s.s) := by
      intro i hi
      obtain ⟨cs0, k1, _⟩ := hx 0 (by omega)
      obtain ⟨cs', h1, h2⟩ := hx i (by omega)
      rw [ce] at h1 k1
      obtain ⟨_, _, kcell⟩ := World.cells?_some k1
      obtain ⟨_, hlen, hcell⟩ := World.cells?_some h1
      obtain ⟨s, rfl, hw⟩ := bind_cells h2
      have f0 := hcell 0 (by omega)
      have f1 := hcell 1 (by omega)
      have f2 := hcell 2 (by omega)
      have f3 := hcell 3 (by omega)
      obtain ⟨b, o, sp⟩ := a
      have hsp : sp = none := by
        cases sp with
        | none => rfl
        | some t =>
          exfalso
          have g := kcell 0 (by omega)
          have hl0 : cs0.length = 4 := (World.cells?_some k1).2.1
          have : (W.cell? ⟨b, o, some t⟩) = none := by unfold World.cell?; simp; split <;> rfl
          simp [Addr.add] at g
          rw [this] at g
          have := List.getElem?_eq_none_iff.1 g.symm
          omega
      subst hsp
      simp only [Addr.add_lit] at f0 f1 f2 f3
      exact ⟨s, hw, b, o, rfl, by simpa using f0, by simpa using f1, by simpa using f2, by simpa using f3⟩
    haveI : Inhabited Sl := ⟨⟨⟨#[]⟩, 0, 0, ⟨#[]⟩⟩⟩
    obtain ⟨V, hV⟩ := Go.Deep.choose_lt each
    refine ⟨(List.range len).map V, by simp, ?_, ?_, fun h => by cases h⟩
    · intro j v hj
      rw [List.getElem?_map] at hj
      obtain ⟨i, hi, rfl⟩ := Option.map_eq_some_iff.1 hj
      obtain ⟨h1, h2⟩ := List.getElem?_eq_some_iff.1 hi
      simp at h1 h2
      subst h2
      obtain ⟨_, b, o, rfl, c0, c1, c2, c3⟩ := hV j h1
      exact ⟨b, o, rfl, c0, c1, c2, c3⟩
    · intro v hv
      simp at hv
      obtain ⟨j, hj, rfl⟩ := hv
      exact (hV j hj).1
end Go.Proofs.YtnhbjhdkpbhioaaGreatDoor
