/- From a row's reading of its arguments to acts. -/
import Derived.Test.YtgjnnahflaaagaaDoorWmOpen
namespace Go.Proofs.YtgjnnahflaaagaaDoor
open Go.ChangeShapes Go.WideShapes Go.ChangeAt Go.RowKit

/-- One act of a play, as it lies. -/
structure Ac where
  op : Int
  id : Int
  t : ByteArray
  l : List Val
  a : Option Addr
  c : Nat
structure AcIn (w : World) (x : Ac) : Prop where
  op : inB x.op = true
  id : inB x.id = true
  t : x.t.size ≤ maxLen
  v : IsVals w x.a x.l
  wide : ∀ v ∈ x.l, v.wide
  nil : x.a = none → x.l.length = 0 ∧ x.c = 0
def IsActs (w : World) (ao : Option Addr) (l : List Ac) : Prop :=
  ∀ (j : Nat) (x : Ac), l[j]? = some x → AcIn w x ∧ ∃ b o, ao = some ⟨b, o, none⟩ ∧ w.cell? ⟨b, o + j * 4, none⟩ = some (.int .i64 x.op) ∧ w.cell? ⟨b, o + j * 4 + 1, none⟩ = some (.int .i64 x.id) ∧ w.cell? ⟨b, o + j * 4 + 2, none⟩ = some (.string x.t) ∧ w.cell? ⟨b, o + j * 4 + 3, none⟩ = some (.slice x.a x.l.length x.c)
set_option maxRecDepth 8000 in
theorem four_cells {H : Type} {enc : TypeId × Value → H} {w : World} {base : Nat} {spare : Nat → Bool} {held : Bool} {fuel : Nat} {cs : List Value} {x : DataW H × List MemPlace}
    (h : DataW.trod enc Tryd.prog w base spare held fuel 29 cs = some x) : ∃ v : Ac, cs = [.int .i64 v.op, .int .i64 v.id, .string v.t, .slice v.a v.l.length v.c] ∧ AcIn w v := by
  obtain ⟨xs, n, _, _, hlen, hxl, hf⟩ := DataW.trod_struct Tryd.underlying29 h
  have ce : Tryd.prog.cellsOf 29 = 4 := by kernel_rfl
  have e3 : Tryd.prog.cellsOf 3 = 1 := by kernel_rfl
  have e9 : Tryd.prog.cellsOf 9 = 1 := by kernel_rfl
  have ev : Tryd.prog.cellsOf 27 = 1 := by kernel_rfl
  rw [ce] at hlen
  match xs, hxl, cs, hlen with
  | [y0, y1, y2, y3], _, [v0, v1, v2, v3], _ =>
    have g0 := hf 0 _ rfl
    have g1 := hf 1 _ rfl
    have g2 := hf 2 _ rfl
    have g3 := hf 3 _ rfl
    simp [e3, e9, ev] at g0 g1 g2 g3
    obtain ⟨k, hk, _, wk⟩ := DataW.trod_int Tryd.underlying3 g0
    obtain ⟨i, hi, _, wi⟩ := DataW.trod_int Tryd.underlying3 g1
    obtain ⟨s, hs, _, ws⟩ := DataW.trod_string Tryd.underlying9 g2
    simp at hk hi hs
    subst hk hi hs
    have hsl : ∃ ao len cap, v3 = .slice ao len cap := by
      rcases Go.Deep.open_slice Tryd.underlying27 g3 with ⟨hcs, _⟩ | ⟨a, l, c, m, n', D, Pl, hcs, _⟩
      · simp at hcs; exact ⟨none, 0, 0, hcs⟩
      · simp at hcs; exact ⟨some a, l, c, hcs⟩
    obtain ⟨ao, len, cap, rfl⟩ := hsl
    obtain ⟨L, rfl, wl, ww, wn⟩ := open_vals (d := y3.1) (ps := y3.2) (spare := spare) (held := held) (base := base) (W := w) (enc := enc) (ao := ao) (len := len) (cap := cap) ⟨n, by simpa [Value.cells] using g3⟩
    exact ⟨⟨k, i, s, L, ao, cap⟩, rfl, inB_wf wk, inB_wf wi, ws, wl, ww, wn⟩
set_option maxRecDepth 8000 in
theorem open_acts {H : Type} {enc : TypeId × Value → H} {W : World} {base : Nat} {spare : Nat → Bool} {held : Bool} {ao : Option Addr} {len cap : Nat} {d : DataW H} {ps : List MemPlace}
    (h : DataW.Trod enc Tryd.prog W base spare held 22 (.slice ao len cap) d ps) :
    ∃ L : List Ac, L.length = len ∧ IsActs W ao L := by
  obtain ⟨fuel, hf⟩ := h
  have ce : Tryd.prog.cellsOf 29 = 4 := by kernel_rfl
  rcases Go.Deep.open_slice Tryd.underlying22 hf with ⟨hcs, _⟩ | ⟨a, l, c, m, n, D, Pl, hcs, _, _, _, hmm, _, hx⟩
  · simp [Value.cells] at hcs
    obtain ⟨rfl, rfl, rfl⟩ := hcs
    exact ⟨[], rfl, fun j v hj => by simp at hj⟩
  · simp [Value.cells] at hcs
    obtain ⟨rfl, rfl, rfl⟩ := hcs
    have hlm : len ≤ m := by rw [hmm]; split <;> omega
    have each : ∀ i, i < len → ∃ v : Ac, AcIn W v ∧ ∃ b o, a = ⟨b, o, none⟩ ∧ W.cell? ⟨b, o + i * 4, none⟩ = some (.int .i64 v.op) ∧ W.cell? ⟨b, o + i * 4 + 1, none⟩ = some (.int .i64 v.id) ∧ W.cell? ⟨b, o + i * 4 + 2, none⟩ = some (.string v.t) ∧ W.cell? ⟨b, o + i * 4 + 3, none⟩ = some (.slice v.a v.l.length v.c) := by
      intro i hi
      obtain ⟨cs0, k1, _⟩ := hx 0 (by omega)
      obtain ⟨cs', h1, h2⟩ := hx i (by omega)
      rw [ce] at h1 k1
      obtain ⟨_, _, kcell⟩ := World.cells?_some k1
      obtain ⟨_, hlen, hcell⟩ := World.cells?_some h1
      obtain ⟨v, rfl, hw⟩ := four_cells h2
      have f0 := hcell 0 (by omega)
      have f1 := hcell 1 (by omega)
      have f2 := hcell 2 (by omega)
      have f3 := hcell 3 (by omega)
      obtain ⟨b, o, sp⟩ := a
      have hsp : sp = none := by
        cases sp with
        | none => rfl
        | some t =>
          exfalso
          have g := kcell 0 (by omega)
          have hl0 : cs0.length = 4 := (World.cells?_some k1).2.1
          have : (W.cell? ⟨b, o, some t⟩) = none := by unfold World.cell?; simp; split <;> rfl
          simp [Addr.add] at g
          rw [this] at g
          have := List.getElem?_eq_none_iff.1 g.symm
          omega
      subst hsp
      simp only [Addr.add_lit] at f0 f1 f2 f3
      exact ⟨v, hw, b, o, rfl, by simpa using f0, by simpa using f1, by simpa using f2, by simpa using f3⟩
    haveI : Inhabited Ac := ⟨⟨0, 0, ⟨#[]⟩, [], none, 0⟩⟩
    obtain ⟨V, hV⟩ := Go.Deep.choose_lt each
    refine ⟨(List.range len).map V, by simp, ?_⟩
    intro j v hj
    rw [List.getElem?_map] at hj
    obtain ⟨i, hi, rfl⟩ := Option.map_eq_some_iff.1 hj
    obtain ⟨h1, h2⟩ := List.getElem?_eq_some_iff.1 hi
    simp at h1 h2
    subst h2
    obtain ⟨hw, b, o, rfl, c0, c1, c2, c3⟩ := hV j h1
    exact ⟨hw, b, o, rfl, c0, c1, c2, c3⟩
end Go.Proofs.YtgjnnahflaaagaaDoor
