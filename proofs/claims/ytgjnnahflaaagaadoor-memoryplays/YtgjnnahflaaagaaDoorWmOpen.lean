/- From a row's reading of its arguments to values: rows of values, of bytes. -/
import Derived.Test.YtgjnnahflaaagaaDoorRows
import Derived.Test.YtgjnnahflaaagaaDoorWmVals
import Derived.ProofKit
import Derived.OpenShut
import Derived.ShutString
import Derived.Below
import Derived.Deep.Slices
import Derived.ChangeSame
import Derived.ChangeSlices
namespace Go.Proofs.YtgjnnahflaaagaaDoor
open Go.ChangeShapes Go.WideShapes Go.ChangeAt Go.RowKit

theorem inB_wf {n : Int} (h : (Lit.int .i64 n).wf = true) : inB n = true := by
  rw [inB_iff]; exact bounds_i64 h

/-- A value as it comes in: its numbers fit, its text is no longer than there may be. -/
def Val.wide (v : Val) : Prop := inB v.k = true ∧ inB v.i = true ∧ v.s.size ≤ maxLen

set_option maxRecDepth 8000 in
theorem three_cells {H : Type} {enc : TypeId × Value → H} {w : World} {base : Nat} {spare : Nat → Bool} {held : Bool} {fuel : Nat} {cs : List Value} {x : DataW H × List MemPlace}
    (h : DataW.trod enc Tryd.prog w base spare held fuel 32 cs = some x) : ∃ v : Val, cs = [.int .i64 v.k, .int .i64 v.i, .string v.s] ∧ v.wide := by
  obtain ⟨xs, n, _, _, hlen, hxl, hf⟩ := DataW.trod_struct Tryd.underlying32 h
  have ce : Tryd.prog.cellsOf 32 = 3 := by kernel_rfl
  have e3 : Tryd.prog.cellsOf 3 = 1 := by kernel_rfl
  have e2 : Tryd.prog.cellsOf 2 = 1 := by kernel_rfl
  have e9 : Tryd.prog.cellsOf 9 = 1 := by kernel_rfl
  rw [ce] at hlen
  match xs, hxl, cs, hlen with
  | [y0, y1, y2], _, [v0, v1, v2], _ =>
    have g0 := hf 0 _ rfl
    have g1 := hf 1 _ rfl
    have g2 := hf 2 _ rfl
    simp [e3, e2, e9] at g0 g1 g2
    obtain ⟨k, hk, _, wk⟩ := DataW.trod_int Tryd.underlying3 g0
    obtain ⟨i, hi, _, wi⟩ := DataW.trod_int Tryd.underlying2 g1
    obtain ⟨s, hs, _, ws⟩ := DataW.trod_string Tryd.underlying9 g2
    simp at hk hi hs
    subst hk hi hs
    exact ⟨⟨k, i, s⟩, rfl, inB_wf wk, inB_wf wi, ws⟩

set_option maxRecDepth 8000 in
theorem open_val {H : Type} {enc : TypeId × Value → H} {W : World} {r : Reach} {base b0 : Nat} {spare : Nat → Bool} {held : Bool} {v : Value} {d : DataW H} {ps : List MemPlace}
    (hok : Value.okWide Tryd.prog W r b0 32 v) (h : DataW.Trod enc Tryd.prog W base spare held 32 v d ps) :
    ∃ (k i : Int) (s : ByteArray), v = .agg #[.int .i64 (k), .int .i64 (i), .string (s)] ∧ inB k = true ∧ inB i = true ∧ s.size ≤ maxLen := by
  obtain ⟨cs, rfl, _⟩ := okWide_struct Tryd.underlying32 hok
  obtain ⟨fuel, hf⟩ := h
  obtain ⟨x, hx, hw⟩ := three_cells hf
  refine ⟨x.k, x.i, x.s, ?_, hw⟩
  have e : (Value.agg cs).cells = cs := rfl
  rw [e] at hx
  obtain ⟨cs⟩ := cs
  simp at hx
  rw [hx]

set_option maxRecDepth 8000 in
theorem open_vals {H : Type} {enc : TypeId × Value → H} {W : World} {base : Nat} {spare : Nat → Bool} {held : Bool} {ao : Option Addr} {len cap : Nat} {d : DataW H} {ps : List MemPlace}
    (h : DataW.Trod enc Tryd.prog W base spare held 27 (.slice ao len cap) d ps) :
    ∃ L : List Val, L.length = len ∧ IsVals W ao L ∧ (∀ v ∈ L, v.wide) ∧ (ao = none → len = 0 ∧ cap = 0) := by
  obtain ⟨fuel, hf⟩ := h
  have ce : Tryd.prog.cellsOf 32 = 3 := by kernel_rfl
  rcases Go.Deep.open_slice Tryd.underlying27 hf with ⟨hcs, _⟩ | ⟨a, l, c, m, n, D, Pl, hcs, _, _, _, hmm, _, hx⟩
  · simp [Value.cells] at hcs
    obtain ⟨rfl, rfl, rfl⟩ := hcs
    exact ⟨[], rfl, fun j v hj => by simp at hj, fun v hv => by simp at hv, fun _ => ⟨rfl, rfl⟩⟩
  · simp [Value.cells] at hcs
    obtain ⟨rfl, rfl, rfl⟩ := hcs
    have hlm : len ≤ m := by rw [hmm]; split <;> omega
    have each : ∀ i, i < len → ∃ v : Val, v.wide ∧ ∃ b o, a = ⟨b, o, none⟩ ∧ W.cell? ⟨b, o + i * 3, none⟩ = some (.int .i64 v.k) ∧ W.cell? ⟨b, o + i * 3 + 1, none⟩ = some (.int .i64 v.i) ∧ W.cell? ⟨b, o + i * 3 + 2, none⟩ = some (.string v.s) := by
      intro i hi
      obtain ⟨cs0, k1, _⟩ := hx 0 (by omega)
      obtain ⟨cs', h1, h2⟩ := hx i (by omega)
      rw [ce] at h1 k1
      obtain ⟨_, _, kcell⟩ := World.cells?_some k1
      obtain ⟨_, hlen, hcell⟩ := World.cells?_some h1
      obtain ⟨v, rfl, hw⟩ := three_cells h2
      have f0 := hcell 0 (by omega)
      have f1 := hcell 1 (by omega)
      have f2 := hcell 2 (by omega)
      obtain ⟨b, o, sp⟩ := a
      have hsp : sp = none := by
        cases sp with
        | none => rfl
        | some t =>
          exfalso
          have g := kcell 0 (by omega)
          have hl0 : cs0.length = 3 := (World.cells?_some k1).2.1
          have : (W.cell? ⟨b, o, some t⟩) = none := by unfold World.cell?; simp; split <;> rfl
          simp [Addr.add] at g
          rw [this] at g
          have := List.getElem?_eq_none_iff.1 g.symm
          omega
      subst hsp
      simp only [Addr.add_lit] at f0 f1 f2
      exact ⟨v, hw, b, o, rfl, by simpa using f0, by simpa using f1, by simpa using f2⟩
    haveI : Inhabited Val := ⟨⟨0, 0, ⟨#[]⟩⟩⟩
    obtain ⟨V, hV⟩ := Go.Deep.choose_lt each
    refine ⟨(List.range len).map V, by simp, ?_, ?_, fun h => by cases h⟩
    · intro j v hj
      rw [List.getElem?_map] at hj
      obtain ⟨i, hi, rfl⟩ := Option.map_eq_some_iff.1 hj
      obtain ⟨h1, h2⟩ := List.getElem?_eq_some_iff.1 hi
      simp at h1 h2
      subst h2
      obtain ⟨_, b, o, rfl, c0, c1, c2⟩ := hV j h1
      exact ⟨b, o, rfl, c0, c1, c2⟩
    · intro v hv
      simp at hv
      obtain ⟨j, hj, rfl⟩ := hv
      exact (hV j hj).1
theorem wf_u8 {n : Int} (h : (Lit.int .u8 n).wf = true) : 0 ≤ n ∧ n < 256 := by
  have := bounds_u8 h
  omega
/-- A row of bytes lies behind an address. -/
def IsBy (w : World) (ao : Option Addr) (l : List Nat) : Prop :=
  ∀ (j c : Nat), l[j]? = some c → c < 256 ∧ ∃ b o, ao = some ⟨b, o, none⟩ ∧ w.cell? ⟨b, o + j, none⟩ = some (.int .u8 (c : Int))
theorem IsBy.next {w w' : World} {ao : Option Addr} {l : List Nat} (h : IsBy w ao l) (hb : Below w.heap.size w w') : IsBy w' ao l := by
  intro j c hj
  obtain ⟨h0, b, o, h1, h2⟩ := h j c hj
  exact ⟨h0, b, o, h1, keep_cell hb h2⟩
set_option maxRecDepth 8000 in
theorem open_bytes {H : Type} {enc : TypeId × Value → H} {W : World} {base : Nat} {spare : Nat → Bool} {held : Bool} {ao : Option Addr} {len cap : Nat} {d : DataW H} {ps : List MemPlace}
    (h : DataW.Trod enc Tryd.prog W base spare held 53 (.slice ao len cap) d ps) :
    ∃ l : List Nat, l.length = len ∧ IsBy W ao l := by
  obtain ⟨fuel, hf⟩ := h
  have ce : Tryd.prog.cellsOf 5 = 1 := by kernel_rfl
  rcases open_ints Tryd.underlying53 Tryd.underlying5 ce hf with ⟨hcs, _⟩ | ⟨a, l, c, zs, hcs, _, hlc, _, hzl, _, hx, hw⟩
  · simp [Value.cells] at hcs
    obtain ⟨rfl, rfl, rfl⟩ := hcs
    exact ⟨[], rfl, fun j s hj => by simp at hj⟩
  · simp [Value.cells] at hcs
    obtain ⟨rfl, rfl, rfl⟩ := hcs
    have hle : len ≤ zs.length := by rw [hzl]; split <;> omega
    refine ⟨(zs.take len).map fun n => n.toNat, by rw [List.length_map, List.length_take]; omega, fun j z hj => ?_⟩
    rw [List.getElem?_map] at hj
    obtain ⟨n, hn, rfl⟩ := Option.map_eq_some_iff.1 hj
    have hjl := (List.getElem?_eq_some_iff.1 hn).1
    rw [List.length_take] at hjl
    rw [List.getElem?_take_of_lt (by omega)] at hn
    have hb := wf_u8 (hw n (List.mem_of_getElem? hn))
    have hc := hx j (by omega)
    have hg : zs.getD j 0 = n := by rw [List.getD_eq_getElem?_getD, hn]; rfl
    obtain ⟨b, o, q⟩ := a
    have hq : q = none := by simpa [Addr.add] using World.cell?_spot (hx 0 (by omega))
    subst hq
    rw [Go.WideShapes.add_plain, hg] at hc
    exact ⟨by omega, b, o, rfl, by rw [hc, show ((n.toNat : Nat) : Int) = n by omega]⟩
end Go.Proofs.YtgjnnahflaaagaaDoor
