/- strings.Builder: a text behind what it holds; how much it holds. -/
import Derived.Test.YtfglmfldpmpofaaDoorBuild
import Derived.Test.YtfglmfldpmpofaaDoorRefWords
import Derived.Lib.AppendStr
namespace Go.Proofs.YtfglmfldpmpofaaDoor
open Go.RowKit

theorem bown_next {B e size n : Nat} {w w' : World} {v : Value} {xs : List Value} (h : w.ownsRow B e size v n xs) (hb : Below w.heap.size w w') : w'.ownsRow B e size v n xs := by
  refine ⟨h.1, h.2.elim Or.inl (fun ⟨g, cap, cur, hv, hg, hh, r⟩ => Or.inr ⟨g, cap, cur, hv, hg, ?_, r⟩)⟩
  have hlt : g < w.heap.size := by
    rcases Nat.lt_or_ge g w.heap.size with h1 | h1
    · exact h1
    · rw [Array.getElem?_eq_none h1] at hh; exact absurd hh (by simp)
  rw [hb.block g hlt]
  exact hh
theorem Bld.keep {B b : Nat} {l : List UInt8} {w w' : World} (h : Bld B b l w) (hb : Below w.heap.size w w') : Bld B b l w' := by
  have key : ∀ p, Lib.BuilderAt 71 5 B b p (Lib.byteCells l) w → Lib.BuilderAt 71 5 B b p (Lib.byteCells l) w' := by
    rintro p ⟨h1, v, h2, h3, h4⟩
    refine ⟨h1, v, ?_, bown_next h3 hb, h4⟩
    have hlt : b < w.heap.size := by
      rcases Nat.lt_or_ge b w.heap.size with h' | h'
      · exact h'
      · simp [Array.getElem?_eq_none h'] at h2
    rw [hb.block b hlt]
    exact h2
  exact h.imp (key _) (key _)
theorem bcells_app (l m : List UInt8) : Lib.byteCells (l ++ m) = Lib.byteCells l ++ Lib.byteCells m := by unfold Lib.byteCells; rw [List.map_append]
theorem bstr_cells (m : List UInt8) : Lib.strCells ⟨m.toArray⟩ = Lib.byteCells m := by unfold Lib.strCells Lib.byteCells; rfl
theorem blen_any (B b : Nat) (l : List UInt8) (n : Int) (w : World) (h : Bld B b l w) (hn : n = (l.length : Int)) :
    Calls Tryd.prog 59 #[.pointer (some ⟨b, 0, none⟩)] w fun e w' => e = .returned (.int .i64 n) ∧ w' = w := by
  have h2 := Tryd.Builder_Len B b (Lib.byteCells l) w h
  rw [cells_len] at h2
  rw [hn]
  exact h2

set_option maxHeartbeats 1000000 in
set_option maxRecDepth 100000 in
theorem bwrite_str (B b : Nat) (l m : List UInt8) (s : ByteArray) (HSs : Hid (s = ⟨m.toArray⟩)) (w : World) (h : Bld B b l w) (hl : l.length + m.length ≤ 1000000) (hB : B ≤ w.heap.size) :
    Calls Tryd.prog 60 #[.pointer (some ⟨b, 0, none⟩), .string s] w fun e w' => (∃ n : Int, e = .returned (.tuple #[.int .i64 n, .nilIface])) ∧ Bld B b (l ++ m) w' ∧ Below B w w' := by
  obtain ⟨i0, hi, hz0, hz1, hz2⟩ := inU'
  have hcl : Hid ((Lib.byteCells l).length = l.length) := cells_len l
  have HSz : Hid (s.size = m.length) := by rw [Hid, HSs.out]; rfl
  have hss : s.size ≤ 1000000 := by rw [HSz.out]; omega
  go_enter Tryd.func60, Tryd.ntmps60
  go_wp2_with (go_at_call 73; refine (check_any B b l _ h).mono ?_)
  rintro e w1 ⟨rfl, ⟨hBb, v, hbk, hown, hne⟩, hb1⟩
  have hz := hb1.size
  have c0 : w1.cell? ⟨b, 0, none⟩ = some (.pointer (some ⟨b, 0, none⟩)) := by rw [Lib.cell_of_heap hbk]; rfl
  have c1 : w1.cell? ⟨b, 1, none⟩ = some v := by rw [Lib.cell_of_heap hbk]; rfl
  go_wp2_with (at_builtin; refine Lib.wpList_append_own_string _ rfl _ _ 68 9 rfl B 5 i0 Tryd.underlying68 Tryd.underlying9 hi hz0 hz1 hz2 _ _ _ rfl hown s rfl ?c3 ?c4 ?c5 ?_)
  case c3 => unfold maxLen; rw [hcl.out]; have := HSz.out; omega
  case c4 => rw [hcl.out]; have := HSz.out; omega
  case c5 => omega
  intro v' w2 hown' hgrow hnil
  have hlt : b < w1.heap.size := by
    rcases Nat.lt_or_ge b w1.heap.size with h' | h'
    · exact h'
    · simp [Array.getElem?_eq_none h'] at hbk
  have hb2 : w2.heap[b]? = some (.cells #[.pointer (some ⟨b, 0, none⟩), v] 71 (0, 0)) := by
    rw [hgrow.block b hlt (fun e => hne e.symm)]
    exact hbk
  have d0 : w2.cell? ⟨b, 0, none⟩ = some (.pointer (some ⟨b, 0, none⟩)) := by rw [Lib.cell_of_heap hb2]; rfl
  have d1 : w2.cell? ⟨b, 1, none⟩ = some v := by rw [Lib.cell_of_heap hb2]; rfl
  have f1 : w2.frozen? ⟨b, 1, none⟩ = false := Lib.frozen_of_heap hb2 1
  obtain ⟨vao, vn, vcap, rfl⟩ : ∃ vao vn vcap, v' = .slice vao vn vcap := by
    rcases hown'.2 with ⟨e, _⟩ | ⟨g, cap, cur, hv, _⟩
    · exact ⟨_, _, _, e⟩
    · exact ⟨_, _, _, hv⟩
  have HX : Hid (w2.ownsRow B 5 1 (.slice vao vn vcap) ((Lib.byteCells l ++ Lib.byteCells m).length) (Lib.byteCells l ++ Lib.byteCells m)) := by
    have e : Lib.strCells s = Lib.byteCells m := by rw [HSs.out, bstr_cells]
    rw [e] at hown'
    have e2 : (Lib.byteCells l ++ Lib.byteCells m).length = (Lib.byteCells l).length + s.size := by rw [List.length_append, cells_len m, HSz.out]
    rw [Hid, e2]
    exact hown'
  clear hcl
  go_wp2
  go_ret2
  refine ⟨⟨_, rfl⟩, Or.inr ?_, ?_⟩
  · rw [bcells_app]
    exact Lib.BuilderAt.put (T := 71) (e := 5) hBb hb2 (bs' := Lib.byteCells l ++ Lib.byteCells m) HX.out (by decide)
  · exact ((hb1.trans (Below.refl _ _)).grown hgrow (by omega) (fun k hk => (hown.lt k hk).1)).setCell (p := ⟨b, 1, none⟩) hBb _
end Go.Proofs.YtfglmfldpmpofaaDoor
