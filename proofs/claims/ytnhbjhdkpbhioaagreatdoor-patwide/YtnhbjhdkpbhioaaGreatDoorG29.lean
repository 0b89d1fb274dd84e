/- strings.Builder: a text behind what it holds; how much it holds. -/
import Derived.Lib.AppendStr
import Derived.Laws.Concat
import Derived.Deep.RegionHeld3
import Derived.Test.YtnhbjhdkpbhioaaGreatDoorG3
import Derived.Test.YtnhbjhdkpbhioaaGreatDoorG28
import Derived.Test.YtnhbjhdkpbhioaaGreatDoorG13
namespace Go.Proofs.YtnhbjhdkpbhioaaGreatDoor
open Go.RowKit

theorem bown_next {B e size n : Nat} {w w' : World} {v : Value} {xs : List Value} (h : w.ownsRow B e size v n xs) (hb : Below w.heap.size w w') : w'.ownsRow B e size v n xs := by
  refine ⟨h.1, h.2.elim Or.inl (fun ⟨g, cap, cur, hv, hg, hh, r⟩ => Or.inr ⟨g, cap, cur, hv, hg, ?_, r⟩)⟩
  have hlt : g < w.heap.size := by
    rcases Nat.lt_or_ge g w.heap.size with h1 | h1
    · exact h1
    · rw [Array.getElem?_eq_none h1] at hh; exact absurd hh (by simp)
  rw [hb.block g hlt]
  exact hh
theorem Bld.keep {B b : Nat} {l : List UInt8} {w w' : World} (h : Bld B b l w) (hb : Below w.heap.size w w') : Bld B b l w' := by
  have key : ∀ p, Lib.BuilderAt 170 5 B b p (Lib.byteCells l) w → Lib.BuilderAt 170 5 B b p (Lib.byteCells l) w' := by
    rintro p ⟨h1, v, h2, h3, h4⟩
    refine ⟨h1, v, ?_, bown_next h3 hb, h4⟩
    have hlt : b < w.heap.size := by
      rcases Nat.lt_or_ge b w.heap.size with h' | h'
      · exact h'
      · simp [Array.getElem?_eq_none h'] at h2
    rw [hb.block b hlt]
    exact h2
  exact h.imp (key _) (key _)
theorem bcells_app (l m : List UInt8) : Lib.byteCells (l ++ m) = Lib.byteCells l ++ Lib.byteCells m := by unfold Lib.byteCells; rw [List.map_append]
theorem bstr_cells (m : List UInt8) : Lib.strCells ⟨m.toArray⟩ = Lib.byteCells m := by unfold Lib.strCells Lib.byteCells; rfl
set_option maxHeartbeats 1000000 in
set_option maxRecDepth 100000 in
theorem bwrite_str (B b : Nat) (l m : List UInt8) (s : ByteArray) (HSs : Hid (s = ⟨m.toArray⟩)) (w : World) (h : Bld B b l w) (hl : l.length + m.length ≤ 1000000) (hB : B ≤ w.heap.size) :
    Calls Tryz.prog 110 #[.pointer (some ⟨b, 0, none⟩), .string s] w fun e w' => (∃ n : Int, e = .returned (.tuple #[.int .i64 n, .nilIface])) ∧ Bld B b (l ++ m) w' ∧ Below B w w' := by
  obtain ⟨i0, hi, hz0, hz1, hz2⟩ := inU'
  have hcl : Hid ((Lib.byteCells l).length = l.length) := cells_len l
  have HSz : Hid (s.size = m.length) := by rw [Hid, HSs.out]; rfl
  have hss : s.size ≤ 1000000 := by rw [HSz.out]; omega
  go_enter Tryz.func110, Tryz.ntmps110
  go_wp2_with (go_at_call 128; refine (check_any B b l _ h).mono ?_)
  rintro e w1 ⟨rfl, ⟨hBb, v, hbk, hown, hne⟩, hb1⟩
  have hz := hb1.size
  have c0 : w1.cell? ⟨b, 0, none⟩ = some (.pointer (some ⟨b, 0, none⟩)) := by rw [Lib.cell_of_heap hbk]; rfl
  have c1 : w1.cell? ⟨b, 1, none⟩ = some v := by rw [Lib.cell_of_heap hbk]; rfl
  go_wp2_with (at_builtin; refine Lib.wpList_append_own_string _ rfl _ _ 22 9 rfl B 5 i0 Tryz.underlying22 Tryz.underlying9 hi hz0 hz1 hz2 _ _ _ rfl hown s rfl ?c3 ?c4 ?c5 ?_)
  case c3 => unfold maxLen; rw [hcl.out]; have := HSz.out; omega
  case c4 => rw [hcl.out]; have := HSz.out; omega
  case c5 => omega
  intro v' w2 hown' hgrow hnil
  have hlt : b < w1.heap.size := by
    rcases Nat.lt_or_ge b w1.heap.size with h' | h'
    · exact h'
    · simp [Array.getElem?_eq_none h'] at hbk
  have hb2 : w2.heap[b]? = some (.cells #[.pointer (some ⟨b, 0, none⟩), v] 170 (0, 0)) := by
    rw [hgrow.block b hlt (fun e => hne e.symm)]
    exact hbk
  have d0 : w2.cell? ⟨b, 0, none⟩ = some (.pointer (some ⟨b, 0, none⟩)) := by rw [Lib.cell_of_heap hb2]; rfl
  have d1 : w2.cell? ⟨b, 1, none⟩ = some v := by rw [Lib.cell_of_heap hb2]; rfl
  have f1 : w2.frozen? ⟨b, 1, none⟩ = false := Lib.frozen_of_heap hb2 1
  obtain ⟨vao, vn, vcap, rfl⟩ : ∃ vao vn vcap, v' = .slice vao vn vcap := by
    rcases hown'.2 with ⟨e, _⟩ | ⟨g, cap, cur, hv, _⟩
    · exact ⟨_, _, _, e⟩
    · exact ⟨_, _, _, hv⟩
  have HX : Hid (w2.ownsRow B 5 1 (.slice vao vn vcap) ((Lib.byteCells l ++ Lib.byteCells m).length) (Lib.byteCells l ++ Lib.byteCells m)) := by
    have e : Lib.strCells s = Lib.byteCells m := by rw [HSs.out, bstr_cells]
    rw [e] at hown'
    have e2 : (Lib.byteCells l ++ Lib.byteCells m).length = (Lib.byteCells l).length + s.size := by rw [List.length_append, cells_len m, HSz.out]
    rw [Hid, e2]
    exact hown'
  clear hcl
  go_wp2
  go_ret2
  refine ⟨⟨_, rfl⟩, Or.inr ?_, ?_⟩
  · rw [bcells_app]
    exact Lib.BuilderAt.put (T := 170) (e := 5) hBb hb2 (bs' := Lib.byteCells l ++ Lib.byteCells m) HX.out (by decide)
  · exact ((hb1.trans (Below.refl _ _)).grown hgrow (by omega) (fun k hk => (hown.lt k hk).1)).setCell (p := ⟨b, 1, none⟩) hBb _
end Go.Proofs.YtnhbjhdkpbhioaaGreatDoor
/- A fact's text, part by part. -/
namespace Go.Proofs.YtnhbjhdkpbhioaaGreatDoor
open Go.RowKit

theorem ba_cat (a b : ByteArray) : a ++ b = baL (a.data.toList ++ b.data.toList) := by
  rw [← baL_app, ba_self, ba_self]
theorem part_cat (n X : ByteArray) : (((⟨#[32, 40]⟩ ++ n) ++ ⟨#[32]⟩) ++ X) ++ (⟨#[41]⟩ : ByteArray) = baL (32 :: 40 :: (n.data.toList ++ 32 :: (X.data.toList ++ [41]))) := by
  rw [ba_cat _ (⟨#[41]⟩ : ByteArray), ba_cat _ X, ba_cat _ (⟨#[32]⟩ : ByteArray), ba_cat _ n, baL_list, baL_list, baL_list]
  congr 1
  simp
theorem open_cat (n : ByteArray) : ⟨#[40]⟩ ++ n = baL (40 :: n.data.toList) := by
  rw [ba_cat]; rfl
theorem textP_snoc {l : List Sl} {vs : List Val} {k : Nat} {s : Sl} {v : Val} (h1 : l[k]? = some s) (h2 : vs[k]? = some v) : textP ((l.zip vs).take (k + 1)) = textP ((l.zip vs).take k) ++ partS s v := by
  obtain ⟨g1, e1⟩ := List.getElem?_eq_some_iff.1 h1
  obtain ⟨g2, e2⟩ := List.getElem?_eq_some_iff.1 h2
  have hz : k < (l.zip vs).length := by rw [List.length_zip]; omega
  rw [List.take_succ_eq_append_getElem hz, List.getElem_zip, e1, e2]
  unfold textP
  rw [List.map_append, List.flatten_append]; simp
theorem textP_le (l : List (Sl × Val)) (k : Nat) : (textP (l.take k)).length ≤ (textP l).length := by
  have : textP l = textP (l.take k) ++ textP (l.drop k) := by
    unfold textP
    rw [← List.flatten_append, ← List.map_append, List.take_append_drop]
  rw [this, List.length_append]; omega
end Go.Proofs.YtnhbjhdkpbhioaaGreatDoor
/- Package tmpl's Text. -/
namespace Go.Proofs.YtnhbjhdkpbhioaaGreatDoor
open Go.RowKit

theorem keep_under {B : Nat} {w w' : World} {p : Addr} {v : Value} (hb : Below B w w') (h : w.cell? p = some v) (hl : p.block < B) : w'.cell? p = some v := by
  rw [hb.cell hl]; exact h
structure TxW (w wr : World) (tn : ByteArray) (ao : Option Addr) (N cap : Nat) (P : Nat) (txt : List UInt8) : Prop where
  bel : Below w.heap.size w wr
  x : Bx wr w.heap.size #[.string tn, .slice ao N cap]
  b : Bld P P txt wr
theorem TxW.next {w wr w' : World} {tn : ByteArray} {ao : Option Addr} {N cap P : Nat} {txt : List UInt8} (h : TxW w wr tn ao N cap P txt) (hb : Below wr.heap.size wr w') : TxW w w' tn ao N cap P txt := ⟨next_trans h.bel hb, h.x.next hb, h.b.keep hb⟩

end Go.Proofs.YtnhbjhdkpbhioaaGreatDoor
