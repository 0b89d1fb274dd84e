/- The contract of (*Table).add: a new name goes behind the others. -/
import Derived.Test.YthkkgjoegcbaaaaTabW
import Derived.Test.YthkkgjoegcbaaaaShelf
import Derived.RegionTactic
import Derived.BigRegion
namespace Go.Proofs.Ythkkgjoegcbaaaa
open Go.RowKit Go.Maps

theorem clone_any (s : ByteArray) (w : World) (hs : s.size ≤ 40) :
    Calls Try.prog 18 #[.string s] w fun e w' => e = .returned (.string s) ∧ Below w.heap.size w w' := by
  go_enter Try.func18, Try.ntmps18
  go_wp2_with (go_at_call 19; refine (Try.stringslite_Clone s _ (by omega)).mono ?_; rintro e w1 ⟨rfl, hb⟩)
  go_ret
  exact ⟨rfl, hb⟩

theorem mapIs_made {w : World} : MapIs (w.alloc (.map #[] 0)) w.heap.size [] :=
  ⟨.map [], World.ownsMap_made w Try.prog 9 (plainElem Try.prog 3), fun _ => ⟨rfl, rfl⟩⟩

/-- The new map's block, and the field that leads to it. -/
theorem Tab.made {w : World} {b : Nat} {v : Value} (T : Tab w b v (.map none) []) :
    Tab ((w.alloc (.map #[] 0)).setCell ⟨b, 1, none⟩ (.map (some w.heap.size))) b v (.map (some w.heap.size)) [] := by
  have hlt := T.lt
  have h0 : (w.alloc (.map #[] 0)).cell? ⟨b, 0, none⟩ = some v := by rw [World.cell?_alloc_past _ _ _ hlt]; exact T.c0
  have h1 : (w.alloc (.map #[] 0)).cell? ⟨b, 1, none⟩ = some (.map none) := by rw [World.cell?_alloc_past _ _ _ hlt]; exact T.c1
  have g0 : (w.alloc (.map #[] 0)).frozen? ⟨b, 0, none⟩ = false := by rw [World.frozen?_alloc_past _ _ _ hlt]; exact T.f0
  have g1 : (w.alloc (.map #[] 0)).frozen? ⟨b, 1, none⟩ = false := by rw [World.frozen?_alloc_past _ _ _ hlt]; exact T.f1
  exact {
    c0 := by rw [World.cell?_setCell_other _ _ _ _ (by simp)]; exact h0
    c1 := World.cell?_setCell_same _ _ _ h1
    f0 := by rw [World.frozen?_setCell]; exact g0
    f1 := by rw [World.frozen?_setCell]; exact g1
    row := ownsRow_setCell_below (T.row.alloc _) (Nat.lt_succ_self _) _
    map := .inr ⟨w.heap.size, rfl, hlt, mapIs_made.same (Below.heap_setCell _ _ _ _ (Nat.ne_of_gt hlt))⟩
    one := once_nil
    le := Nat.zero_le _ }
theorem Touch.made (w : World) (b : Nat) (v m : Value) (x : Value) : Touch w ((w.alloc (.map #[] 0)).setCell ⟨b, 1, none⟩ x) (Foot b v m) :=
  ⟨rfl, rfl, rfl, by simp, fun k hk hn => by
    rw [Below.heap_setCell _ _ _ _ (fun e => hn (.inl e)), Below.heap_alloc _ _ _ hk]⟩

/-- Behind the append: the struct's cells and the map are as they were. -/
theorem Tab.appended {w1 w2 : World} {b bm : Nat} {v : Value} {L : List ByteArray} {o : Obj} (T : Tab w1 b v (.map (some bm)) L) (hM : MapIs w1 bm L) (hg : (w1.alloc o).grownBy w2 v.ownBlock) :
    w2.cell? ⟨b, 0, none⟩ = some v ∧ w2.cell? ⟨b, 1, none⟩ = some (.map (some bm)) ∧ w2.frozen? ⟨b, 0, none⟩ = false ∧ w2.frozen? ⟨b, 1, none⟩ = false ∧ MapIs w2 bm L := by
  have hlt := T.lt
  have hne : some b ≠ v.ownBlock := fun e => by have := T.row.lt b e.symm; omega
  have hmne : some bm ≠ v.ownBlock := by
    intro e
    rcases T.row.2 with ⟨rfl, _⟩ | ⟨g, cap, cur, rfl, _, hgg, _⟩
    · simp [Value.ownBlock] at e
    · simp [Value.ownBlock] at e
      subst e
      obtain ⟨D, ⟨es, cl, hh, _⟩, _⟩ := hM
      rw [hgg] at hh
      cases hh
  have e1 : w2.heap[b]? = w1.heap[b]? := (hg.block b (by simp; omega) hne).trans (Below.heap_alloc _ _ _ hlt)
  have e2 : w2.heap[bm]? = w1.heap[bm]? := (hg.block bm (by have := hM.lt; simp; omega) hmne).trans (Below.heap_alloc _ _ _ hM.lt)
  exact ⟨(World.cell?_of_block (a := ⟨b, 0, none⟩) e1).trans T.c0, (World.cell?_of_block (a := ⟨b, 1, none⟩) e1).trans T.c1, (World.frozen?_of_block (a := ⟨b, 0, none⟩) e1).trans T.f0, (World.frozen?_of_block (a := ⟨b, 1, none⟩) e1).trans T.f1, hM.same e2⟩

theorem mapIs_put {w : World} {bm : Nat} {L : List ByteArray} {s : ByteArray} {D : DataW Unit} (hD : ∀ s, Maps.has D (keyS s) = decide (pos L s ≠ 0) ∧ D.atKey (keyS s) (.lit (.int .i64 0)) = .lit (.int .i64 (pos L s))) (hm : IsMap D) (hp : pos L s = 0)
    (h : w.ownsMap Try.prog 9 (plainElem Try.prog 3) bm (L.length + 1) (D.put (keyS s) (.lit (.int .i64 ((L.length + 1 : Nat) : Int))))) : MapIs w bm (L ++ [s]) := by
  refine ⟨_, by rw [List.length_append]; exact h, fun t => ?_⟩
  by_cases e : t = s
  · subst e
    rw [has_put_same hm (by trivial), atKey_put_same hm (by trivial), pos_snoc_same L t hp]
    exact ⟨by simp, rfl⟩
  · rw [has_put_other (keyS_ne e), atKey_put_other (keyS_ne e), pos_snoc_other L s t e]
    exact hD t

/-- The struct's row, its map and its cells behind all that add writes. -/
theorem Tab.added {w2 w4 : World} {b bm g cap : Nat} {L : List ByteArray} {s : ByteArray} {v : Value} (hb : b < bm) (k0 : w2.cell? ⟨b, 0, none⟩ = some v) (k1 : w2.cell? ⟨b, 1, none⟩ = some (.map (some bm))) (e0 : w2.frozen? ⟨b, 0, none⟩ = false) (e1 : w2.frozen? ⟨b, 1, none⟩ = false)
    (hr : w2.ownsRow (b + 1) 9 1 (.slice (some ⟨g, 0, none⟩) (L.length + 1) cap) (L.length + 1) (L.map Value.string ++ [.string s])) (hM0 : MapIs w2 bm L)
    (ht : (w2.setCell ⟨b, 0, none⟩ (.slice (some ⟨g, 0, none⟩) (L.length + 1) cap)).drew.mapTurned w4 bm) (hM : MapIs w4 bm (L ++ [s])) (ho : Once L) (hp : pos L s = 0) (hl : L.length < 4096) :
    Tab w4 b (.slice (some ⟨g, 0, none⟩) (L.length + 1) cap) (.map (some bm)) (L ++ [s]) ∧ Touch w2 w4 (Foot b v (.map (some bm))) := by
  have hgr := ht.grown
  have hlt : b < w2.heap.size := World.block_lt_of_cell? w2 ⟨b, 0, none⟩ k0
  have hbs : b < (w2.setCell ⟨b, 0, none⟩ (.slice (some ⟨g, 0, none⟩) (L.length + 1) cap)).drew.heap.size := by simpa using hlt
  have hB : w4.heap[b]? = (w2.setCell ⟨b, 0, none⟩ (.slice (some ⟨g, 0, none⟩) (L.length + 1) cap)).heap[b]? := hgr.block b hbs (by simp; omega)
  have hr3 : (w2.setCell ⟨b, 0, none⟩ (.slice (some ⟨g, 0, none⟩) (L.length + 1) cap)).ownsRow (b + 1) 9 1 (.slice (some ⟨g, 0, none⟩) (L.length + 1) cap) (L.length + 1) (L.map Value.string ++ [.string s]) := ownsRow_setCell_below hr (Nat.lt_succ_self _) _
  have hgm : g ≠ bm := by
    intro e
    subst e
    rcases hr.2 with ⟨e, _⟩ | ⟨g', cap', cur, e, _, hgg, _⟩
    · cases e
    · obtain ⟨D, ⟨es, cl, hh, _⟩, _⟩ := hM0
      injection e with e _ _
      injection e with e
      injection e with e
      subst e
      rw [hgg] at hh
      cases hh
  refine ⟨{
    c0 := (World.cell?_of_block (a := ⟨b, 0, none⟩) hB).trans (World.cell?_setCell_same _ _ _ k0)
    c1 := (World.cell?_of_block (a := ⟨b, 1, none⟩) hB).trans (by rw [World.cell?_setCell_other _ _ _ _ (by simp)]; exact k1)
    f0 := (World.frozen?_of_block (a := ⟨b, 0, none⟩) hB).trans (by rw [World.frozen?_setCell]; exact e0)
    f1 := (World.frozen?_of_block (a := ⟨b, 1, none⟩) hB).trans (by rw [World.frozen?_setCell]; exact e1)
    row := by
      have := hr3.kept (w' := w4) (row := some bm) (World.grownBy.mk hgr.os hgr.tape hgr.output hgr.size hgr.block) (.inr (by simp [Value.ownBlock]; exact hgm))
      simpa using this
    map := .inr ⟨bm, rfl, hb, hM⟩
    one := once_snoc ho hp
    le := by simp; omega }, ?_⟩
  refine ⟨hgr.os, hgr.tape, hgr.output, by have := hgr.size; simpa using this, fun k hk hn => ?_⟩
  have h1 : w4.heap[k]? = (w2.setCell ⟨b, 0, none⟩ (.slice (some ⟨g, 0, none⟩) (L.length + 1) cap)).heap[k]? := hgr.block k (by simpa using hk) (fun e => hn (.inr (.inr (by rw [e]))))
  rw [h1, Below.heap_setCell _ _ _ _ (fun e => hn (.inl e))]

end Go.Proofs.Ythkkgjoegcbaaaa
