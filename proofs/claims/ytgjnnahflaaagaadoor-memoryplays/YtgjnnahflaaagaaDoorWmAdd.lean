/- What (*Memory).add leaves, step by step. -/
import Derived.Test.YtgjnnahflaaagaaDoorWmKey
import Derived.Test.YtgjnnahflaaagaaDoorWmRetr
import Derived.Deep.AppendLies
namespace Go.Proofs.YtgjnnahflaaagaaDoor
open Go.RowKit Go.Maps

/-- The number is taken, the map is there. -/
structure MidA (w : World) (B b : Nat) (v : Value) (bm last : Nat) (F : List Ft) : Prop where
  box : Bk w b 61 #[v, .map (some bm), .int .i64 (last + 1 : Nat)]
  hb : B ≤ b
  rw : Rw 44 w B v F
  hm : B ≤ bm
  map : MapIs w bm last F
  good : Good F last
theorem MidA.next {w w' : World} {B b bm last : Nat} {v : Value} {F : List Ft} (h : MidA w B b v bm last F) (hb : Below w.heap.size w w') : MidA w' B b v bm last F :=
  ⟨h.box.next hb, h.hb, h.rw.next hb, h.hm, h.map.same (hb.block bm h.map.lt), h.good⟩
theorem MapIs.mono {w : World} {bm n n' : Nat} {F : List Ft} (h : MapIs w bm n F) (hn : n ≤ n') : MapIs w bm n' F := by
  obtain ⟨D, h1, h2⟩ := h
  exact ⟨D, h1.mono hn, h2⟩
theorem Rw.set {T T' k : Nat} {w : World} {B : Nat} {v : Value} {F : List Ft} (h : Rw T w B v F) (hk : Kd w k T') (h1 : T' ≠ T) (h2 : T' ≠ 32) (j : Nat) (u : Value) : Rw T (w.setCell ⟨k, j, none⟩ u) B v F :=
  h.keep (fun q hq => Below.heap_setCell _ _ _ _ (fun e => h1 (hk.uniq (by have := Kd.own h.row hq; rw [e] at this; exact this)))) (fun q hq => Below.heap_setCell _ _ _ _ (fun e => h2 (hk.uniq (by rw [e] at hq; exact hq))))
theorem MapIs.set {w : World} {bm n k T : Nat} {F : List Ft} (h : MapIs w bm n F) (hk : Kd w k T) (j : Nat) (u : Value) : MapIs (w.setCell ⟨k, j, none⟩ u) bm n F :=
  h.same (Below.heap_setCell _ _ _ _ (fun e => by subst e; exact h.notKd hk))
theorem MidA.made {w : World} {B b last : Nat} {v : Value} (M : Mem w B b v (.map none) last []) (hB : B ≤ w.heap.size) :
    MidA (((w.alloc (.map #[] 0)).setCell ⟨b, 1, none⟩ (.map (some w.heap.size))).setCell ⟨b, 2, none⟩ (.int .i64 (last + 1 : Nat))) B b v w.heap.size last [] := by
  have ha := alloc_below w (.map #[] 0)
  have x1 := M.box.next ha
  have m1 := (mapIs_made w).mono (Nat.zero_le last)
  exact ⟨(x1.set 1 (.map (some w.heap.size))).set 2 _, M.hb, ((M.rw.next ha).set x1.kd (by decide) (by decide) 1 _).set (x1.kd.set _ _) (by decide) (by decide) 2 _, hB, (m1.set x1.kd 1 _).set (x1.kd.set _ _) 2 _, M.good⟩
theorem MidA.had {w : World} {B b bm last : Nat} {v : Value} {F : List Ft} (M : Mem w B b v (.map (some bm)) last F) :
    MidA (w.setCell ⟨b, 2, none⟩ (.int .i64 (last + 1 : Nat))) B b v bm last F := by
  obtain ⟨hm, hb, _⟩ := M.bm_off
  exact ⟨M.box.set 2 _, M.hb, M.rw.set M.box.kd (by decide) (by decide) 2 _, hb, hm.set M.box.kd 2 _, M.good⟩
theorem made_touch (w : World) (b : Nat) (v m x y : Value) : Touch w (((w.alloc (.map #[] 0)).setCell ⟨b, 1, none⟩ x).setCell ⟨b, 2, none⟩ y) (Foot b v m) :=
  ((Touch.ofBelow (alloc_below w _) (Foot b v m)).trans (Touch.set (F := Foot b v m) (.inl rfl)) (fun _ h => .inl h)).trans (Touch.set (F := Foot b v m) (.inl rfl)) (fun _ h => .inl h)

/-- The row has the new fact, and the struct has the row. -/
structure MidB (w : World) (B b : Nat) (v' : Value) (bm last : Nat) (F : List Ft) (f : Ft) : Prop where
  box : Bk w b 61 #[v', .map (some bm), .int .i64 (last + 1 : Nat)]
  hb : B ≤ b
  rw : Rw 44 w B v' (F ++ [f])
  hm : B ≤ bm
  map : MapIs w bm last F
  good : Good F last
theorem MidB.next {w w' : World} {B b bm last : Nat} {v : Value} {F : List Ft} {f : Ft} (h : MidB w B b v bm last F f) (hb : Below w.heap.size w w') : MidB w' B b v bm last F f :=
  ⟨h.box.next hb, h.hb, h.rw.next hb, h.hm, h.map.same (hb.block bm h.map.lt), h.good⟩
/-- Behind the append. -/
theorem MidA.push {w1 w2 : World} {B b bm last g cap : Nat} {v : Value} {F : List Ft} {f : Ft} {o : Obj} (h : MidA w1 B b v bm last F) (hv : ValsAt w1 B f.a f.c f.l)
    (ho : w2.ownsRow B 44 3 (.slice (some ⟨g, 0, none⟩) (F.length + 1) cap) (F.length + 1) (ftsC F ++ ftC f)) (hg : (w1.alloc o).grownBy w2 v.ownBlock) (m0 : Value) :
    Bk w2 b 61 #[v, .map (some bm), .int .i64 (last + 1 : Nat)] ∧ MidB (w2.setCell ⟨b, 0, none⟩ (.slice (some ⟨g, 0, none⟩) (F.length + 1) cap)) B b (.slice (some ⟨g, 0, none⟩) (F.length + 1) cap) bm last F f ∧
    Touch w1 (w2.setCell ⟨b, 0, none⟩ (.slice (some ⟨g, 0, none⟩) (F.length + 1) cap)) (Foot b v m0) := by
  have hsz : w1.heap.size ≤ (w1.alloc o).heap.size := (alloc_below w1 o).size
  have key : ∀ k T, Kd w1 k T → T ≠ 44 → w2.heap[k]? = w1.heap[k]? := fun k T hk hT =>
    (hg.block k (Nat.lt_of_lt_of_le hk.lt hsz) (fun e => hT (hk.uniq (Kd.own h.rw.row e.symm)))).trans (Below.heap_alloc _ _ _ hk.lt)
  have hbmo : v.ownBlock ≠ some bm := fun e => h.map.notKd (Kd.own h.rw.row e)
  have em : w2.heap[bm]? = w1.heap[bm]? := (hg.block bm (Nat.lt_of_lt_of_le h.map.lt hsz) (fun e => hbmo e.symm)).trans (Below.heap_alloc _ _ _ h.map.lt)
  have x1 := h.box.keep (key _ _ h.box.kd (by decide))
  have hbg : b ≠ g := fun e => by
    have := Kd.own ho (k := g) rfl
    subst e
    exact absurd (x1.kd.uniq this) (by decide)
  refine ⟨x1, ⟨x1.set 0 _, h.hb, ⟨?_, ?_⟩, h.hm, (h.map.same em).set x1.kd 0 _, h.good⟩, ?_⟩
  · rw [← ftsC_snoc, List.length_append]
    exact own_keep ho fun k hk => Below.heap_setCell _ _ _ _ (fun e => hbg (by
      have hk' : g = k := Option.some.inj hk
      have e' : k = b := e
      omega))
  · intro f' hf
    have hv' : ValsAt w1 B f'.a f'.c f'.l := by
      rcases List.mem_append.1 hf with hf | hf
      · exact h.rw.vals f' hf
      · simp at hf; subst hf; exact hv
    exact (hv'.keep fun x hx => key _ _ (hv'.blk x hx).2 (by decide)).set x1.kd (by decide) 0 _
  · have t1 : Touch w1 (w1.alloc o) (Foot b v m0) := Touch.ofBelow (alloc_below w1 o) _
    exact (t1.trans (Touch.ofGrown (F := Foot b v m0) hg fun k hk => .inr (.inl hk)) (fun _ h => .inl h)).trans (Touch.set (F := Foot b v m0) (.inl rfl)) (fun _ h => .inl h)
/-- The map has it too. -/
theorem MidB.store {w : World} {B b bm last : Nat} {v' : Value} {F : List Ft} {f : Ft} (h : MidB w B b v' bm last F f) (hi : f.id = last + 1) (hk : idOf F f.key = 0) (ho : FtOk f) (hl : last < 5000) :
    ∃ w', (Instr.mapUpdate 59 (.map (some bm)) (.string f.key) (.int .i64 (last + 1 : Nat))).run Tryd.prog w = .ok () w' ∧ Mem w' B b v' (.map (some bm)) (last + 1) (F ++ [f]) ∧ w.mapTurned w' bm := by
  have hkey : keyOf Tryd.prog 9 (.string f.key) = some (keyS f.key) := Go.WideMaps.keyOf_string_mk Tryd.underlying9 (key_size ho.1 ho.2.2 ho.2.1)
  have hwf : (Lit.int .i64 ((last + 1 : Nat) : Int)).wf = true := WalkArith.wf_i64 (by omega)
  have hz : ∀ g ∈ F, g.key ≠ f.key := idOf_zero (fun g hg => (h.good.pos g hg).1) hk
  obtain ⟨D, hown, hD⟩ := h.map
  obtain ⟨w', hrun, hown', hturn⟩ := hown.store lawS Tryd.underlying59 (by unfold maxLen; omega) hkey (plainElem_int Tryd.underlying3 hwf)
  refine ⟨w', hrun, ?_, hturn⟩
  have key : ∀ k T, Kd w k T → w'.heap[k]? = w.heap[k]? := fun k T hk => mapTurned_block hturn (fun e => by subst e; exact h.map.notKd hk)
  exact {
    box := h.box.keep (key _ _ h.box.kd)
    hb := h.hb
    rw := h.rw.keep (fun k hk => key _ _ (Kd.own h.rw.row hk)) (fun k hk => key _ _ hk)
    map := .inr ⟨bm, rfl, h.hm, by
      refine MapIs.put (w := w) ⟨D, hown, hD⟩ hz (by omega) ?_
      intro D' hown2
      have e1 : D' = D := by
        obtain ⟨es, c, h1, _, _, h2⟩ := hown
        obtain ⟨es', c', h1', _, _, h2'⟩ := hown2
        rw [h1] at h1'
        cases h1'
        rw [h2, h2']
      rw [e1, hi]
      exact hown'⟩
    good := h.good.snoc f hi hk ho
    small := by omega }
theorem IsVals.touch {w w' : World} {ao : Option Addr} {L : List Val} {P : Nat → Prop} (h : IsVals w ao L) (ht : Touch w w' P) (hoff : L ≠ [] → ∀ x, ao = some x → ¬ P x.block) : IsVals w' ao L := by
  intro j v hj
  obtain ⟨b, o, h0, h1, h2, h3⟩ := h j v hj
  have hne : L ≠ [] := fun e => by subst e; simp at hj
  have hb : w'.heap[b]? = w.heap[b]? := ht.block b (World.block_lt_of_cell? w ⟨b, _, none⟩ h1) (hoff hne _ h0)
  exact ⟨b, o, h0, (World.cell?_of_block (a := ⟨b, o + j * 3, none⟩) hb).trans h1, (World.cell?_of_block (a := ⟨b, o + j * 3 + 1, none⟩) hb).trans h2, (World.cell?_of_block (a := ⟨b, o + j * 3 + 2, none⟩) hb).trans h3⟩
end Go.Proofs.YtgjnnahflaaagaaDoor
