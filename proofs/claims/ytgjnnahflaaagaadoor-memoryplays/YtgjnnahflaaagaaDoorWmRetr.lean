/- The contract of Retract. -/
import Derived.Test.YtgjnnahflaaagaaDoorWmKey
import Derived.Test.YtgjnnahflaaagaaDoorWmSearch
import Derived.Test.YtgjnnahflaaagaaDoorWmDel
namespace Go.Proofs.YtgjnnahflaaagaaDoor
open Go.RowKit Go.Maps

/-- The map has forgotten a fact that the row still has. -/
structure Half (w : World) (B b : Nat) (v : Value) (bm last p : Nat) (F : List Ft) : Prop where
  box : Bk w b 61 #[v, .map (some bm), .int .i64 last]
  hb : B ≤ b
  rw : Rw 44 w B v F
  hm : B ≤ bm
  map : MapIs w bm last (F.eraseIdx p)
  good : Good F last
  small : last ≤ 5000
theorem mapTurned_block {w w' : World} {bm k : Nat} (h : w.mapTurned w' bm) (hk : k ≠ bm) : w'.heap[k]? = w.heap[k]? := by
  have hg := h.grown
  rcases Nat.lt_or_ge k w.heap.size with c | c
  · exact hg.block k c (fun e => hk (Option.some.inj e))
  · obtain ⟨es, c1, es', c', _, rfl⟩ := h
    rw [Array.getElem?_eq_none c, Array.getElem?_eq_none (by simpa [ChangeMaps.setBlock] using c)]
theorem mapTurned_touch {w w' : World} {bm b : Nat} {v : Value} (h : w.mapTurned w' bm) : Touch w w' (Foot b v (.map (some bm))) :=
  Touch.ofGrown h.grown fun k hk => .inr (.inr (by rw [hk]))
theorem Mem.bm_off {w : World} {B b bm last : Nat} {v : Value} {F : List Ft} (M : Mem w B b v (.map (some bm)) last F) : MapIs w bm last F ∧ B ≤ bm ∧ ∀ k T, Kd w k T → k ≠ bm := by
  rcases M.map with ⟨_, e⟩ | ⟨bm', e, hb, hm⟩
  · cases e
  · injection e with e
    injection e with e
    subst e
    exact ⟨hm, hb, fun k T hk h => by subst h; exact hm.notKd hk⟩
/-- 'delete(m.numbers, key)'. -/
theorem Mem.forget {w : World} {B b bm last p : Nat} {v : Value} {F : List Ft} {f : Ft} (M : Mem w B b v (.map (some bm)) last F) (hf : F[p]? = some f) (ty : TypeId) :
    ∃ w', (Builtin.delete_ #[59, 9] ty #[.map (some bm), .string f.key]).run Tryd.prog w = .ok (.tuple #[]) w' ∧ Half w' B b v bm last p F ∧ Touch w w' (Foot b v (.map (some bm))) := by
  obtain ⟨hm, hb, hoff⟩ := M.bm_off
  have hok := M.good.ok f (List.mem_of_getElem? hf)
  have hkey : keyOf Tryd.prog 9 (.string f.key) = some (keyS f.key) := Go.WideMaps.keyOf_string_mk Tryd.underlying9 (key_size hok.1 hok.2.2 hok.2.1)
  obtain ⟨D, hown, hD⟩ := hm
  obtain ⟨w', hrun, hown', hturn⟩ := hown.drop lawS Tryd.underlying59 hkey ty
  have hm' : MapIs w bm last F := ⟨D, hown, hD⟩
  refine ⟨w', hrun, ?_, mapTurned_touch hturn⟩
  have key : ∀ k T, Kd w k T → w'.heap[k]? = w.heap[k]? := fun k T hk => mapTurned_block hturn (hoff k T hk)
  exact {
    box := M.box.keep (key _ _ M.box.kd)
    hb := M.hb
    rw := M.rw.keep (fun k hk => key _ _ (Kd.own M.rw.row hk)) (fun k hk => key _ _ hk)
    hm := hb
    map := by
      refine ⟨_, hown', fun t => ?_⟩
      rw [idOf_erase F p f t M.good.one hf]
      by_cases e : f.key = t
      · subst e
        rw [has_del_same, atKey_del_same, if_pos rfl]
        exact ⟨rfl, rfl⟩
      · have e' : t ≠ f.key := fun h => e h.symm
        rw [has_del_other (keyS_ne e'), atKey_del_other (keyS_ne e'), if_neg e]
        exact hD t
    good := M.good
    small := M.small }
/-- The row closes up, and the struct has it. -/
theorem Half.close {w w' : World} {B b bm last p g N N' cap : Nat} {F : List Ft} (H : Half w B b (.slice (some ⟨g, 0, none⟩) N cap) bm last p F) (hN' : (F.eraseIdx p).length = N')
    (ho : w'.ownsRow B 44 3 (.slice (some ⟨g, 0, none⟩) N' cap) N' (ftsC (F.eraseIdx p))) (hg : w.grownBy w' (some g)) :
    Bk w' b 61 #[.slice (some ⟨g, 0, none⟩) N cap, .map (some bm), .int .i64 last] ∧
    Left w (w'.setCell ⟨b, 0, none⟩ (.slice (some ⟨g, 0, none⟩) N' cap)) B b (.slice (some ⟨g, 0, none⟩) N cap) (.map (some bm)) (.slice (some ⟨g, 0, none⟩) N' cap) (.map (some bm)) last (F.eraseIdx p) := by
  have kg : Kd w g 44 := Kd.own H.rw.row rfl
  have hbg : b ≠ g := fun e => by subst e; exact absurd (H.box.kd.uniq kg) (by decide)
  have hbm : bm ≠ b := fun e => by subst e; exact H.map.notKd H.box.kd
  have hbmg : bm ≠ g := fun e => by subst e; exact H.map.notKd kg
  have eb : w'.heap[b]? = w.heap[b]? := hg.block b H.box.lt (fun e => hbg (Option.some.inj e))
  have em : w'.heap[bm]? = w.heap[bm]? := hg.block bm H.map.lt (fun e => hbmg (Option.some.inj e))
  have x1 := H.box.keep eb
  refine ⟨x1, ⟨?_, ?_, ?_⟩⟩
  · exact {
      box := x1.set 0 (.slice (some ⟨g, 0, none⟩) N' cap)
      hb := H.hb
      rw := by
        refine ⟨?_, fun f hf => ?_⟩
        · rw [hN']
          exact own_keep ho fun k hk => Below.heap_setCell _ _ _ _ (fun e => hbg (by
            have hk' : g = k := Option.some.inj hk
            have e' : k = b := e
            omega))
        · have hv := H.rw.vals f ((List.eraseIdx_sublist F p).subset hf)
          refine (hv.keep fun x hx => ?_).set x1.kd (by decide) 0 _
          have hk := (hv.blk x hx).2
          exact hg.block _ hk.lt (fun e => absurd (hk.uniq (by rw [Option.some.inj e]; exact kg)) (by decide))
      map := .inr ⟨bm, rfl, H.hm, (H.map.same em).same (Below.heap_setCell _ _ _ _ hbm)⟩
      good := H.good.erase p
      small := H.small }
  · refine (Touch.ofGrown (F := Foot b (.slice (some ⟨g, 0, none⟩) N cap) (.map (some bm))) hg fun k hk => .inr (.inl hk)).trans (Touch.set (F := Foot b (.slice (some ⟨g, 0, none⟩) N cap) (.map (some bm))) (.inl rfl)) (fun j hj => .inl hj)
  · rintro k (h | h | h)
    · exact .inl (.inl h)
    · exact .inl (.inr (.inl h))
    · exact .inl (.inr (.inr h))
end Go.Proofs.YtgjnnahflaaagaaDoor
