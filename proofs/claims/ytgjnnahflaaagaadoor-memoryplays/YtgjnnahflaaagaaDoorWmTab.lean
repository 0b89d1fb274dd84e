/- A memory of facts as it lies, and what keeps it: the struct's block, the row of facts with their values, the map of numbers. -/
import Derived.Test.YtgjnnahflaaagaaDoorWmVals
import Derived.Maps.OwnSet
namespace Go.Proofs.YtgjnnahflaaagaaDoor
open Go.RowKit Go.Maps

theorem lawS : Keyed Tryd.prog 9 := string_keyed Tryd.underlying9
theorem zeroI (w : World) : (zeroValue 3).run Tryd.prog w = .ok (.int .i64 0) w := by kernel_rfl
def keyS (s : ByteArray) : Lit := .string s.data.toList
theorem keyS_ne {s t : ByteArray} (h : t ≠ s) : keyS t ≠ keyS s := by
  intro e
  unfold keyS at e
  injection e with e
  exact h (ByteArray.ext (Array.toList_inj.1 e))
theorem key_size {t : ByteArray} {l : List Val} (ht : t.size ≤ 1000) (hl : ∀ v ∈ l, v.ok) (hn : l.length ≤ 50) : (keyB t l).size ≤ maxLen := by
  have h := hashL_len (keyV t l) (keyV_ok ht hl)
  have h2 : (keyV t l).length ≤ 51 := by unfold keyV; simp; omega
  show (hashL (keyV t l)).length ≤ maxLen
  unfold maxLen; omega

/-- The map's block holds each fact's number. -/
def MapIs (w : World) (bm n : Nat) (F : List Ft) : Prop :=
  ∃ D : DataW Unit, w.ownsMap Tryd.prog 9 (plainElem Tryd.prog 3) bm n D ∧
    ∀ s, Maps.has D (keyS s) = decide (idOf F s ≠ 0) ∧ D.atKey (keyS s) (.lit (.int .i64 0)) = .lit (.int .i64 (idOf F s))
theorem ownsMap_same {H : Type} {w w' : World} {P : Program} {k : TypeId} {R : Value → Option (DataW H × List MemPlace)} {b n : Nat} {D : DataW H} (h : w.ownsMap P k R b n D) (e : w'.heap[b]? = w.heap[b]?) : w'.ownsMap P k R b n D := by
  obtain ⟨es, c, h1, h2⟩ := h
  exact ⟨es, c, e.trans h1, h2⟩
theorem MapIs.lt {w : World} {bm n : Nat} {F : List Ft} (h : MapIs w bm n F) : bm < w.heap.size := h.elim fun _ h => h.1.lt
theorem MapIs.same {w w' : World} {bm n : Nat} {F : List Ft} (h : MapIs w bm n F) (e : w'.heap[bm]? = w.heap[bm]?) : MapIs w' bm n F := by
  obtain ⟨D, h1, h2⟩ := h
  exact ⟨D, ownsMap_same h1 e, h2⟩
theorem MapIs.like {w : World} {bm n : Nat} {F G : List Ft} (h : MapIs w bm n F) (e : F.map Ft.fc = G.map Ft.fc) : MapIs w bm n G := by
  obtain ⟨D, h1, h2⟩ := h
  refine ⟨D, h1, fun s => ?_⟩
  rw [← idOf_like F G s e]
  exact h2 s
theorem MapIs.notKd {w : World} {bm n T : Nat} {F : List Ft} (h : MapIs w bm n F) (hk : Kd w bm T) : False := by
  obtain ⟨D, ⟨es, cl, hh, _⟩, _⟩ := h
  obtain ⟨c, fz, hk⟩ := hk
  rw [hk] at hh
  cases hh
theorem mapIs_made (w : World) : MapIs (w.alloc (.map #[] 0)) w.heap.size 0 [] :=
  ⟨.map [], World.ownsMap_made w Tryd.prog 9 (plainElem Tryd.prog 3), fun _ => ⟨rfl, rfl⟩⟩
theorem MapIs.put {w w' : World} {bm n : Nat} {F : List Ft} {f : Ft} (h : MapIs w bm n F) (hp : ∀ g ∈ F, g.key ≠ f.key) (h1 : 1 ≤ f.id)
    (h2 : ∀ D : DataW Unit, w.ownsMap Tryd.prog 9 (plainElem Tryd.prog 3) bm n D → w'.ownsMap Tryd.prog 9 (plainElem Tryd.prog 3) bm (n + 1) (D.put (keyS f.key) (.lit (.int .i64 (f.id : Int))))) : MapIs w' bm (n + 1) (F ++ [f]) := by
  obtain ⟨D, h0, hD⟩ := h
  refine ⟨_, h2 D h0, fun t => ?_⟩
  rw [idOf_snoc F f t hp]
  by_cases e : f.key = t
  · subst e
    rw [has_put_same h0.isMap (by trivial), atKey_put_same h0.isMap (by trivial), if_pos rfl]
    exact ⟨by simp; omega, rfl⟩
  · have e' : t ≠ f.key := fun h => e h.symm
    rw [has_put_other (keyS_ne e'), atKey_put_other (keyS_ne e'), if_neg e]
    exact hD t
theorem MapIs.del {w w' : World} {bm n p : Nat} {F : List Ft} {f : Ft} (h : MapIs w bm n F) (hp : F.Pairwise fun f g => f.key ≠ g.key) (hf : F[p]? = some f)
    (h2 : ∀ D : DataW Unit, w.ownsMap Tryd.prog 9 (plainElem Tryd.prog 3) bm n D → w'.ownsMap Tryd.prog 9 (plainElem Tryd.prog 3) bm n (D.del (keyS f.key))) : MapIs w' bm n (F.eraseIdx p) := by
  obtain ⟨D, h0, hD⟩ := h
  refine ⟨_, h2 D h0, fun t => ?_⟩
  rw [idOf_erase F p f t hp hf]
  by_cases e : f.key = t
  · subst e
    rw [has_del_same, atKey_del_same, if_pos rfl]
    exact ⟨rfl, rfl⟩
  · have e' : t ≠ f.key := fun h => e h.symm
    rw [has_del_other (keyS_ne e'), atKey_del_other (keyS_ne e'), if_neg e]
    exact hD t

structure Mem (w : World) (B b : Nat) (v m : Value) (last : Nat) (F : List Ft) : Prop where
  box : Bk w b 61 #[v, m, .int .i64 last]
  hb : B ≤ b
  rw : Rw 44 w B v F
  map : (F = [] ∧ m = .map none) ∨ ∃ bm, m = .map (some bm) ∧ B ≤ bm ∧ MapIs w bm last F
  good : Good F last
  small : last ≤ 5000

/-- The blocks that a memory's methods may write. -/
def Foot (b : Nat) (v m : Value) (k : Nat) : Prop := k = b ∨ v.ownBlock = some k ∨ m = .map (some k)
theorem Mem.foot {w : World} {B b last : Nat} {v m : Value} {F : List Ft} (M : Mem w B b v m last F) {k : Nat} (h : Foot b v m k) : B ≤ k ∧ k < w.heap.size := by
  rcases h with rfl | h | h
  · exact ⟨M.hb, M.box.lt⟩
  · exact M.rw.row.lt k h
  · rcases M.map with ⟨_, e⟩ | ⟨bm, e, hb, hm⟩
    · rw [e] at h; cases h
    · rw [e] at h
      injection h with h
      injection h with h
      subst h
      exact ⟨hb, hm.lt⟩
/-- What is of another kind is none of them. -/
theorem Mem.off {w : World} {B b last k T : Nat} {v m : Value} {F : List Ft} (M : Mem w B b v m last F) (hk : Kd w k T) (h1 : T ≠ 61) (h2 : T ≠ 44) : ¬ Foot b v m k := by
  rintro (rfl | h | h)
  · exact h1 (hk.uniq M.box.kd)
  · exact h2 (hk.uniq (Kd.own M.rw.row h))
  · rcases M.map with ⟨_, e⟩ | ⟨bm, e, hb, hm⟩
    · rw [e] at h; cases h
    · rw [e] at h
      injection h with h
      injection h with h
      subst h
      exact hm.notKd hk
theorem Mem.kept {w w' : World} {B b last : Nat} {v m : Value} {F : List Ft} (M : Mem w B b v m last F) (h : ∀ k, B ≤ k → k < w.heap.size → w'.heap[k]? = w.heap[k]?) : Mem w' B b v m last F where
  box := M.box.keep (h b M.hb M.box.lt)
  hb := M.hb
  rw := ⟨own_keep M.rw.row fun k hk => h k (M.rw.row.lt k hk).1 (M.rw.row.lt k hk).2, fun f hf => (M.rw.vals f hf).keep fun x hx => h _ ((M.rw.vals f hf).blk x hx).1 ((M.rw.vals f hf).blk x hx).2.lt⟩
  map := by
    rcases M.map with e | ⟨bm, e, hb, hm⟩
    · exact .inl e
    · exact .inr ⟨bm, e, hb, hm.same (h bm hb hm.lt)⟩
  good := M.good
  small := M.small
theorem Mem.next {w w' : World} {B b last : Nat} {v m : Value} {F : List Ft} (M : Mem w B b v m last F) (h : Below w.heap.size w w') : Mem w' B b v m last F := M.kept fun k _ hk => h.block k hk
theorem Mem.base {w : World} {B B' b last : Nat} {v m : Value} {F : List Ft} (M : Mem w B b v m last F) (h : B' ≤ B) : Mem w B' b v m last F where
  box := M.box
  hb := Nat.le_trans h M.hb
  rw := M.rw.base h
  map := by
    rcases M.map with e | ⟨bm, e, hb, hm⟩
    · exact .inl e
    · exact .inr ⟨bm, e, Nat.le_trans h hb, hm⟩
  good := M.good
  small := M.small

/-- Of w's blocks only those of F may have turned. -/
structure Touch (w w' : World) (F : Nat → Prop) : Prop where
  os : w'.os = w.os
  tape : w'.tape = w.tape
  output : w'.output = w.output
  size : w.heap.size ≤ w'.heap.size
  block : ∀ k, k < w.heap.size → ¬ F k → w'.heap[k]? = w.heap[k]?
theorem Touch.refl (w : World) (F : Nat → Prop) : Touch w w F := ⟨rfl, rfl, rfl, Nat.le_refl _, fun _ _ _ => rfl⟩
theorem Touch.below {w w' : World} {F : Nat → Prop} (h : Touch w w' F) {B : Nat} (hB : B ≤ w.heap.size) (hF : ∀ k, F k → B ≤ k) : Below B w w' :=
  ⟨h.os, h.tape, h.output, h.size, fun k hk => h.block k (by omega) (fun e => by have := hF k e; omega)⟩
theorem Touch.ofBelow {w w' : World} (h : Below w.heap.size w w') (F : Nat → Prop) : Touch w w' F := ⟨h.os, h.tape, h.output, h.size, fun k hk _ => h.block k hk⟩
theorem Touch.ofGrown {w w' : World} {row : Option Nat} {F : Nat → Prop} (h : w.grownBy w' row) (hF : ∀ k, row = some k → F k) : Touch w w' F :=
  ⟨h.os, h.tape, h.output, h.size, fun k hk hn => h.block k hk (fun e => hn (hF k e.symm))⟩
theorem Touch.set {w : World} {b j : Nat} {u : Value} {F : Nat → Prop} (hF : F b) : Touch w (w.setCell ⟨b, j, none⟩ u) F :=
  ⟨rfl, rfl, rfl, by simp, fun k _ hn => Below.heap_setCell _ _ _ _ (fun e => hn (by rw [e]; exact hF))⟩
theorem Touch.drew {w w' : World} {F : Nat → Prop} (h : Touch w w' F) : Touch w w'.drew F := ⟨h.os, h.tape, h.output, h.size, h.block⟩
theorem Touch.undrew {w w' : World} {F : Nat → Prop} (h : Touch w.drew w' F) : Touch w w' F := ⟨h.os, h.tape, h.output, h.size, h.block⟩
theorem Touch.trans {w w' w'' : World} {F G : Nat → Prop} (h : Touch w w' F) (k : Touch w' w'' G) (hG : ∀ j, G j → F j ∨ w.heap.size ≤ j) : Touch w w'' F :=
  ⟨k.os.trans h.os, k.tape.trans h.tape, k.output.trans h.output, Nat.le_trans h.size k.size, fun j hj hn =>
    (k.block j (Nat.lt_of_lt_of_le hj h.size) (fun e => by rcases hG j e with a | a; exact hn a; omega)).trans (h.block j hj hn)⟩
theorem Touch.next {w w' w'' : World} {F : Nat → Prop} (h : Touch w w' F) (k : Below w'.heap.size w' w'') : Touch w w'' F := h.trans (Touch.ofBelow k (fun _ => False)) (fun _ hj => hj.elim)
/-- What is of another kind is kept. -/
theorem Touch.kd {w w' : World} {B b last k T : Nat} {v m : Value} {F : List Ft} (h : Touch w w' (Foot b v m)) (M : Mem w B b v m last F) (hk : Kd w k T) (h1 : T ≠ 61) (h2 : T ≠ 44) : w'.heap[k]? = w.heap[k]? :=
  h.block k hk.lt (M.off hk h1 h2)
theorem Touch.vals {w w' : World} {B B' b last c : Nat} {v m : Value} {F : List Ft} {a : Option Addr} {l : List Val} (h : Touch w w' (Foot b v m)) (M : Mem w B b v m last F) (hv : ValsAt w B' a c l) : ValsAt w' B' a c l :=
  hv.keep fun x hx => h.kd M (hv.blk x hx).2 (by decide) (by decide)
theorem Touch.rw {w w' : World} {B B' b last T : Nat} {v m rv : Value} {F R : List Ft} (h : Touch w w' (Foot b v m)) (M : Mem w B b v m last F) (hr : Rw T w B' rv R) (h1 : T ≠ 61) (h2 : T ≠ 44) : Rw T w' B' rv R :=
  hr.keep (fun k hk => h.kd M (Kd.own hr.row hk) h1 h2) (fun k hk => h.kd M hk (by decide) (by decide))
/-- A method's call leaves: the memory, turned, and nothing else turned. -/
structure Left (w w' : World) (B b : Nat) (v m v' m' : Value) (last' : Nat) (F' : List Ft) : Prop where
  mem : Mem w' B b v' m' last' F'
  tch : Touch w w' (Foot b v m)
  foot : ∀ k, Foot b v' m' k → Foot b v m k ∨ w.heap.size ≤ k
theorem Left.trans {w w' w'' : World} {B b l1 l2 : Nat} {v m v' m' v'' m'' : Value} {F' F'' : List Ft} (h : Left w w' B b v m v' m' l1 F') (k : Left w' w'' B b v' m' v'' m'' l2 F'') : Left w w'' B b v m v'' m'' l2 F'' :=
  ⟨k.mem, h.tch.trans k.tch h.foot, fun j hj => by
    rcases k.foot j hj with a | a
    · exact h.foot j a
    · exact .inr (Nat.le_trans h.tch.size a)⟩
theorem Left.next {w w' w'' : World} {B b l1 : Nat} {v m v' m' : Value} {F' : List Ft} (h : Left w w' B b v m v' m' l1 F') (k : Below w'.heap.size w' w'') : Left w w'' B b v m v' m' l1 F' :=
  ⟨h.mem.next k, h.tch.next k, h.foot⟩
theorem Left.refl {w : World} {B b last : Nat} {v m : Value} {F : List Ft} (M : Mem w B b v m last F) : Left w w B b v m v m last F := ⟨M, Touch.refl _ _, fun _ h => .inl h⟩
end Go.Proofs.YtgjnnahflaaagaaDoor
