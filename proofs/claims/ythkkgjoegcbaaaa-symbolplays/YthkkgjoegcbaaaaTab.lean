/- A table as it lies in memory, and what keeps it: the struct's two cells, the row of names, the map of numbers. -/
import Derived.Test.YthkkgjoegcbaaaaGood2
import Derived.Maps.OwnSet
namespace Go.Proofs.Ythkkgjoegcbaaaa
open Go.RowKit Go.Maps

theorem law9 : Keyed Try.prog 9 := string_keyed Try.underlying9
theorem zero3 (w : World) : (zeroValue 3).run Try.prog w = .ok (.int .i64 0) w := by kernel_rfl
theorem Try.info9 : (Try.prog.info? 9).map (fun i => (i.zero, i.size, i.bytes)) = some (some (.string ⟨#[]⟩), 1, 16) := by kernel_rfl
def keyS (s : ByteArray) : Lit := .string s.data.toList
theorem keyS_ne {s t : ByteArray} (h : t ≠ s) : keyS t ≠ keyS s := by
  intro e
  unfold keyS at e
  injection e with e
  exact h (ByteArray.ext (Array.toList_inj.1 e))

/-- The number of a name: its place from 1 on, 0 where it is not. -/
def pos : List ByteArray → ByteArray → Nat
  | [], _ => 0
  | a :: r, s => if a = s then 1 else if pos r s = 0 then 0 else pos r s + 1

theorem pos_snoc_same : ∀ (L : List ByteArray) (s : ByteArray), pos L s = 0 → pos (L ++ [s]) s = L.length + 1
  | [], s, _ => by simp [pos]
  | a :: r, s, h => by
    simp only [pos] at h
    split at h
    · cases h
    · split at h
      · next hn hz => simp [pos, hn, pos_snoc_same r s hz]
      · cases h
theorem pos_snoc_other : ∀ (L : List ByteArray) (s t : ByteArray), t ≠ s → pos (L ++ [s]) t = pos L t
  | [], s, t, h => by simp [pos, Ne.symm h]
  | a :: r, s, t, h => by simp only [List.cons_append, pos, pos_snoc_other r s t h]
theorem pos_some : ∀ (L : List ByteArray) (s : ByteArray), pos L s ≠ 0 → L[pos L s - 1]? = some s
  | [], s, h => by simp [pos] at h
  | a :: r, s, h => by
    simp only [pos] at h ⊢
    split
    · next e => simp [e]
    · next e =>
      simp only [e, if_false] at h
      split at h
      · exact (h rfl).elim
      · next hz =>
        rw [if_neg hz]
        have := pos_some r s hz
        obtain ⟨k, hk⟩ : ∃ k, pos r s = k + 1 := ⟨pos r s - 1, by omega⟩
        rw [hk] at this ⊢
        simpa using this
theorem pos_of_get : ∀ (L : List ByteArray) (s : ByteArray) (j : Nat), L[j]? = some s → pos L s ≠ 0
  | [], s, j, h => by simp at h
  | a :: r, s, 0, h => by simp at h; simp [pos, h]
  | a :: r, s, j + 1, h => by
    simp at h
    have := pos_of_get r s j h
    simp only [pos]
    split
    · omega
    · omega
theorem pos_le : ∀ (L : List ByteArray) (s : ByteArray), pos L s ≤ L.length
  | [], s => by simp [pos]
  | a :: r, s => by
    have := pos_le r s
    simp only [pos, List.length_cons]
    split
    · omega
    · split <;> omega

/-- No name twice. -/
def Once (L : List ByteArray) : Prop := ∀ (i j : Nat) (s : ByteArray), L[i]? = some s → L[j]? = some s → i = j
theorem once_nil : Once [] := fun i j s h => by simp at h
theorem once_snoc {L : List ByteArray} {s : ByteArray} (h : Once L) (hp : pos L s = 0) : Once (L ++ [s]) := by
  intro i j t hi hj
  have key : ∀ i, (L ++ [s])[i]? = some t → (i < L.length ∧ L[i]? = some t) ∨ (i = L.length ∧ t = s) := by
    intro i hi
    by_cases hl : i < L.length
    · rw [List.getElem?_append_left hl] at hi
      exact .inl ⟨hl, hi⟩
    · rw [List.getElem?_append_right (by omega)] at hi
      obtain ⟨k, hk⟩ : ∃ k, i - L.length = k := ⟨_, rfl⟩
      rw [hk] at hi
      cases k with
      | zero => simp at hi; exact .inr ⟨by omega, hi.symm⟩
      | succ k => simp at hi
  rcases key i hi with ⟨_, a⟩ | ⟨a, a'⟩ <;> rcases key j hj with ⟨_, c⟩ | ⟨c, c'⟩
  · exact h i j t a c
  · subst c'; exact (pos_of_get L t i a hp).elim
  · subst a'; exact (pos_of_get L t j c hp).elim
  · omega
theorem once_pos {L : List ByteArray} (h : Once L) {s : ByteArray} {j : Nat} (hj : L[j]? = some s) : pos L s = j + 1 := by
  have h1 := pos_of_get L s j hj
  have := h _ _ _ (pos_some L s h1) hj
  omega

/-- The map's block holds each name's number. -/
def MapIs (w : World) (bm : Nat) (L : List ByteArray) : Prop :=
  ∃ D : DataW Unit, w.ownsMap Try.prog 9 (plainElem Try.prog 3) bm L.length D ∧
    ∀ s, Maps.has D (keyS s) = decide (pos L s ≠ 0) ∧ D.atKey (keyS s) (.lit (.int .i64 0)) = .lit (.int .i64 (pos L s))

structure Tab (w : World) (b : Nat) (v m : Value) (L : List ByteArray) : Prop where
  c0 : w.cell? ⟨b, 0, none⟩ = some v
  c1 : w.cell? ⟨b, 1, none⟩ = some m
  f0 : w.frozen? ⟨b, 0, none⟩ = false
  f1 : w.frozen? ⟨b, 1, none⟩ = false
  row : w.ownsRow (b + 1) 9 1 v L.length (L.map Value.string)
  map : (L = [] ∧ m = .map none) ∨ ∃ bm, m = .map (some bm) ∧ b < bm ∧ MapIs w bm L
  one : Once L
  le : L.length ≤ 4096

def Foot (b : Nat) (v m : Value) (k : Nat) : Prop := k = b ∨ v.ownBlock = some k ∨ m = .map (some k)

theorem Tab.lt {w : World} {b : Nat} {v m : Value} {L : List ByteArray} (T : Tab w b v m L) : b < w.heap.size := World.block_lt_of_cell? w ⟨b, 0, none⟩ T.c0
theorem MapIs.lt {w : World} {bm : Nat} {L : List ByteArray} (h : MapIs w bm L) : bm < w.heap.size := h.elim fun _ h => h.1.lt
theorem Tab.foot {w : World} {b : Nat} {v m : Value} {L : List ByteArray} (T : Tab w b v m L) {k : Nat} (h : Foot b v m k) : b ≤ k ∧ k < w.heap.size := by
  rcases h with rfl | h | h
  · exact ⟨Nat.le_refl _, T.lt⟩
  · have := T.row.lt k h
    omega
  · rcases T.map with ⟨_, e⟩ | ⟨bm, e, hb, hm⟩
    · rw [e] at h; cases h
    · rw [e] at h
      injection h with h
      injection h with h
      subst h
      exact ⟨by omega, hm.lt⟩
theorem ownsMap_same {H : Type} {w w' : World} {P : Program} {k : TypeId} {R : Value → Option (DataW H × List MemPlace)} {b n : Nat} {D : DataW H} (h : w.ownsMap P k R b n D) (e : w'.heap[b]? = w.heap[b]?) : w'.ownsMap P k R b n D := by
  obtain ⟨es, c, h1, h2⟩ := h
  exact ⟨es, c, e.trans h1, h2⟩
theorem ownsRow_same {w w' : World} {base : Nat} {e : TypeId} {size : Nat} {v : Value} {n : Nat} {xs : List Value} (h : w.ownsRow base e size v n xs) (hs : ∀ k, v.ownBlock = some k → w'.heap[k]? = w.heap[k]?) : w'.ownsRow base e size v n xs := by
  refine ⟨h.1, ?_⟩
  rcases h.2 with hn | ⟨g, cap, cur, rfl, hb, hgg, rest⟩
  · exact .inl hn
  · exact .inr ⟨g, cap, cur, rfl, hb, (hs g rfl).trans hgg, rest⟩
theorem ownsRow_base {w : World} {base base' : Nat} {e : TypeId} {size : Nat} {v : Value} {n : Nat} {xs : List Value} (h : w.ownsRow base e size v n xs) (hs : base' ≤ base) : w.ownsRow base' e size v n xs := by
  refine ⟨h.1, ?_⟩
  rcases h.2 with hn | ⟨g, cap, cur, rfl, hb, rest⟩
  · exact .inl hn
  · exact .inr ⟨g, cap, cur, rfl, by omega, rest⟩
theorem MapIs.same {w w' : World} {bm : Nat} {L : List ByteArray} (h : MapIs w bm L) (e : w'.heap[bm]? = w.heap[bm]?) : MapIs w' bm L := by
  obtain ⟨D, h1, h2⟩ := h
  exact ⟨D, ownsMap_same h1 e, h2⟩
theorem Tab.kept {w w' : World} {b : Nat} {v m : Value} {L : List ByteArray} (T : Tab w b v m L) (h : ∀ k, Foot b v m k → w'.heap[k]? = w.heap[k]?) : Tab w' b v m L where
  c0 := (World.cell?_of_block (a := ⟨b, 0, none⟩) (h b (.inl rfl))).trans T.c0
  c1 := (World.cell?_of_block (a := ⟨b, 1, none⟩) (h b (.inl rfl))).trans T.c1
  f0 := (World.frozen?_of_block (a := ⟨b, 0, none⟩) (h b (.inl rfl))).trans T.f0
  f1 := (World.frozen?_of_block (a := ⟨b, 1, none⟩) (h b (.inl rfl))).trans T.f1
  row := ownsRow_same T.row fun k hk => h k (.inr (.inl hk))
  map := by
    rcases T.map with e | ⟨bm, e, hb, hm⟩
    · exact .inl e
    · exact .inr ⟨bm, e, hb, hm.same (h bm (.inr (.inr e)))⟩
  one := T.one
  le := T.le

/-- Of w's blocks only those of F may have turned. -/
structure Touch (w w' : World) (F : Nat → Prop) : Prop where
  os : w'.os = w.os
  tape : w'.tape = w.tape
  output : w'.output = w.output
  size : w.heap.size ≤ w'.heap.size
  block : ∀ k, k < w.heap.size → ¬ F k → w'.heap[k]? = w.heap[k]?
theorem Touch.refl (w : World) (F : Nat → Prop) : Touch w w F := ⟨rfl, rfl, rfl, Nat.le_refl _, fun _ _ _ => rfl⟩
theorem Touch.below {w w' : World} {F : Nat → Prop} (h : Touch w w' F) {B : Nat} (hB : B ≤ w.heap.size) (hF : ∀ k, F k → B ≤ k) : Below B w w' :=
  ⟨h.os, h.tape, h.output, h.size, fun k hk => h.block k (by omega) (fun e => by have := hF k e; omega)⟩
theorem Touch.ofBelow {w w' : World} (h : Below w.heap.size w w') (F : Nat → Prop) : Touch w w' F := ⟨h.os, h.tape, h.output, h.size, fun k hk _ => h.block k hk⟩
theorem Touch.ofGrown {w w' : World} {row : Option Nat} {F : Nat → Prop} (h : w.grownBy w' row) (hF : ∀ k, row = some k → F k) : Touch w w' F :=
  ⟨h.os, h.tape, h.output, h.size, fun k hk hn => h.block k hk (fun e => hn (hF k e.symm))⟩
theorem Touch.trans {w w' w'' : World} {F G : Nat → Prop} (h : Touch w w' F) (k : Touch w' w'' G) (hG : ∀ j, G j → F j ∨ w.heap.size ≤ j) : Touch w w'' F :=
  ⟨k.os.trans h.os, k.tape.trans h.tape, k.output.trans h.output, Nat.le_trans h.size k.size, fun j hj hn =>
    (k.block j (Nat.lt_of_lt_of_le hj h.size) (fun e => by rcases hG j e with a | a; exact hn a; omega)).trans (h.block j hj hn)⟩

/-- 'append(l, s)' on a row of strings that one owns: where the new row lies. -/
theorem append_str {w : World} {base : Nat} {v : Value} {n : Nat} {xs : List Value} (hown : w.ownsRow base 9 1 v n xs) (ty : TypeId) (ad : Addr) (c : Nat) (s : ByteArray) (hc : w.cell? ad = some (.string s)) (hn : n ≤ 5000) (hbase : base ≤ w.heap.size) :
    ∃ v' w', (Builtin.append_ #[22, 22] ty #[v, .slice (some ad) 1 c]).run Try.prog w = .ok v' w' ∧ w'.ownsRow base 9 1 v' (n + 1) (xs ++ [.string s]) ∧ w.grownBy w' v.ownBlock ∧
      (∃ g cap, v' = .slice (some ⟨g, 0, none⟩) (n + 1) cap ∧ (v.ownBlock = some g ∨ w.heap.size ≤ g)) := by
  obtain ⟨i0, hi, hz0, hz1, hz2⟩ := info_parts Try.info9
  have hnews : ∀ (j : Nat) u, [Value.string s][j]? = some u → w.cell? (ad.add j) = some u := by
    intro j u hj
    cases j with
    | zero => simp at hj; subst hj; simpa [Addr.add] using hc
    | succ j => simp at hj
  have h1 : ∀ u ∈ [Value.string s], u.oneCell' = true := by intro u hu; simp at hu; subst hu; rfl
  have hm : n + 1 ≤ maxLen := by unfold maxLen; omega
  have hby : (n + 1) * 16 ≤ 140737488355328 := by omega
  rcases hown.2 with ⟨rfl, rfl⟩ | ⟨g, cap, cur, rfl, hbg, hg, hnc, hcm, hcs, htake⟩
  · have hx : xs = [] := List.eq_nil_of_length_eq_zero (by simpa using hown.1)
    subst hx
    obtain ⟨v', w', hr, ho, hgr, _⟩ := run_append_own (P := Try.prog) w w.heap.size 22 ty 9 i0 (.string ⟨#[]⟩) 1 16 Try.underlying22 hi hz0 hz1 hz2 rfl (by decide) _ 0 [] (World.ownsRow_nil w _ 9 1) ad 1 c [.string s] rfl hnews h1 hm hby (Nat.le_refl _)
    refine ⟨v', w', hr, ownsRow_base ho hbase, hgr, ?_⟩
    rcases ho.2 with ⟨_, e⟩ | ⟨g, cap, _, e, hb, _⟩
    · cases e
    · exact ⟨g, cap, e, .inr hb⟩
  · obtain ⟨v', w', hr, ho, hgr, _⟩ := run_append_own (P := Try.prog) w base 22 ty 9 i0 (.string ⟨#[]⟩) 1 16 Try.underlying22 hi hz0 hz1 hz2 rfl (by decide) _ n xs hown ad 1 c [.string s] rfl hnews h1 hm hby hbase
    refine ⟨v', w', hr, ho, hgr, ?_⟩
    by_cases hroom : n + 1 ≤ cap
    · have hfit : n * i0.size + [Value.string s].length ≤ cur.size := by rw [hz1, hcs]; simp; omega
      have hr2 := run_append_room (P := Try.prog) w 22 ty 9 i0 Try.underlying22 hi g n cap cur hg ad 1 c [.string s] (by rw [hz1]; rfl) hnews h1 hroom hfit
      rw [hr2] at hr
      injection hr with e1 _
      exact ⟨g, cap, e1.symm, .inl rfl⟩
    · have holds : ∀ j u, xs[j]? = some u → w.cell? ((⟨g, 0, none⟩ : Addr).add j) = some u := hown.cells (g := g) rfl
      have hr2 := run_append_grow (P := Try.prog) w 22 ty 9 i0 (.string ⟨#[]⟩) Try.underlying22 hi hz0 ⟨g, 0, none⟩ n cap xs (by rw [hz1]; exact hown.1) holds ad 1 c [.string s] (by rw [hz1]; rfl) hnews (by omega) (by omega) (by rw [hz2]; exact growslice_fits (by omega) hby)
      rw [hr2] at hr
      injection hr with e1 _
      exact ⟨w.heap.size, _, e1.symm, .inr (Nat.le_refl _)⟩

theorem wpList_append_str {w : World} {ops : Array Oper} {rest : List Oper} {o : Oper} {a : Act} {Q : Exit → Act → World → Prop} (hgd : o.guard = none) (x y : Operand)
    (ho : o.op = .call { callee := .builtin .append, args := #[x, y], argTypes := #[22, 22] })
    (base : Nat) (v : Value) (n : Nat) (xs : List Value) (hs : a.eval x = v) (hown : w.ownsRow base 9 1 v n xs) (ad : Addr) (c : Nat) (s : ByteArray) (hx : a.eval y = .slice (some ad) 1 c) (hc : w.cell? ad = some (.string s)) (hn : n ≤ 5000) (hbase : base ≤ w.heap.size)
    (h : ∀ g cap w', w'.ownsRow base 9 1 (.slice (some ⟨g, 0, none⟩) (n + 1) cap) (n + 1) (xs ++ [.string s]) → w.grownBy w' v.ownBlock → (v.ownBlock = some g ∨ w.heap.size ≤ g) → wpList Try.prog ops Q rest (a.put o.dst (.slice (some ⟨g, 0, none⟩) (n + 1) cap)) w') :
    wpList Try.prog ops Q (o :: rest) a w := by
  refine wpList_plain hgd fun K hK => ?_
  obtain ⟨v', w', hr, h2, h3, g, cap, rfl, h4⟩ := append_str hown o.type ad c s hc hn hbase
  unfold Oper.wp execOp
  simp only [ho, resolve, invoke, builtin, Sem.run_bind, Sem.run_pure, Result.andThen_ok, List.map_toArray, List.map_cons, List.map_nil, hs, hx, hr]
  exact hK _ _ (h g cap w' h2 h3 h4)

end Go.Proofs.Ythkkgjoegcbaaaa
