/- A row of the document's facts copied, with one more behind. -/
import Derived.Test.YtgjnnahflaaagaaDoorPlaysS
import Derived.Deep.AppendLies
namespace Go.Proofs.YtgjnnahflaaagaaDoor
open Go.RowKit Go.Maps

theorem append_rfs {w : World} {base B n : Nat} {v : Value} {xs : List Value} {ao : Option Addr} {N cap : Nat} {G : List Ft} (hown : w.ownsRow base 34 3 v n xs) (hR : Rw 34 w B (.slice ao N cap) G) (hn : n ≤ 1000) (hN2 : N ≤ 1000) (hb : base ≤ w.heap.size) :
    ∃ v' w', (Builtin.append_ #[26, 26] 26 #[v, .slice ao N cap]).run Tryd.prog w = .ok v' w' ∧ w'.ownsRow base 34 3 v' (n + N) (xs ++ ftsC G) ∧ w.grownBy w' v.ownBlock := by
  obtain ⟨i0, hi, hz0, hz1, hz2⟩ := infoRf'
  have hN := hR.len
  rcases hR.row.2 with ⟨e, h0⟩ | ⟨g, cap', cur, e, _⟩
  · injection e with e1 e2 e3
    subst e1 e2 e3
    have e : G = [] := List.eq_nil_of_length_eq_zero h0
    subst e
    refine ⟨v, w, run_append_owned_none w base 26 26 34 i0 3 Tryd.underlying26 hi v n xs hown, ?_, World.grownBy.refl _ _⟩
    show w.ownsRow base 34 3 v n (xs ++ [])
    rw [List.append_nil]
    exact hown
  · injection e with e1 e2 e3
    subst e1 e2 e3
    obtain ⟨v', w', h1, h2, h3, _⟩ := run_append_own (P := Tryd.prog) w base 26 26 34 i0 _ 3 48 Tryd.underlying26 hi hz0 hz1 hz2 rfl (by decide) v n xs hown ⟨g, 0, none⟩ G.length cap (ftsC G) (ftsC_len G) (fun j u hj => hR.row.cells (g := g) rfl j u hj) (ftsC_one G) (by unfold maxLen; omega) (by omega) hb
    exact ⟨v', w', h1, h2, h3⟩
/-- append, as one step of a region that draws, out of its run. -/
theorem step_append_run (w : World) {ops : Array Oper} {o : Oper} {a : Act} {K : Act → World → Prop} {Q : Exit → Act → World → Prop} {E : Prop}
    (hgd : o.guard = none) (s x : Operand) (t : TypeId) (hop : o.op = .call { callee := .builtin .append, args := #[s, x], argTypes := #[t, t] })
    (v u r : Value) (w' : World) (hs : a.eval s = v) (hx : a.eval x = u) (hr : (Builtin.append_ #[t, t] o.type #[v, u]).run Tryd.prog w = .ok r w') (h : K (a.put o.dst r) w') :
    if Region.wanted o (yielded ops a.tmps) = true then Oper.wp Tryd.prog o a w K Q else E := by
  have hw : Region.wanted o (yielded ops a.tmps) = true := by simp [Region.wanted, hgd]
  rw [if_pos hw]
  unfold Oper.wp execOp
  simp only [hop, resolve, invoke, builtin, Sem.run_bind, Sem.run_pure, Result.andThen_ok, List.map_toArray, List.map_cons, List.map_nil, hs, hx, hr]
  exact h
/-- A row of another kind stays. -/
theorem own_other {w w' : World} {base base' T T' size size' n n' : Nat} {v v' : Value} {xs xs' : List Value} (h : w.ownsRow base T size v n xs) (h2 : w.ownsRow base' T' size' v' n' xs') (hT : T ≠ T') (hg : w.grownBy w' v'.ownBlock) : w'.ownsRow base T size v n xs :=
  own_keep h fun k hk => hg.block k (h.lt k hk).2 (fun e => hT ((Kd.own h hk).uniq (Kd.own h2 e.symm)))
/-- What stands between two steps of the region. -/
structure NewW (w3 c : World) : Prop where
  bel : Below w3.heap.size w3 c
theorem NewW.alloc {w3 c : World} (h : NewW w3 c) (o : Obj) : NewW w3 (c.alloc o) := ⟨h.bel.alloc h.bel.size o⟩
theorem NewW.grown {w3 c c' : World} {T size n : Nat} {v : Value} {xs : List Value} (h : NewW w3 c) (ho : c.ownsRow w3.heap.size T size v n xs) (hg : c.grownBy c' v.ownBlock) : NewW w3 c' :=
  ⟨h.bel.grown hg h.bel.size (fun k hk => (ho.lt k hk).1)⟩
theorem NewW.made {w3 c : World} (h : NewW w3 c) (T : Nat) (size : Nat) : (c.alloc (.cells #[] T)).ownsRow w3.heap.size T size (.slice (some ⟨c.heap.size, 0, none⟩) 0 0) 0 [] :=
  World.ownsRow_made c #[] 0 h.bel.size (Nat.zero_le _) (by simp)
/-- Values stay where facts are appended. -/
theorem vals_other {w1 w2 : World} {o : Obj} {B base c T size n : Nat} {a : Option Addr} {v : Value} {xs : List Value} {L : List Val} (h : ValsAt w1 B a c L) (h2 : w1.ownsRow base T size v n xs) (hT : T ≠ 32) (hg : (w1.alloc o).grownBy w2 v.ownBlock) : ValsAt w2 B a c L :=
  h.keep fun x hx => (hg.block _ (Nat.lt_of_lt_of_le (h.blk x hx).2.lt (alloc_below w1 o).size) (fun e => hT ((Kd.own h2 e.symm).uniq (h.blk x hx).2))).trans (Below.heap_alloc _ _ _ (h.blk x hx).2.lt)
/-- The new row of facts. -/
theorem new_row {w w3 wx : World} {rn xn rc nx : Nat} {v12 : Value} {a' ro : Option Addr} {c' : Nat} {R : List Ft} {xl : List Val} {xt : ByteArray} (hR : Rw 34 w3 w.heap.size (.slice ro rn rc) R) (hx : xl.length = xn) (hb : NewW w3 wx) (hB : w.heap.size ≤ w3.heap.size)
    (h12 : wx.ownsRow w3.heap.size 34 3 v12 (rn + 1) (ftsC R ++ [.int .i64 nx, .string xt, .slice a' xn c'])) (h9 : ValsAt wx w3.heap.size a' c' xl) : Rw 34 wx w.heap.size v12 (R ++ [⟨nx, xt, xl, a', c'⟩]) := by
  have hn := hR.len
  subst hx
  refine ⟨?_, fun f hf => ?_⟩
  · rw [← ftsC_snoc, List.length_append, ← hn]
    exact own_base h12 hB
  · rcases List.mem_append.1 hf with hf | hf
    · exact (hR.next hb.bel).vals f hf
    · simp at hf
      subst hf
      exact h9.base hB
end Go.Proofs.YtgjnnahflaaagaaDoor
