/- The contracts of New, Len, Next, of the copies of a row of values and of a fact, of a fact's key. -/
import Derived.Test.YtgjnnahflaaagaaDoorWmTab
import Derived.Lib.SliceRun
namespace Go.Proofs.YtgjnnahflaaagaaDoor
open Go.RowKit Go.Maps

set_option maxHeartbeats 1000000 in
theorem new_any (w : World) :
    Calls Tryd.prog 8 #[] w fun e w' => ∃ b, b = w.heap.size ∧ e = .returned (.pointer (some ⟨b, 0, none⟩)) ∧ Mem w' b b (.slice none 0 0) (.map none) 0 [] ∧ Below b w w' := by
  go_enter Tryd.func8, Tryd.ntmps8
  go_wp2
  go_ret
  refine ⟨_, rfl, rfl, ⟨Bk.made _ _ _, Nat.le_refl _, Rw.nil _ _ _, .inl ⟨rfl, rfl⟩, Good.nil _, by omega⟩, alloc_below _ _⟩

set_option maxHeartbeats 1000000 in
theorem len_any (w : World) (B b last : Nat) (v m : Value) (F : List Ft) (M : Mem w B b v m last F) :
    Calls Tryd.prog 19 #[.pointer (some ⟨b, 0, none⟩)] w fun e w' => e = .returned (.int .i64 F.length) ∧ w' = w := by
  have c0 : w.cell? ⟨b, 0, none⟩ = some v := M.box.cell 0
  obtain ⟨ao, cap, rfl, _, _⟩ := M.rw.slice
  clear M
  go_enter Tryd.func19, Tryd.ntmps19
  go_wp2
  go_ret
  exact ⟨rfl, rfl⟩

set_option maxHeartbeats 1000000 in
theorem next_cell (w : World) (b last : Nat) (c2 : w.cell? ⟨b, 2, none⟩ = some (.int .i64 last)) (hs : last ≤ 5000) :
    Calls Tryd.prog 20 #[.pointer (some ⟨b, 0, none⟩)] w fun e w' => e = .returned (.int .i64 (last + 1 : Nat)) ∧ w' = w := by
  go_enter Tryd.func20, Tryd.ntmps20
  go_wp2
  go_ret
  exact ⟨rfl, rfl⟩
set_option maxHeartbeats 1000000 in
theorem next_any (w : World) (B b last : Nat) (v m : Value) (F : List Ft) (M : Mem w B b v m last F) :
    Calls Tryd.prog 20 #[.pointer (some ⟨b, 0, none⟩)] w fun e w' => e = .returned (.int .i64 (last + 1 : Nat)) ∧ w' = w := by
  have c2 : w.cell? ⟨b, 2, none⟩ = some (.int .i64 last) := M.box.cell 2
  have hs := M.small
  clear M
  go_enter Tryd.func20, Tryd.ntmps20
  go_wp2
  go_ret
  exact ⟨rfl, rfl⟩

/-- An append whose run is known. -/
theorem wpList_append_run (w : World) {ops : Array Oper} {rest : List Oper} {o : Oper} {a : Act} {Q : Exit → Act → World → Prop} (hgd : o.guard = none) (s x : Operand) (t : TypeId)
    (ho : o.op = .call { callee := .builtin .append, args := #[s, x], argTypes := #[t, t] }) (v xv v' : Value) (w' : World) (hs : a.eval s = v) (hx : a.eval x = xv)
    (hr : (Builtin.append_ #[t, t] o.type #[v, xv]).run Tryd.prog w = .ok v' w') (h : wpList Tryd.prog ops Q rest (a.put o.dst v') w') : wpList Tryd.prog ops Q (o :: rest) a w :=
  wpList_plain hgd fun _ hK => by
    unfold Oper.wp execOp
    simp only [ho, resolve, invoke, builtin, Sem.run_bind, Sem.run_pure, Result.andThen_ok, List.map_toArray, List.map_cons, List.map_nil, hs, hx, hr]
    exact hK _ _ h

set_option maxHeartbeats 1000000 in
theorem clone_any (ao : Option Addr) (cap N : Nat) (L : List Val) (w : World) (hN : L.length = N) (hv : IsVals w ao L) (hc : ao = none → N = 0 ∧ cap = 0) (hm : N ≤ 1000) :
    Calls Tryd.prog 34 #[.slice ao N cap] w fun e w' => ∃ a' c', e = .returned (.slice a' N c') ∧ ValsAt w' w.heap.size a' c' L ∧ Below w.heap.size w w' := by
  have q := fun (w : World) (a : Option Addr) (n c n' c' : Nat) => Lib.run_eql_slice_nil (P := Tryd.prog) w 27 32 a n c n' c' Tryd.underlying27
  cases ao with
  | none =>
    obtain ⟨rfl, rfl⟩ := hc rfl
    have e : L = [] := List.eq_nil_of_length_eq_zero hN
    subst e
    clear hv hc hN
    go_enter Tryd.func34, Tryd.ntmps34
    go_wp2
    go_ret
    exact ⟨none, 0, rfl, ValsAt.none _ _, Below.refl _ _⟩
  | some a =>
    have hv1 : IsVals (w.alloc (.cells #[] 32)) (some a) L := hv.next (alloc_below _ _)
    obtain ⟨v', w', hr, hown, hg⟩ := append_vals (cap := cap) (World.ownsRow_made w #[] 0 (Nat.le_refl _) (Nat.zero_le _) (by simp)) hN hv1 (fun h => by cases h) (by omega) hm (by simp)
    rw [Nat.zero_add, List.nil_append] at hown
    obtain ⟨a', c', rfl, hva⟩ := ValsAt.own hN hown
    have HB : Hid (Below w.heap.size w w') := ((Below.refl _ w).alloc (Nat.le_refl _) _).grown hg (by simp) (by intro k hk; simp [Value.ownBlock] at hk; omega)
    have HV : Hid (ValsAt w' w.heap.size a' c' L) := hva
    clear hv hv1 hown hg hva
    go_enter Tryd.func34, Tryd.ntmps34
    go_wp2_with (at_builtin; refine wpList_append_run _ rfl _ _ 27 rfl _ _ _ _ rfl rfl hr ?_)
    go_ret
    exact ⟨a', c', rfl, HV.out, HB.out⟩

set_option maxHeartbeats 1000000 in
theorem copy_any (id : Int) (t : ByteArray) (ao : Option Addr) (cap N : Nat) (L : List Val) (w : World) (hN : L.length = N) (hv : IsVals w ao L) (hc : ao = none → N = 0 ∧ cap = 0) (hm : N ≤ 1000) :
    Calls Tryd.prog 31 #[.agg #[.int .i64 id, .string t, .slice ao N cap]] w fun e w' => ∃ a' c', e = .returned (.agg #[.int .i64 id, .string t, .slice a' N c']) ∧ ValsAt w' w.heap.size a' c' L ∧ Below w.heap.size w w' := by
  have HV : Hid (∀ w', Below w.heap.size w w' → IsVals w' ao L) := fun w' hb => hv.next hb
  have HN : Hid (L.length = N) := hN
  clear hv hN
  obtain ⟨W1, hW1⟩ : ∃ W1, Hid ((w.alloc (.cells #[.int .i64 id, .string t, .slice ao N cap] 44)).alloc (.cells #[.int .i64 0, .string ⟨#[]⟩, .slice none 0 0] 44) = W1) := ⟨_, rfl⟩
  have hb1 : Below w.heap.size w W1 := by rw [← hW1.out]; exact next_trans (alloc_below _ _) (alloc_below _ _)
  have x1 : Bk W1 w.heap.size 44 #[.int .i64 id, .string t, .slice ao N cap] := by rw [← hW1.out]; exact (Bk.made _ _ _).next (alloc_below _ _)
  have x2 : Bk W1 (w.heap.size + 1) 44 #[.int .i64 0, .string ⟨#[]⟩, .slice none 0 0] := Bk.made' hW1.out (by simp)
  go_enter Tryd.func31, Tryd.ntmps31
  go_wp2_with fail
  rw [hW1.out]
  refine (clone_any ao cap N L _ HN.out (HV.out _ hb1) hc hm).mono ?_
  rintro e w2 ⟨a', c', rfl, hva, hb2⟩
  have y1 := x1.next hb2
  have y2 := x2.next hb2
  have hbb : Below w.heap.size w w2 := next_trans hb1 hb2
  have hva' : ValsAt w2 w.heap.size a' c' L := hva.base hb1.size
  obtain ⟨b, hbe⟩ : ∃ b, w.heap.size = b := ⟨_, rfl⟩
  rw [hbe] at y1 y2 hbb hva' ⊢
  clear x1 x2 hc hW1 hb1 hb2 hva
  have s1 := y1.set 2 (.slice a' N c')
  have c0 : w2.cell? ⟨b, 0, none⟩ = some (.int .i64 id) := y1.cell 0
  have c1 : w2.cell? ⟨b, 1, none⟩ = some (.string t) := y1.cell 1
  have c2 : w2.cell? ⟨b, 2, none⟩ = some (.slice ao N cap) := y1.cell 2
  have f0 := y1.froz
  have d0 : w2.cell? ⟨b + 1, 0, none⟩ = some (.int .i64 0) := y2.cell 0
  have d1 : w2.cell? ⟨b + 1, 1, none⟩ = some (.string ⟨#[]⟩) := y2.cell 1
  have d2 : w2.cell? ⟨b + 1, 2, none⟩ = some (.slice none 0 0) := y2.cell 2
  have g0 := y2.froz
  go_wp2
  refine bodyPost_ret (v := .agg #[.int .i64 id, .string t, .slice a' N c']) (by simp [results, Tryd.results31, go_sem, d0, d1, d2]) rfl ⟨a', c', rfl, ?_, ?_⟩
  · rw [hbe]
    have k1 := y1.kd
    have k2 := y2.kd
    exact (((hva'.set k1 (by decide) 2 _).set (k2.set _ _) (by decide) 0 _).set ((k2.set _ _).set _ _) (by decide) 1 _).set (((k2.set _ _).set _ _).set _ _) (by decide) 2 _
  · rw [hbe]
    exact (((hbb.setCell (p := ⟨b, 2, none⟩) (Nat.le_refl _) _).setCell (p := ⟨b + 1, 0, none⟩) (Nat.le_succ _) _).setCell (p := ⟨b + 1, 1, none⟩) (Nat.le_succ _) _).setCell (p := ⟨b + 1, 2, none⟩) (Nat.le_succ _) _
end Go.Proofs.YtgjnnahflaaagaaDoor
