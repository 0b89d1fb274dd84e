/- The walk of (*Memory).add. -/
import Derived.Test.YtgjnnahflaaagaaDoorWmAdd
namespace Go.Proofs.YtgjnnahflaaagaaDoor
open Go.RowKit Go.Maps

theorem eq_map_some (bm : Nat) (w : World) : (binOp .eql 59 (.map (some bm)) (.map none)).run Tryd.prog w = .ok (.bool false) w := by kernel_rfl
theorem eq_map_none (w : World) : (binOp .eql 59 (.map none) (.map none)).run Tryd.prog w = .ok (.bool true) w := by kernel_rfl
theorem ftC_one (f : Ft) : ∀ u ∈ ftC f, u.oneCell' = true := by
  intro u hu
  simp [ftC] at hu
  rcases hu with rfl | rfl | rfl <;> rfl

theorem ftC_one3 (i : Int) (t : ByteArray) (a : Option Addr) (n c : Nat) : ∀ u ∈ ([.int .i64 i, .string t, .slice a n c] : List Value), u.oneCell' = true := by
  intro u hu
  simp at hu
  rcases hu with rfl | rfl | rfl <;> rfl
def ClT (L : List Val) (N : Nat) (w : World) (u : Value) (w2 : World) : Prop := ∃ a' c', u = .slice a' N c' ∧ ValsAt w2 w.heap.size a' c' L ∧ Below w.heap.size w w2
theorem step_clone {ops : Array Oper} {o : Oper} {a : Act} {w : World} {K : Act → World → Prop} {Q : Exit → Act → World → Prop} {E : Prop}
    (hgd : o.guard = none) (x : Operand) (hop : o.op = Op.call { callee := Callee.value (Operand.func 34), args := #[x], argTypes := #[27] }) (v : Value) (hx : a.eval x = v)
    (T : Value → World → Prop) (hc : Calls Tryd.prog 34 #[v] w fun e w' => ∃ u, e = .returned u ∧ T u w') (hK : ∀ u w', T u w' → K (a.put o.dst u) w') :
    if Region.wanted o (yielded ops a.tmps) = true then Oper.wp Tryd.prog o a w K Q else E := by
  have hw : Region.wanted o (yielded ops a.tmps) = true := by simp [Region.wanted, hgd]
  rw [if_pos hw]
  have hr : (execOp a.eval o).run Tryd.prog w = .ok (.enter 34 #[v]) w := by
    have h1 : ∀ args, (callFunc 34 args).run Tryd.prog w = .ok (.enter 34 args) w := fun args => by kernel_rfl
    unfold execOp
    simp [hop, resolve, invoke, h1, go_sem]
    cases x <;> simpa [Act.eval] using hx
  unfold Oper.wp
  rw [hr, Oper.upon_enter]
  refine hc.mono ?_
  rintro e w' ⟨u, rfl, ht⟩
  exact hK u w' ht
theorem ft_news (w : World) (b : Nat) (hb : b = w.heap.size) (x y z : Value) (T : Nat) : ∀ j u, ([x, y, z] : List Value)[j]? = some u → (w.alloc (.cells #[x, y, z] T)).cell? ((⟨b, 0, none⟩ : Addr).add j) = some u := by
  subst hb
  intro j u hu
  match j, hu with
  | 0, hu => simp at hu; subst hu; simp [Addr.add]
  | 1, hu => simp at hu; subst hu; simp [Addr.add]
  | 2, hu => simp at hu; subst hu; simp [Addr.add]

set_option maxHeartbeats 8000000 in
set_option maxRecDepth 20000 in
theorem add_any (w : World) (B b last : Nat) (v m : Value) (F : List Ft) (M : Mem w B b v m last F) (t : ByteArray) (ao : Option Addr) (cap N : Nat) (L : List Val) (hN : L.length = N) (hv : IsVals w ao L) (hc : ao = none → N = 0 ∧ cap = 0) (hoff : L ≠ [] → ∀ x, ao = some x → ¬ Foot b v m x.block)
    (hm : N ≤ 50) (hs : t.size ≤ 1000) (hl : ∀ v ∈ L, v.ok) (hk : idOf F (keyB t L) = 0) (hlast : last < 5000) (hB0 : 0 < B) (ht : TabW w) :
    Calls Tryd.prog 27 #[.pointer (some ⟨b, 0, none⟩), .string t, .slice ao N cap] w fun e w' => e = .returned (.int .i64 (last + 1 : Nat)) ∧ ∃ v' m' a' c', Left w w' B b v m v' m' (last + 1) (F ++ [⟨last + 1, t, L, a', c'⟩]) := by
  have hB : B ≤ w.heap.size := Nat.le_of_lt (Nat.lt_of_le_of_lt M.hb M.box.lt)
  have c0 : w.cell? ⟨b, 0, none⟩ = some v := M.box.cell 0
  have c1 : w.cell? ⟨b, 1, none⟩ = some m := M.box.cell 1
  have c2 : w.cell? ⟨b, 2, none⟩ = some (.int .i64 last) := M.box.cell 2
  have f0 := M.box.froz
  have hbl := M.box.lt
  have hmm := @run_makeMap Tryd.prog
  have q1 := eq_map_some
  have q2 := eq_map_none
  have HT : Hid (TabW w) := ht
  have HFt : Hid (∀ k, Foot b v m k → B ≤ k) := fun k hk => (M.foot hk).1
  have HV : Hid (IsVals w ao L ∧ (L ≠ [] → ∀ x, ao = some x → ¬ Foot b v m x.block)) := ⟨hv, hoff⟩
  have HC : Hid (ao = none → N = 0 ∧ cap = 0) := hc
  have HN : Hid (L.length = N) := hN
  have HO : Hid (t.size ≤ 1000 ∧ ∀ v ∈ L, v.ok) := ⟨hs, hl⟩
  have HK : Hid (idOf F (keyB t L) = 0) := hk
  obtain ⟨i0, hi, hz0, hz1, hz2⟩ := infoFt'
  obtain ⟨l1, hl1⟩ : ∃ l1, last + 1 = l1 := ⟨_, rfl⟩
  have HL1 : Hid (last + 1 = l1) := hl1
  obtain ⟨fo, fcap, rfl, hfc, hne⟩ := M.rw.slice
  obtain ⟨FN, hFN⟩ : ∃ FN, Hid (F.length = FN) := ⟨_, rfl⟩
  have hFNb : FN ≤ 5000 := by
    rw [← hFN.out]
    have h1 : ∀ (k : Nat) (f : Ft), F[k]? = some f → k + 1 ≤ f.id := by
      intro k
      induction k with
      | zero => intro f hf; exact (M.good.pos f (List.mem_of_getElem? hf)).1
      | succ k ih =>
        intro f hf
        have hlt := (List.getElem?_eq_some_iff.1 hf).1
        have h2 := ih F[k] (List.getElem?_eq_getElem (by omega))
        have h3 := M.good.lt (List.getElem?_eq_getElem (show k < F.length by omega)) hf (by omega)
        omega
    rcases Nat.eq_zero_or_pos F.length with e | e
    · omega
    · have h2 := h1 (F.length - 1) F[F.length - 1] (List.getElem?_eq_getElem (by omega))
      have h3 := (M.good.pos F[F.length - 1] (List.getElem_mem _)).2
      omega
  have hcase := M.map
  clear hv hoff hc hN hs hl hk hfc hne ht
  have hgen : ∃ (W1 : World) (bm : Nat), (m = .map none ∧ Hid (((w.setCell ⟨b, 1, none⟩ (.map (some w.heap.size))).setCell ⟨b, 2, none⟩ (.int .i64 l1)).alloc (.map #[] 0) = W1) ∨ m = .map (some bm) ∧ Hid (w.setCell ⟨b, 2, none⟩ (.int .i64 l1) = W1)) ∧
      Hid (MidA W1 B b (.slice fo F.length fcap) bm last F) ∧ Hid (Touch w W1 (Foot b (.slice fo F.length fcap) m)) ∧ Hid (m = .map (some bm) ∨ w.heap.size ≤ bm) := by
    rcases hcase with ⟨hF, rfl⟩ | ⟨bm, rfl, hbm, hM⟩
    · subst hF
      have e : ((w.setCell ⟨b, 1, none⟩ (.map (some w.heap.size))).setCell ⟨b, 2, none⟩ (.int .i64 l1)).alloc (.map #[] 0) = ((w.alloc (.map #[] 0)).setCell ⟨b, 1, none⟩ (.map (some w.heap.size))).setCell ⟨b, 2, none⟩ (.int .i64 l1) := by
        rw [World.setCell_alloc_past _ _ _ _ hbl, World.setCell_alloc_past _ _ _ _ (by simp; exact hbl)]
      refine ⟨_, w.heap.size, .inl ⟨rfl, e⟩, ?_, made_touch _ _ _ _ _ _, .inr (Nat.le_refl _)⟩
      rw [← hl1]; exact MidA.made M hB
    · refine ⟨_, bm, .inr ⟨rfl, rfl⟩, ?_, Touch.set (.inl rfl), .inl rfl⟩
      rw [← hl1]; exact MidA.had M
  obtain ⟨W1, bm, hW1, HA, HT1, HBm⟩ := hgen
  rw [hl1]
  rw [hFN.out] at c0 HA HT1 HV HFt ⊢
  clear hcase M hl1
  have nx : ∀ W : World, W.cell? ⟨b, 2, none⟩ = some (.int .i64 last) → Calls Tryd.prog 20 #[.pointer (some ⟨b, 0, none⟩)] W fun e w' => e = .returned (.int .i64 l1) ∧ w' = W := by
    intro W h; rw [← HL1.out]; exact next_cell W b last h (by omega)
  have HNx : Hid _ := nx
  clear nx
  have b0 : W1.cell? ⟨b, 0, none⟩ = some (.slice fo FN fcap) := HA.out.box.cell 0
  have b1 : W1.cell? ⟨b, 1, none⟩ = some (.map (some bm)) := HA.out.box.cell 1
  have b2 : W1.cell? ⟨b, 2, none⟩ = some (.int .i64 l1) := by rw [← HL1.out]; exact HA.out.box.cell 2
  have HCl : Hid (∀ w', Below W1.heap.size W1 w' → Calls Tryd.prog 34 #[.slice ao N cap] w' fun e w2 => ∃ u, e = .returned u ∧ ClT L N w' u w2) :=
    fun w' hb => (clone_any ao cap N L w' HN.out ((HV.out.1.touch HT1.out HV.out.2).next hb) HC.out (by omega)).mono fun e w2 ⟨a', c', he, h1, h2⟩ => ⟨_, he, a', c', rfl, h1, h2⟩
  have HAft : Hid (∀ (w2 : World) (a' : Option Addr) (c' : Nat), Below W1.heap.size W1 w2 → ValsAt w2 W1.heap.size a' c' L →
      (w2.cell? ⟨b, 0, none⟩ = some (.slice fo FN fcap) ∧ w2.cell? ⟨b, 2, none⟩ = some (.int .i64 l1) ∧ b < w2.heap.size) ∧ Hid (w2.ownsRow B 44 3 (.slice fo FN fcap) FN (ftsC F)) ∧ B ≤ w2.heap.size ∧
      Hid (∀ g gcap w3, w3.ownsRow B 44 3 (.slice (some ⟨g, 0, none⟩) (FN + 1) gcap) (FN + 1) (ftsC F ++ [.int .i64 l1, .string t, .slice a' N c']) → (w2.alloc (.cells #[.int .i64 l1, .string t, .slice a' N c'] 44)).grownBy w3 (Value.ownBlock (.slice fo FN fcap)) →
        w3.cell? ⟨b, 0, none⟩ = some (.slice fo FN fcap) ∧ w3.cell? ⟨b, 2, none⟩ = some (.int .i64 l1) ∧ (∀ j, w3.frozen? ⟨b, j, none⟩ = false) ∧ MidB (w3.setCell ⟨b, 0, none⟩ (.slice (some ⟨g, 0, none⟩) (FN + 1) gcap)) B b (.slice (some ⟨g, 0, none⟩) (FN + 1) gcap) bm last F ⟨l1, t, L, a', c'⟩ ∧ Touch w (w3.setCell ⟨b, 0, none⟩ (.slice (some ⟨g, 0, none⟩) (FN + 1) gcap)) (Foot b (.slice fo FN fcap) m))) := by
    intro w2 a' c' hb hva
    have H2 := HA.out.next hb
    have hb1 := HA.out.box.lt
    have hBb := HA.out.hb
    have hsz := hb.size
    have hva' : ValsAt w2 B a' c' L := hva.base (by omega)
    refine ⟨⟨H2.box.cell 0, by rw [← HL1.out]; exact H2.box.cell 2, H2.box.lt⟩, ?_, by omega, ?_⟩
    · have := H2.rw.row
      rw [hFN.out] at this
      exact this
    · intro g gcap w3 ho hg
      have ho' : w3.ownsRow B 44 3 (.slice (some ⟨g, 0, none⟩) (F.length + 1) gcap) (F.length + 1) (ftsC F ++ ftC ⟨l1, t, L, a', c'⟩) := by
        rw [hFN.out]
        unfold ftC
        rw [HN.out]
        exact ho
      obtain ⟨x1, x2, x3⟩ := H2.push (f := ⟨l1, t, L, a', c'⟩) hva' ho' hg m
      rw [hFN.out] at x2 x3
      exact ⟨x1.cell 0, by rw [← HL1.out]; exact x1.cell 2, x1.froz, x2, (HT1.out.next hb).trans x3 (fun _ h => .inl h)⟩
  obtain ⟨K, hK⟩ : ∃ K, Hid (keyB t L = K) := ⟨_, rfl⟩
  have HEnd : Hid (∀ (W2 : World) (v' : Value) (a' : Option Addr) (c' : Nat), MidB W2 B b v' bm last F ⟨l1, t, L, a', c'⟩ → Touch w W2 (Foot b (.slice fo FN fcap) m) →
      (W2.cell? ⟨b, 1, none⟩ = some (.map (some bm)) ∧ W2.cell? ⟨b, 2, none⟩ = some (.int .i64 l1)) ∧
      Hid (∀ w', Below W2.heap.size W2 w' → Calls Tryd.prog 26 #[.string t, .slice ao N cap] w' fun e w3 => e = .returned (.string K) ∧ Below w'.heap.size w' w3) ∧
      Hid (∀ w', Below W2.heap.size W2 w' → ∃ w3, (Instr.mapUpdate 59 (.map (some bm)) (.string K) (.int .i64 l1)).run Tryd.prog w' = .ok () w3 ∧ w3.cell? ⟨b, 1, none⟩ = some (.map (some bm)) ∧ w3.cell? ⟨b, 2, none⟩ = some (.int .i64 l1) ∧
        Hid (Mem w3 B b v' (.map (some bm)) l1 (F ++ [⟨l1, t, L, a', c'⟩]) ∧ Touch w w3 (Foot b (.slice fo FN fcap) m)))) := by
    intro W2 v' a' c' hM ht2
    have hl1 := HL1.out
    have hok : FtOk ⟨l1, t, L, a', c'⟩ := ⟨HO.out.1, by show L.length ≤ 50; rw [HN.out]; exact hm, HO.out.2⟩
    refine ⟨⟨hM.box.cell 1, by rw [← HL1.out]; exact hM.box.cell 2⟩, ?_, ?_⟩
    · intro w' hb
      rw [← hK.out]
      exact key_any t ao cap N L w' HN.out ((HV.out.1.touch ht2 HV.out.2).next hb) HC.out hm HO.out.1 HO.out.2 (by
        have hbb : Below B w w' := (ht2.next hb).below hB (fun k hk => HFt.out k hk)
        exact tab_below HT.out hbb hB0)
    · intro w' hb
      obtain ⟨w3, hrun, hMem, hturn⟩ := (hM.next hb).store hl1.symm (by rw [show Ft.key ⟨l1, t, L, a', c'⟩ = keyB t L from rfl]; exact HK.out) hok (by omega)
      rw [show Ft.key ⟨l1, t, L, a', c'⟩ = keyB t L from rfl, hK.out, hl1] at hrun
      rw [hl1] at hMem
      refine ⟨w3, hrun, hMem.box.cell 1, hMem.box.cell 2, hMem, ?_⟩
      refine (ht2.next hb).trans (Touch.ofGrown (F := fun k => k = bm) hturn.grown fun k hk => by cases hk; rfl) ?_
      intro j hj
      subst hj
      rcases HBm.out with e | e
      · exact .inl (.inr (.inr e))
      · exact .inr e
  have HFoot : Hid (∀ g gcap, (Value.ownBlock (.slice fo FN fcap) = some g ∨ w.heap.size ≤ g) → ∀ k, Foot b (.slice (some ⟨g, 0, none⟩) (FN + 1) gcap) (.map (some bm)) k → Foot b (.slice fo FN fcap) m k ∨ w.heap.size ≤ k) := by
    rintro g gcap hg k (h | h | h)
    · exact .inl (.inl h)
    · have hk : g = k := Option.some.inj h
      subst hk
      rcases hg with e | e
      · exact .inl (.inr (.inl e))
      · exact .inr e
    · injection h with h
      injection h with h
      subst h
      rcases HBm.out with e | e
      · exact .inl (.inr (.inr e))
      · exact .inr e
  rcases hW1 with ⟨rfl, hW1⟩ | ⟨rfl, hW1⟩
  all_goals
    go_enter Tryd.func27, Tryd.ntmps27
    go_wp2_with (go_at_call 20; refine (HNx.out _ (by first | exact c2 | exact alloc_cell (by rw [World.cell?_setCell_other _ _ _ _ (by simp)]; exact c2))).mono ?_; rintro e w ⟨rfl, rfl⟩)
    rw [hW1.out]
    clear c0 c1 c2 f0 hmm q1 q2
    refine wp_region_held_drew (S := (fun w' => w'.cell? ⟨b, 2, none⟩ = some (.int .i64 l1))) (by kernel_rfl) ?_ (fun hS0 => ?_)
    · exact b2
    refine wpAnyH_take (i := 0) (oi := { dst := some 21, op := Op.move (Operand.tmp 0), type := 24, pos := "wm.go:51", after := #[], guard := none }) (v := ?_) rfl (by kernel_rfl) (by kernel_rfl) (by kernel_rfl) (fun _ _ _ h => h) (Or.inl ⟨by rfl, ?hy0⟩) (by assumption) ?_
    case hy0 => (intro w hSw; (try dsimp only at hSw); go_simp; try with_reducible rfl)
    (try simp only [Act.put, List.setIfInBounds_toArray, List.set_cons_zero, List.set_cons_succ])
    refine wpAnyH_take (i := 1) (oi := { dst := some 22, op := Op.move (Operand.tmp 0), type := 24, pos := "wm.go:51", after := #[], guard := none }) (v := ?_) rfl (by kernel_rfl) (by kernel_rfl) (by kernel_rfl) (fun _ _ _ h => h) (Or.inl ⟨by rfl, ?hy1⟩) (by assumption) ?_
    case hy1 => (intro w hSw; (try dsimp only at hSw); go_simp; try with_reducible rfl)
    (try simp only [Act.put, List.setIfInBounds_toArray, List.set_cons_zero, List.set_cons_succ])
    refine wpAnyH_take (i := 2) (oi := { dst := some 23, op := Op.nilCheck (Operand.tmp 22), type := 0, pos := "wm.go:51", after := #[{ on := 1, ground := Ground.data }], guard := none }) (v := ?_) rfl (by kernel_rfl) (by kernel_rfl) (by kernel_rfl) (fun _ _ _ h => h) (Or.inl ⟨by rfl, ?hy2⟩) (by assumption) ?_
    case hy2 => (intro w hSw; (try dsimp only at hSw); go_simp; try with_reducible rfl)
    (try simp only [Act.put, List.setIfInBounds_toArray, List.set_cons_zero, List.set_cons_succ])
    refine wpAnyH_take (i := 3) (oi := { dst := some 24, op := Op.fieldAddr 61 (Operand.tmp 23) 0, type := 0, pos := "wm.go:51", after := #[{ on := 2, ground := Ground.data }], guard := none }) (v := ?_) rfl (by kernel_rfl) (by kernel_rfl) (by kernel_rfl) (fun _ _ _ h => h) (Or.inl ⟨by rfl, ?hy3⟩) (by assumption) ?_
    case hy3 => (intro w hSw; (try dsimp only at hSw); go_simp; try with_reducible rfl)
    (try simp only [Act.put, List.setIfInBounds_toArray, List.set_cons_zero, List.set_cons_succ])
    refine wpAnyH_take (i := 5) (oi := { dst := some 26, op := Op.move (Operand.tmp 0), type := 24, pos := "wm.go:51", after := #[], guard := none }) (v := ?_) rfl (by kernel_rfl) (by kernel_rfl) (by kernel_rfl) (fun _ _ _ h => h) (Or.inl ⟨by rfl, ?hy5⟩) (by assumption) ?_
    case hy5 => (intro w hSw; (try dsimp only at hSw); go_simp; try with_reducible rfl)
    (try simp only [Act.put, List.setIfInBounds_toArray, List.set_cons_zero, List.set_cons_succ])
    refine wpAnyH_take (i := 6) (oi := { dst := some 27, op := Op.nilCheck (Operand.tmp 26), type := 0, pos := "wm.go:51", after := #[{ on := 5, ground := Ground.data }], guard := none }) (v := ?_) rfl (by kernel_rfl) (by kernel_rfl) (by kernel_rfl) (fun _ _ _ h => h) (Or.inl ⟨by rfl, ?hy6⟩) (by assumption) ?_
    case hy6 => (intro w hSw; (try dsimp only at hSw); go_simp; try with_reducible rfl)
    (try simp only [Act.put, List.setIfInBounds_toArray, List.set_cons_zero, List.set_cons_succ])
    refine wpAnyH_take (i := 7) (oi := { dst := some 28, op := Op.fieldAddr 61 (Operand.tmp 27) 2, type := 0, pos := "wm.go:51", after := #[{ on := 6, ground := Ground.data }], guard := none }) (v := ?_) rfl (by kernel_rfl) (by kernel_rfl) (by kernel_rfl) (fun _ _ _ h => h) (Or.inl ⟨by rfl, ?hy7⟩) (by assumption) ?_
    case hy7 => (intro w hSw; (try dsimp only at hSw); go_simp; try with_reducible rfl)
    (try simp only [Act.put, List.setIfInBounds_toArray, List.set_cons_zero, List.set_cons_succ])
    refine wpAnyH_take (i := 8) (oi := { dst := some 29, op := Op.load 3 (Operand.tmp 28), type := 3, pos := "wm.go:51", after := #[{ on := 7, ground := Ground.data }], guard := none }) (v := ?_) rfl (by kernel_rfl) (by kernel_rfl) (by kernel_rfl) (fun _ _ _ h => h) (Or.inl ⟨by rfl, ?hy8⟩) (by assumption) ?_
    case hy8 => (intro w hSw; (try dsimp only at hSw); go_simp; try with_reducible rfl)
    (try simp only [Act.put, List.setIfInBounds_toArray, List.set_cons_zero, List.set_cons_succ])
    refine wpAnyH_take (i := 9) (oi := { dst := some 30, op := Op.move (Operand.tmp 1), type := 9, pos := "wm.go:51", after := #[], guard := none }) (v := ?_) rfl (by kernel_rfl) (by kernel_rfl) (by kernel_rfl) (fun _ _ _ h => h) (Or.inl ⟨by rfl, ?hy9⟩) (by assumption) ?_
    case hy9 => (intro w hSw; (try dsimp only at hSw); go_simp; try with_reducible rfl)
    (try simp only [Act.put, List.setIfInBounds_toArray, List.set_cons_zero, List.set_cons_succ])
    refine wpAnyH_take (i := 10) (oi := { dst := some 31, op := Op.move (Operand.tmp 2), type := 27, pos := "wm.go:51", after := #[], guard := none }) (v := ?_) rfl (by kernel_rfl) (by kernel_rfl) (by kernel_rfl) (fun _ _ _ h => h) (Or.inl ⟨by rfl, ?hy10⟩) (by assumption) ?_
    case hy10 => (intro w hSw; (try dsimp only at hSw); go_simp; try with_reducible rfl)
    (try simp only [Act.put, List.setIfInBounds_toArray, List.set_cons_zero, List.set_cons_succ])
    refine wpAnyH_ready (rs := [4, 11]) (by kernel_rfl) (by simp) ?_
    refine (AllReadyH.cons (o := { dst := some 25, op := Op.load 42 (Operand.tmp 24), type := 42, pos := "wm.go:51", after := #[{ on := 3, ground := Ground.data }], guard := none }) rfl (fun K hK => ?_) (AllReadyH.cons (o := { dst := some 32, op := Op.call { callee := Callee.value (Operand.func 34), args := #[Operand.tmp 31], argTypes := #[27] }, type := 27, pos := "wm.go:51", after := #[{ on := 10, ground := Ground.data }], guard := none }) rfl (fun K hK => ?_) AllReadyH.nil))
    · go_simp
      refine hK.out _ _ ?_ (fun hT0 => ?_)
      · exact b2
      clear hK K
      (try simp only [Act.put, List.setIfInBounds_toArray, List.set_cons_zero, List.set_cons_succ])
      refine wpAnyH_ready (rs := [11]) (by kernel_rfl) (by simp) ?_
      refine (AllReadyH.cons (o := { dst := some 32, op := Op.call { callee := Callee.value (Operand.func 34), args := #[Operand.tmp 31], argTypes := #[27] }, type := 27, pos := "wm.go:51", after := #[{ on := 10, ground := Ground.data }], guard := none }) rfl (fun K hK => ?_) AllReadyH.nil)
      go_simp
      refine (HCl.out _ (Below.refl _ _).drew).mono ?_
      rintro e w2 ⟨u, rfl, a', c', rfl, hva, hb2⟩
      obtain ⟨⟨b0', b2', hbl'⟩, HO2, hB2, HG2⟩ := HAft.out w2 a' c' (below_undrawn hb2) hva
      refine hK.out _ _ ?_ (fun hS1 => ?_)
      · exact b2'
      clear hK K
      (try simp only [Act.put, List.setIfInBounds_toArray, List.set_cons_zero, List.set_cons_succ])
      refine wpAnyH_take (i := 12) (oi := { dst := some 33, op := Op.build 44 #[(0, Operand.tmp 29), (1, Operand.tmp 30), (2, Operand.tmp 32)], type := 44, pos := "wm.go:51", after := #[{ on := 8, ground := Ground.data }, { on := 9, ground := Ground.data }, { on := 11, ground := Ground.data }], guard := none }) (v := ?_) rfl (by kernel_rfl) (by kernel_rfl) (by kernel_rfl) (fun _ _ _ h => h) (Or.inl ⟨by rfl, ?hy12⟩) (by assumption) ?_
      case hy12 => (intro w hSw; (try dsimp only at hSw); go_simp; try with_reducible rfl)
      (try simp only [Act.put, List.setIfInBounds_toArray, List.set_cons_zero, List.set_cons_succ])
      refine wpAnyH_ready (rs := [13]) (by kernel_rfl) (by simp) ?_
      refine (AllReadyH.cons (o := { dst := some 34, op := Op.buildSlice 42 1 #[(0, Operand.tmp 33)], type := 42, pos := "wm.go:51", after := #[{ on := 12, ground := Ground.data }], guard := none }) rfl (fun K hK => ?_) AllReadyH.nil)
      go_simp
      refine hK.out _ _ ?_ (fun hS2 => ?_)
      · exact alloc_cell b2'
      clear hK K
      (try simp only [Act.put, List.setIfInBounds_toArray, List.set_cons_zero, List.set_cons_succ])
      refine wpAnyH_ready (rs := [14]) (by kernel_rfl) (by simp) ?_
      refine (AllReadyH.cons (o := { dst := some 35, op := Op.call { callee := Callee.builtin Builtin.append, args := #[Operand.tmp 25, Operand.tmp 34], argTypes := #[42, 42] }, type := 42, pos := "wm.go:51", after := #[{ on := 4, ground := Ground.data }, { on := 13, ground := Ground.data }, { on := 11, ground := Ground.chain }], guard := none }) rfl (fun K hK => ?_) AllReadyH.nil)
      refine step_append_lies _ (by rfl) _ _ _ (by rfl) B 44 i0 (.agg #[.int .i64 0, .string ⟨#[]⟩, .slice none 0 0]) 3 48 Tryd.underlying42 hi hz0 hz1 hz2 rfl (by decide) (.slice fo FN fcap) FN (ftsC F) (by rfl) (HO2.out.alloc _) ⟨w2.heap.size, 0, none⟩ 1 1 [.int .i64 l1, .string t, .slice a' N c'] (by rfl) rfl (ft_news w2 _ rfl _ _ _ _) (ftC_one3 _ _ _ _ _) (by decide) (by unfold maxLen; omega) (by omega) (by simp; omega) (w2.heap.size + 1) (by simp) ?_
      intro g gcap w3 hown3 hgrow hat hlt3
      obtain ⟨z0, z2, zf, hMB, hTB⟩ := HG2.out g gcap w3 hown3 hgrow
      refine hK.out _ _ ?_ (fun hS3 => ?_)
      · exact z2
      clear hK K
      (try simp only [Act.put, List.setIfInBounds_toArray, List.set_cons_zero, List.set_cons_succ])
      refine wpAnyH_take (i := 15) (oi := { dst := some 36, op := Op.nilCheck (Operand.tmp 21), type := 0, pos := "wm.go:51", after := #[{ on := 0, ground := Ground.data }, { on := 0, ground := Ground.phase }, { on := 1, ground := Ground.phase }, { on := 2, ground := Ground.phase }, { on := 3, ground := Ground.phase }, { on := 4, ground := Ground.phase }, { on := 5, ground := Ground.phase }, { on := 6, ground := Ground.phase }, { on := 7, ground := Ground.phase }, { on := 8, ground := Ground.phase }, { on := 9, ground := Ground.phase }, { on := 10, ground := Ground.phase }, { on := 11, ground := Ground.phase }, { on := 12, ground := Ground.phase }, { on := 13, ground := Ground.phase }, { on := 14, ground := Ground.phase }], guard := none }) (v := ?_) rfl (by kernel_rfl) (by kernel_rfl) (by kernel_rfl) (fun _ _ _ h => h) (Or.inl ⟨by rfl, ?hy15⟩) (by assumption) ?_
      case hy15 => (intro w hSw; (try dsimp only at hSw); go_simp; try with_reducible rfl)
      (try simp only [Act.put, List.setIfInBounds_toArray, List.set_cons_zero, List.set_cons_succ])
      refine wpAnyH_take (i := 16) (oi := { dst := some 37, op := Op.fieldAddr 61 (Operand.tmp 36) 0, type := 0, pos := "wm.go:51", after := #[{ on := 15, ground := Ground.data }, { on := 0, ground := Ground.phase }, { on := 1, ground := Ground.phase }, { on := 2, ground := Ground.phase }, { on := 3, ground := Ground.phase }, { on := 4, ground := Ground.phase }, { on := 5, ground := Ground.phase }, { on := 6, ground := Ground.phase }, { on := 7, ground := Ground.phase }, { on := 8, ground := Ground.phase }, { on := 9, ground := Ground.phase }, { on := 10, ground := Ground.phase }, { on := 11, ground := Ground.phase }, { on := 12, ground := Ground.phase }, { on := 13, ground := Ground.phase }, { on := 14, ground := Ground.phase }], guard := none }) (v := ?_) rfl (by kernel_rfl) (by kernel_rfl) (by kernel_rfl) (fun _ _ _ h => h) (Or.inl ⟨by rfl, ?hy16⟩) (by assumption) ?_
      case hy16 => (intro w hSw; (try dsimp only at hSw); go_simp; try with_reducible rfl)
      (try simp only [Act.put, List.setIfInBounds_toArray, List.set_cons_zero, List.set_cons_succ])
      refine wpAnyH_ready (rs := [17]) (by kernel_rfl) (by simp) ?_
      refine (AllReadyH.cons (o := { dst := none, op := Op.store 42 (Operand.tmp 37) (Operand.tmp 35), type := 0, pos := "wm.go:51", after := #[{ on := 16, ground := Ground.data }, { on := 14, ground := Ground.data }, { on := 14, ground := Ground.chain }, { on := 0, ground := Ground.phase }, { on := 1, ground := Ground.phase }, { on := 2, ground := Ground.phase }, { on := 3, ground := Ground.phase }, { on := 4, ground := Ground.phase }, { on := 5, ground := Ground.phase }, { on := 6, ground := Ground.phase }, { on := 7, ground := Ground.phase }, { on := 8, ground := Ground.phase }, { on := 9, ground := Ground.phase }, { on := 10, ground := Ground.phase }, { on := 11, ground := Ground.phase }, { on := 12, ground := Ground.phase }, { on := 13, ground := Ground.phase }, { on := 14, ground := Ground.phase }], guard := none }) rfl (fun K hK => ?_) AllReadyH.nil)
      go_simp
      refine hK.out _ _ ?_ (fun hS4 => ?_)
      · exact (World.cell?_setCell_other _ _ _ _ (by simp)).trans z2
      clear hK K
      (try simp only [Act.put, List.setIfInBounds_toArray, List.set_cons_zero, List.set_cons_succ])
      refine wpAnyH_done (by kernel_rfl) ?_ _
      obtain ⟨W2, HW2⟩ : ∃ W2, Hid (w3.setCell ⟨b, 0, none⟩ (.slice (some ⟨g, 0, none⟩) (FN + 1) gcap) = W2) := ⟨_, rfl⟩
      rw [HW2.out] at hMB hTB ⊢
      obtain ⟨⟨k1, k2⟩, HKy, HMu⟩ := HEnd.out W2 _ a' c' hMB hTB
      have hgo : Value.ownBlock (.slice fo FN fcap) = some g ∨ w.heap.size ≤ g := by
        rcases hat with e | e
        · exact .inl e
        · refine .inr ?_
          have q1 := HT1.out.size
          have q2 := (below_undrawn hb2).size
          omega
      have HFo := HFoot.out g gcap hgo
      clear hMB hTB hown3 hgrow hat hlt3 z0 z2 zf hva hb2 b0' b2' hbl' HO2 HG2 hS0 hS1 hS3 hS4 b0 b1 b2 HAft HEnd HCl
      go_wp2_with fail
      go_region_held3 (fun w' => w'.cell? ⟨b, 1, none⟩ = some (.map (some bm)) ∧ w'.cell? ⟨b, 2, none⟩ = some (.int .i64 l1)) (((try dsimp only); go_split_ands; refine ⟨?_, ?_⟩ <;> first | assumption | exact keep_cell (by assumption) (by assumption))) (first
        | (go_at_call 26; refine (HKy.out _ (Below.refl _ _).drew).mono ?_; rintro e w5 ⟨rfl, hb5⟩; obtain ⟨w6, hrun, d1, d2, HF⟩ := HMu.out w5 (below_undrawn hb5)))
      go_wp2
      go_ret
      exact ⟨rfl, _, _, a', c', HF.out.1, HF.out.2, HFo⟩
    · go_simp
      refine (HCl.out _ (Below.refl _ _).drew).mono ?_
      rintro e w2 ⟨u, rfl, a', c', rfl, hva, hb2⟩
      obtain ⟨⟨b0', b2', hbl'⟩, HO2, hB2, HG2⟩ := HAft.out w2 a' c' (below_undrawn hb2) hva
      refine hK.out _ _ ?_ (fun hS1 => ?_)
      · exact b2'
      clear hK K
      (try simp only [Act.put, List.setIfInBounds_toArray, List.set_cons_zero, List.set_cons_succ])
      refine wpAnyH_take (i := 12) (oi := { dst := some 33, op := Op.build 44 #[(0, Operand.tmp 29), (1, Operand.tmp 30), (2, Operand.tmp 32)], type := 44, pos := "wm.go:51", after := #[{ on := 8, ground := Ground.data }, { on := 9, ground := Ground.data }, { on := 11, ground := Ground.data }], guard := none }) (v := ?_) rfl (by kernel_rfl) (by kernel_rfl) (by kernel_rfl) (fun _ _ _ h => h) (Or.inl ⟨by rfl, ?hy12⟩) (by assumption) ?_
      case hy12 => (intro w hSw; (try dsimp only at hSw); go_simp; try with_reducible rfl)
      (try simp only [Act.put, List.setIfInBounds_toArray, List.set_cons_zero, List.set_cons_succ])
      refine wpAnyH_ready (rs := [4, 13]) (by kernel_rfl) (by simp) ?_
      refine (AllReadyH.cons (o := { dst := some 25, op := Op.load 42 (Operand.tmp 24), type := 42, pos := "wm.go:51", after := #[{ on := 3, ground := Ground.data }], guard := none }) rfl (fun K hK => ?_) (AllReadyH.cons (o := { dst := some 34, op := Op.buildSlice 42 1 #[(0, Operand.tmp 33)], type := 42, pos := "wm.go:51", after := #[{ on := 12, ground := Ground.data }], guard := none }) rfl (fun K hK => ?_) AllReadyH.nil))
      · go_simp
        refine hK.out _ _ ?_ (fun hT1 => ?_)
        · exact b2'
        clear hK K
        (try simp only [Act.put, List.setIfInBounds_toArray, List.set_cons_zero, List.set_cons_succ])
        refine wpAnyH_ready (rs := [13]) (by kernel_rfl) (by simp) ?_
        refine (AllReadyH.cons (o := { dst := some 34, op := Op.buildSlice 42 1 #[(0, Operand.tmp 33)], type := 42, pos := "wm.go:51", after := #[{ on := 12, ground := Ground.data }], guard := none }) rfl (fun K hK => ?_) AllReadyH.nil)
        go_simp
        refine hK.out _ _ ?_ (fun hS2 => ?_)
        · exact alloc_cell b2'
        clear hK K
        (try simp only [Act.put, List.setIfInBounds_toArray, List.set_cons_zero, List.set_cons_succ])
        refine wpAnyH_ready (rs := [14]) (by kernel_rfl) (by simp) ?_
        refine (AllReadyH.cons (o := { dst := some 35, op := Op.call { callee := Callee.builtin Builtin.append, args := #[Operand.tmp 25, Operand.tmp 34], argTypes := #[42, 42] }, type := 42, pos := "wm.go:51", after := #[{ on := 4, ground := Ground.data }, { on := 13, ground := Ground.data }, { on := 11, ground := Ground.chain }], guard := none }) rfl (fun K hK => ?_) AllReadyH.nil)
        refine step_append_lies _ (by rfl) _ _ _ (by rfl) B 44 i0 (.agg #[.int .i64 0, .string ⟨#[]⟩, .slice none 0 0]) 3 48 Tryd.underlying42 hi hz0 hz1 hz2 rfl (by decide) (.slice fo FN fcap) FN (ftsC F) (by rfl) (HO2.out.alloc _) ⟨w2.heap.size, 0, none⟩ 1 1 [.int .i64 l1, .string t, .slice a' N c'] (by rfl) rfl (ft_news w2 _ rfl _ _ _ _) (ftC_one3 _ _ _ _ _) (by decide) (by unfold maxLen; omega) (by omega) (by simp; omega) (w2.heap.size + 1) (by simp) ?_
        intro g gcap w3 hown3 hgrow hat hlt3
        obtain ⟨z0, z2, zf, hMB, hTB⟩ := HG2.out g gcap w3 hown3 hgrow
        refine hK.out _ _ ?_ (fun hS3 => ?_)
        · exact z2
        clear hK K
        (try simp only [Act.put, List.setIfInBounds_toArray, List.set_cons_zero, List.set_cons_succ])
        refine wpAnyH_take (i := 15) (oi := { dst := some 36, op := Op.nilCheck (Operand.tmp 21), type := 0, pos := "wm.go:51", after := #[{ on := 0, ground := Ground.data }, { on := 0, ground := Ground.phase }, { on := 1, ground := Ground.phase }, { on := 2, ground := Ground.phase }, { on := 3, ground := Ground.phase }, { on := 4, ground := Ground.phase }, { on := 5, ground := Ground.phase }, { on := 6, ground := Ground.phase }, { on := 7, ground := Ground.phase }, { on := 8, ground := Ground.phase }, { on := 9, ground := Ground.phase }, { on := 10, ground := Ground.phase }, { on := 11, ground := Ground.phase }, { on := 12, ground := Ground.phase }, { on := 13, ground := Ground.phase }, { on := 14, ground := Ground.phase }], guard := none }) (v := ?_) rfl (by kernel_rfl) (by kernel_rfl) (by kernel_rfl) (fun _ _ _ h => h) (Or.inl ⟨by rfl, ?hy15⟩) (by assumption) ?_
        case hy15 => (intro w hSw; (try dsimp only at hSw); go_simp; try with_reducible rfl)
        (try simp only [Act.put, List.setIfInBounds_toArray, List.set_cons_zero, List.set_cons_succ])
        refine wpAnyH_take (i := 16) (oi := { dst := some 37, op := Op.fieldAddr 61 (Operand.tmp 36) 0, type := 0, pos := "wm.go:51", after := #[{ on := 15, ground := Ground.data }, { on := 0, ground := Ground.phase }, { on := 1, ground := Ground.phase }, { on := 2, ground := Ground.phase }, { on := 3, ground := Ground.phase }, { on := 4, ground := Ground.phase }, { on := 5, ground := Ground.phase }, { on := 6, ground := Ground.phase }, { on := 7, ground := Ground.phase }, { on := 8, ground := Ground.phase }, { on := 9, ground := Ground.phase }, { on := 10, ground := Ground.phase }, { on := 11, ground := Ground.phase }, { on := 12, ground := Ground.phase }, { on := 13, ground := Ground.phase }, { on := 14, ground := Ground.phase }], guard := none }) (v := ?_) rfl (by kernel_rfl) (by kernel_rfl) (by kernel_rfl) (fun _ _ _ h => h) (Or.inl ⟨by rfl, ?hy16⟩) (by assumption) ?_
        case hy16 => (intro w hSw; (try dsimp only at hSw); go_simp; try with_reducible rfl)
        (try simp only [Act.put, List.setIfInBounds_toArray, List.set_cons_zero, List.set_cons_succ])
        refine wpAnyH_ready (rs := [17]) (by kernel_rfl) (by simp) ?_
        refine (AllReadyH.cons (o := { dst := none, op := Op.store 42 (Operand.tmp 37) (Operand.tmp 35), type := 0, pos := "wm.go:51", after := #[{ on := 16, ground := Ground.data }, { on := 14, ground := Ground.data }, { on := 14, ground := Ground.chain }, { on := 0, ground := Ground.phase }, { on := 1, ground := Ground.phase }, { on := 2, ground := Ground.phase }, { on := 3, ground := Ground.phase }, { on := 4, ground := Ground.phase }, { on := 5, ground := Ground.phase }, { on := 6, ground := Ground.phase }, { on := 7, ground := Ground.phase }, { on := 8, ground := Ground.phase }, { on := 9, ground := Ground.phase }, { on := 10, ground := Ground.phase }, { on := 11, ground := Ground.phase }, { on := 12, ground := Ground.phase }, { on := 13, ground := Ground.phase }, { on := 14, ground := Ground.phase }], guard := none }) rfl (fun K hK => ?_) AllReadyH.nil)
        go_simp
        refine hK.out _ _ ?_ (fun hS4 => ?_)
        · exact (World.cell?_setCell_other _ _ _ _ (by simp)).trans z2
        clear hK K
        (try simp only [Act.put, List.setIfInBounds_toArray, List.set_cons_zero, List.set_cons_succ])
        refine wpAnyH_done (by kernel_rfl) ?_ _
        obtain ⟨W2, HW2⟩ : ∃ W2, Hid (w3.setCell ⟨b, 0, none⟩ (.slice (some ⟨g, 0, none⟩) (FN + 1) gcap) = W2) := ⟨_, rfl⟩
        rw [HW2.out] at hMB hTB ⊢
        obtain ⟨⟨k1, k2⟩, HKy, HMu⟩ := HEnd.out W2 _ a' c' hMB hTB
        have hgo : Value.ownBlock (.slice fo FN fcap) = some g ∨ w.heap.size ≤ g := by
          rcases hat with e | e
          · exact .inl e
          · refine .inr ?_
            have q1 := HT1.out.size
            have q2 := (below_undrawn hb2).size
            omega
        have HFo := HFoot.out g gcap hgo
        clear hMB hTB hown3 hgrow hat hlt3 z0 z2 zf hva hb2 b0' b2' hbl' HO2 HG2 hS0 hS1 hS3 hS4 b0 b1 b2 HAft HEnd HCl
        go_wp2_with fail
        go_region_held3 (fun w' => w'.cell? ⟨b, 1, none⟩ = some (.map (some bm)) ∧ w'.cell? ⟨b, 2, none⟩ = some (.int .i64 l1)) (((try dsimp only); go_split_ands; refine ⟨?_, ?_⟩ <;> first | assumption | exact keep_cell (by assumption) (by assumption))) (first
          | (go_at_call 26; refine (HKy.out _ (Below.refl _ _).drew).mono ?_; rintro e w5 ⟨rfl, hb5⟩; obtain ⟨w6, hrun, d1, d2, HF⟩ := HMu.out w5 (below_undrawn hb5)))
        go_wp2
        go_ret
        exact ⟨rfl, _, _, a', c', HF.out.1, HF.out.2, HFo⟩
      · go_simp
        refine hK.out _ _ ?_ (fun hS2 => ?_)
        · exact alloc_cell b2'
        clear hK K
        (try simp only [Act.put, List.setIfInBounds_toArray, List.set_cons_zero, List.set_cons_succ])
        refine wpAnyH_ready (rs := [4]) (by kernel_rfl) (by simp) ?_
        refine (AllReadyH.cons (o := { dst := some 25, op := Op.load 42 (Operand.tmp 24), type := 42, pos := "wm.go:51", after := #[{ on := 3, ground := Ground.data }], guard := none }) rfl (fun K hK => ?_) AllReadyH.nil)
        go_simp
        refine hK.out _ _ ?_ (fun hT2 => ?_)
        · exact alloc_cell b2'
        clear hK K
        (try simp only [Act.put, List.setIfInBounds_toArray, List.set_cons_zero, List.set_cons_succ])
        refine wpAnyH_ready (rs := [14]) (by kernel_rfl) (by simp) ?_
        refine (AllReadyH.cons (o := { dst := some 35, op := Op.call { callee := Callee.builtin Builtin.append, args := #[Operand.tmp 25, Operand.tmp 34], argTypes := #[42, 42] }, type := 42, pos := "wm.go:51", after := #[{ on := 4, ground := Ground.data }, { on := 13, ground := Ground.data }, { on := 11, ground := Ground.chain }], guard := none }) rfl (fun K hK => ?_) AllReadyH.nil)
        refine step_append_lies _ (by rfl) _ _ _ (by rfl) B 44 i0 (.agg #[.int .i64 0, .string ⟨#[]⟩, .slice none 0 0]) 3 48 Tryd.underlying42 hi hz0 hz1 hz2 rfl (by decide) (.slice fo FN fcap) FN (ftsC F) (by rfl) (HO2.out.alloc _) ⟨w2.heap.size, 0, none⟩ 1 1 [.int .i64 l1, .string t, .slice a' N c'] (by rfl) rfl (ft_news w2 _ rfl _ _ _ _) (ftC_one3 _ _ _ _ _) (by decide) (by unfold maxLen; omega) (by omega) (by simp; omega) (w2.heap.size + 1) (by simp) ?_
        intro g gcap w3 hown3 hgrow hat hlt3
        obtain ⟨z0, z2, zf, hMB, hTB⟩ := HG2.out g gcap w3 hown3 hgrow
        refine hK.out _ _ ?_ (fun hS3 => ?_)
        · exact z2
        clear hK K
        (try simp only [Act.put, List.setIfInBounds_toArray, List.set_cons_zero, List.set_cons_succ])
        refine wpAnyH_take (i := 15) (oi := { dst := some 36, op := Op.nilCheck (Operand.tmp 21), type := 0, pos := "wm.go:51", after := #[{ on := 0, ground := Ground.data }, { on := 0, ground := Ground.phase }, { on := 1, ground := Ground.phase }, { on := 2, ground := Ground.phase }, { on := 3, ground := Ground.phase }, { on := 4, ground := Ground.phase }, { on := 5, ground := Ground.phase }, { on := 6, ground := Ground.phase }, { on := 7, ground := Ground.phase }, { on := 8, ground := Ground.phase }, { on := 9, ground := Ground.phase }, { on := 10, ground := Ground.phase }, { on := 11, ground := Ground.phase }, { on := 12, ground := Ground.phase }, { on := 13, ground := Ground.phase }, { on := 14, ground := Ground.phase }], guard := none }) (v := ?_) rfl (by kernel_rfl) (by kernel_rfl) (by kernel_rfl) (fun _ _ _ h => h) (Or.inl ⟨by rfl, ?hy15⟩) (by assumption) ?_
        case hy15 => (intro w hSw; (try dsimp only at hSw); go_simp; try with_reducible rfl)
        (try simp only [Act.put, List.setIfInBounds_toArray, List.set_cons_zero, List.set_cons_succ])
        refine wpAnyH_take (i := 16) (oi := { dst := some 37, op := Op.fieldAddr 61 (Operand.tmp 36) 0, type := 0, pos := "wm.go:51", after := #[{ on := 15, ground := Ground.data }, { on := 0, ground := Ground.phase }, { on := 1, ground := Ground.phase }, { on := 2, ground := Ground.phase }, { on := 3, ground := Ground.phase }, { on := 4, ground := Ground.phase }, { on := 5, ground := Ground.phase }, { on := 6, ground := Ground.phase }, { on := 7, ground := Ground.phase }, { on := 8, ground := Ground.phase }, { on := 9, ground := Ground.phase }, { on := 10, ground := Ground.phase }, { on := 11, ground := Ground.phase }, { on := 12, ground := Ground.phase }, { on := 13, ground := Ground.phase }, { on := 14, ground := Ground.phase }], guard := none }) (v := ?_) rfl (by kernel_rfl) (by kernel_rfl) (by kernel_rfl) (fun _ _ _ h => h) (Or.inl ⟨by rfl, ?hy16⟩) (by assumption) ?_
        case hy16 => (intro w hSw; (try dsimp only at hSw); go_simp; try with_reducible rfl)
        (try simp only [Act.put, List.setIfInBounds_toArray, List.set_cons_zero, List.set_cons_succ])
        refine wpAnyH_ready (rs := [17]) (by kernel_rfl) (by simp) ?_
        refine (AllReadyH.cons (o := { dst := none, op := Op.store 42 (Operand.tmp 37) (Operand.tmp 35), type := 0, pos := "wm.go:51", after := #[{ on := 16, ground := Ground.data }, { on := 14, ground := Ground.data }, { on := 14, ground := Ground.chain }, { on := 0, ground := Ground.phase }, { on := 1, ground := Ground.phase }, { on := 2, ground := Ground.phase }, { on := 3, ground := Ground.phase }, { on := 4, ground := Ground.phase }, { on := 5, ground := Ground.phase }, { on := 6, ground := Ground.phase }, { on := 7, ground := Ground.phase }, { on := 8, ground := Ground.phase }, { on := 9, ground := Ground.phase }, { on := 10, ground := Ground.phase }, { on := 11, ground := Ground.phase }, { on := 12, ground := Ground.phase }, { on := 13, ground := Ground.phase }, { on := 14, ground := Ground.phase }], guard := none }) rfl (fun K hK => ?_) AllReadyH.nil)
        go_simp
        refine hK.out _ _ ?_ (fun hS4 => ?_)
        · exact (World.cell?_setCell_other _ _ _ _ (by simp)).trans z2
        clear hK K
        (try simp only [Act.put, List.setIfInBounds_toArray, List.set_cons_zero, List.set_cons_succ])
        refine wpAnyH_done (by kernel_rfl) ?_ _
        obtain ⟨W2, HW2⟩ : ∃ W2, Hid (w3.setCell ⟨b, 0, none⟩ (.slice (some ⟨g, 0, none⟩) (FN + 1) gcap) = W2) := ⟨_, rfl⟩
        rw [HW2.out] at hMB hTB ⊢
        obtain ⟨⟨k1, k2⟩, HKy, HMu⟩ := HEnd.out W2 _ a' c' hMB hTB
        have hgo : Value.ownBlock (.slice fo FN fcap) = some g ∨ w.heap.size ≤ g := by
          rcases hat with e | e
          · exact .inl e
          · refine .inr ?_
            have q1 := HT1.out.size
            have q2 := (below_undrawn hb2).size
            omega
        have HFo := HFoot.out g gcap hgo
        clear hMB hTB hown3 hgrow hat hlt3 z0 z2 zf hva hb2 b0' b2' hbl' HO2 HG2 hS0 hS1 hS3 hS4 b0 b1 b2 HAft HEnd HCl
        go_wp2_with fail
        go_region_held3 (fun w' => w'.cell? ⟨b, 1, none⟩ = some (.map (some bm)) ∧ w'.cell? ⟨b, 2, none⟩ = some (.int .i64 l1)) (((try dsimp only); go_split_ands; refine ⟨?_, ?_⟩ <;> first | assumption | exact keep_cell (by assumption) (by assumption))) (first
          | (go_at_call 26; refine (HKy.out _ (Below.refl _ _).drew).mono ?_; rintro e w5 ⟨rfl, hb5⟩; obtain ⟨w6, hrun, d1, d2, HF⟩ := HMu.out w5 (below_undrawn hb5)))
        go_wp2
        go_ret
        exact ⟨rfl, _, _, a', c', HF.out.1, HF.out.2, HFo⟩
end Go.Proofs.YtgjnnahflaaagaaDoor
