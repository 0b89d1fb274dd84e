/- The contract of slices.Delete at facts: one fact of a row that is ours goes, the others close up. -/
import Derived.Test.YtgjnnahflaaagaaDoorWmSmall
import Derived.RegionTactic
import Derived.Deep.RegionLaw
namespace Go.Proofs.YtgjnnahflaaagaaDoor
open Go.RowKit Go.Maps

def zFt : List Value := [.int .i64 0, .string ⟨#[]⟩, .slice none 0 0]
theorem zeroFt (w : World) : (zeroValue 44).run Tryd.prog w = .ok (.agg #[.int .i64 0, .string ⟨#[]⟩, .slice none 0 0]) w := by kernel_rfl
theorem infoFt : (Tryd.prog.info? 44).map (fun i => (i.zero, i.size, i.bytes)) = some (some (.agg #[.int .i64 0, .string ⟨#[]⟩, .slice none 0 0]), 3, 48) := by kernel_rfl
theorem infoFt' : ∃ i, Tryd.prog.info? 44 = some i ∧ i.zero = some (.agg #[.int .i64 0, .string ⟨#[]⟩, .slice none 0 0]) ∧ i.size = 3 ∧ i.bytes = 48 := by
  obtain ⟨i, h, e⟩ := Option.map_eq_some_iff.1 infoFt
  simp only [Prod.mk.injEq] at e
  exact ⟨i, h, e.1, e.2.1, e.2.2⟩
theorem run_clear_row (w : World) (ty : TypeId) (g q c : Nat) (cur : Array Value) (hg : w.heap[g]? = some (.cells cur 44 (0, 0))) (h : q * 3 + 3 ≤ cur.size) :
    (Builtin.clear_ #[42] ty #[.slice (some ⟨g, q * 3, none⟩) 1 c]).run Tryd.prog w = .ok (.tuple #[]) (w.setRow g (cur.toList.take (q * 3) ++ zFt ++ cur.toList.drop (q * 3 + 3)).toArray) := by
  have hz : (Builtin.zeroCells (Value.agg #[.int .i64 0, .string ⟨#[]⟩, .slice none 0 0]).cells 1).toList = zFt := by kernel_rfl
  have hst := run_storeCells_at Tryd.prog g (q * 3) 44 zFt 0 cur w hg (by show q * 3 + 0 + 3 ≤ _; omega) (by intro v hv; simp [zFt] at hv; rcases hv with rfl | rfl | rfl <;> rfl)
  simp only [Nat.add_zero] at hst
  simp [Builtin.clear_, run_underlying Tryd.underlying42, hz, hst]
  rfl

/-- append where there is room, as one step of a region that draws: the row, turned. -/
theorem step_append_row {ops : Array Oper} {o : Oper} {a : Act} {w : World} {K : Act → World → Prop} {Q : Exit → Act → World → Prop} {E : Prop}
    (hgd : o.guard = none) (s x : Operand) (hop : o.op = Op.call { callee := Callee.builtin Builtin.append, args := #[s, x], argTypes := #[42, 42] })
    (g n cap : Nat) (cur : Array Value) (hs : a.eval s = .slice (some ⟨g, 0, none⟩) n cap) (hg : w.heap[g]? = some (.cells cur 44 (0, 0)))
    (ad : Addr) (m c : Nat) (G : List Ft) (hx : a.eval x = .slice (some ad) m c) (hG : G.length = m) (hc : ∀ j u, (ftsC G)[j]? = some u → w.cell? (ad.add j) = some u)
    (hroom : n + m ≤ cap) (hfit : n * 3 + (ftsC G).length ≤ cur.size)
    (hK : ∀ W, W = w.setRow g (cur.toList.take (n * 3) ++ ftsC G ++ cur.toList.drop (n * 3 + (ftsC G).length)).toArray → K (a.put o.dst (.slice (some ⟨g, 0, none⟩) (n + m) cap)) W) :
    if Region.wanted o (yielded ops a.tmps) = true then Oper.wp Tryd.prog o a w K Q else E := by
  have hw : Region.wanted o (yielded ops a.tmps) = true := by simp [Region.wanted, hgd]
  rw [if_pos hw]
  obtain ⟨i0, hi, hz0, hz1, hz2⟩ := infoFt'
  have hrun := run_append_room (P := Tryd.prog) w 42 o.type 44 i0 Tryd.underlying42 hi g n cap cur hg ad m c (ftsC G) (by rw [ftsC_len, hG, hz1]) hc (ftsC_one G) hroom (by rw [hz1]; exact hfit)
  rw [hz1] at hrun
  unfold Oper.wp
  simp [execOp, hop, resolve, invoke, builtin, hs, hx, hrun, Result.andThen]
  exact hK _ (by rw [List.append_assoc])

theorem erase_list (F : List Ft) (p : Nat) : F.eraseIdx p = F.take p ++ F.drop (p + 1) := List.eraseIdx_eq_take_drop_succ F p

theorem del_own {w W1 W2 : World} {B g cap p j N M : Nat} {F : List Ft} {cur c1 : Array Value} (hN : F.length = N) (hM : N = M + 1) (hj : j = p + 1) (hp : p < N) (hg : w.heap[g]? = some (.cells cur 44 (0, 0)))
    (hT : cur.toList.take (N * 3) = ftsC F ∧ cur.size = cap * 3 ∧ cap ≤ maxLen ∧ B ≤ g) (hnc : N ≤ cap) (hc : (cur.toList.take (p * 3) ++ ftsC (F.drop j) ++ cur.toList.drop (p * 3 + (ftsC (F.drop j)).length)).toArray = c1)
    (h1 : W1 = w.drew.setRow g c1) (h2 : W2 = W1.setRow g (c1.toList.take (M * 3) ++ zFt ++ c1.toList.drop (M * 3 + 3)).toArray) :
    W2.ownsRow B 44 3 (.slice (some ⟨g, 0, none⟩) M cap) M (ftsC (F.eraseIdx p)) ∧ w.grownBy W2 (some g) := by
  have hg1 : W1.heap[g]? = some (.cells c1 44 (0, 0)) := by rw [h1]; exact setRow_heap w.drew g cur c1 44 (0, 0) hg
  have hg2 : W2.heap[g]? = some (.cells (c1.toList.take (M * 3) ++ zFt ++ c1.toList.drop (M * 3 + 3)).toArray 44 (0, 0)) := by rw [h2]; exact setRow_heap W1 g c1 _ 44 (0, 0) hg1
  have hl : (ftsC (F.drop j)).length = (N - j) * 3 := by rw [ftsC_len, List.length_drop, hN]
  have hcl : c1.toList.length = cap * 3 := by
    rw [← hc]
    simp [hl]
    omega
  have hz : zFt.length = 3 := rfl
  have hel : (F.eraseIdx p).length = M := by rw [List.length_eraseIdx]; split <;> omega
  have htk : c1.toList.take (M * 3) = ftsC (F.eraseIdx p) := by
    rw [← hc]
    have e1 : cur.toList.take (p * 3) = ftsC (F.take p) := by
      rw [← ftsC_take, ← hT.1, List.take_take, Nat.min_eq_left (by omega)]
    rw [e1, ftsC_app, erase_list, hj]
    refine List.take_left' ?_
    rw [ftsC_len, ← erase_list, hel]
  refine ⟨⟨by rw [ftsC_len, hel], .inr ⟨g, cap, _, rfl, hT.2.2.2, hg2, by omega, hT.2.2.1, ?_, ?_⟩⟩, ?_⟩
  · simp only [List.size_toArray, List.length_append, List.length_take, List.length_drop, hz, hcl]
    omega
  · rw [htk, List.append_assoc]
    refine List.take_left' ?_
    rw [ftsC_len, hel]
  · refine ⟨by rw [h2, h1]; rfl, by rw [h2, h1]; rfl, by rw [h2, h1]; rfl, by rw [h2, h1]; simp [World.setRow], fun k _ hk => ?_⟩
    have hkg : k ≠ g := fun e => hk (by rw [e])
    rw [h2, setRow_other _ _ _ _ hkg, h1, setRow_other _ _ _ _ hkg]
    rfl

set_option maxHeartbeats 2000000 in
set_option maxRecDepth 4000 in
theorem delete_any (w : World) (B g cap p j N M : Nat) (F : List Ft) (hj : j = p + 1) (hN : F.length = N) (hM : N = M + 1) (hp : p < N) (hn : N ≤ 5000) (R : w.ownsRow B 44 3 (.slice (some ⟨g, 0, none⟩) N cap) N (ftsC F)) :
    Calls Tryd.prog 29 #[.slice (some ⟨g, 0, none⟩) N cap, .int .i64 (p : Int), .int .i64 (j : Int)] w fun e w' => e = .returned (.slice (some ⟨g, 0, none⟩) M cap) ∧ w'.ownsRow B 44 3 (.slice (some ⟨g, 0, none⟩) M cap) M (ftsC (F.eraseIdx p)) ∧ w.grownBy w' (some g) := by
  have hpj : ((p : Int) == (j : Int)) = false := by simp; omega
  rcases R.2 with ⟨e, _⟩ | ⟨g', cap', cur, e, hB, hg, hnc, hcm, hcs, htake⟩
  · cases e
  injection e with e1 e2 e3
  injection e1 with e1
  injection e1 with e1
  subst e1 e3
  have hcm' := hcm
  unfold maxLen at hcm'
  have hjN : j ≤ N := by omega
  have hjc : j ≤ cap := by omega
  have hpc : p ≤ cap := by omega
  have hpj2 : p ≤ j := by omega
  have hnj : N - j ≤ cap := by omega
  have HJ : Hid (j = p + 1) := hj
  have HM : Hid (N = M + 1) := hM
  have HN : Hid (F.length = N) := hN
  have HG : Hid (w.heap[g]? = some (.cells cur 44 (0, 0))) := hg
  have HR : Hid (w.ownsRow B 44 3 (.slice (some ⟨g, 0, none⟩) N cap) N (ftsC F)) := R
  have HT : Hid (cur.toList.take (N * 3) = ftsC F ∧ cur.size = cap * 3 ∧ cap ≤ maxLen ∧ B ≤ g) := ⟨htake, hcs, hcm, hB⟩
  clear hj hM hN hg htake hcs hcm R e2
  go_enter Tryd.func29, Tryd.ntmps29
  go_wp2_with fail
  have hM := HM.out
  have hJ := HJ.out
  have hl : (F.drop j).length = N - j := by rw [List.length_drop, HN.out]
  have hfit : Hid (p * 3 + (ftsC (F.drop j)).length ≤ cur.size) := by rw [Hid, ftsC_len, hl, HT.out.2.1]; omega
  have hroom : Hid (p + (N - j) ≤ cap) := by rw [Hid]; omega
  have hsum : p + (N - j) = M := by omega
  have hL : Hid ((F.drop j).length = N - j) := hl
  have hcell : Hid (∀ A : Addr, (A = ⟨g, j * 3, none⟩ ∨ cap = j) → ∀ k u, (ftsC (F.drop j))[k]? = some u → w.drew.cell? (A.add k) = some u) := by
    intro A hA k u hk
    have hk1 := (List.getElem?_eq_some_iff.1 hk).1
    rw [ftsC_len, hl] at hk1
    rcases hA with rfl | hA
    · rw [Addr.add_lit]
      show w.cell? ⟨g, j * 3 + k, none⟩ = some u
      rw [HR.out.cellAt (j * 3 + k) (by omega), ← hk, ← ftsC_drop, List.getElem?_drop]
    · omega
  clear hl hM hJ
  generalize hm : N - j = m at *
  obtain ⟨c1, HC1⟩ : ∃ c1 : Array Value, Hid ((cur.toList.take (p * 3) ++ ftsC (F.drop j) ++ cur.toList.drop (p * 3 + (ftsC (F.drop j)).length)).toArray = c1) := ⟨_, rfl⟩
  have HC1s : Hid (c1.size = cap * 3) := by
    rw [Hid, ← HC1.out]
    have := hfit.out
    have := HT.out.2.1
    simp
    omega
  have hMN : M ≤ N := by have := HM.out; omega
  have hMc : M ≤ cap := by omega
  by_cases hcj : cap = j
  · go_region_law (refine step_append_row rfl (.tmp 22) (.tmp 25) rfl g p cap cur (by simp [Act.eval, Act.put, hcj]) HG.out ⟨g, 0, none⟩ m (cap - j) (F.drop j) (by simp [Act.eval, Act.put, hcj]) hL.out (hcell.out _ (.inr hcj)) hroom.out hfit.out ?_; intro W1 hW1; have HW1 : Hid _ := hW1; clear hW1)
    rw [HC1.out] at HW1
    have HG1 : Hid (W1.heap[g]? = some (.cells c1 44 (0, 0))) := by rw [HW1.out]; exact setRow_heap w.drew g cur c1 44 (0, 0) HG.out
    obtain ⟨W2, HW2⟩ : ∃ W2, Hid (W2 = W1.setRow g (c1.toList.take (M * 3) ++ zFt ++ c1.toList.drop (M * 3 + 3)).toArray) := ⟨_, rfl⟩
    have hcl : ∀ ty, (Builtin.clear_ #[42] ty #[.slice (some ⟨g, M * 3, none⟩) (N - M) (cap - M)]).run Tryd.prog W1 = .ok (.tuple #[]) W2 := by
      intro ty
      rw [HW2.out, show N - M = 1 by have := HM.out; omega]
      exact run_clear_row W1 ty g M (cap - M) c1 HG1.out (by rw [HC1s.out]; have := HM.out; omega)
    have hcM : ¬ cap = M := by have := HM.out; omega
    rw [hcj] at hcl
    go_wp2
    go_ret
    exact ⟨by rw [hcj]; rfl, del_own HN.out HM.out HJ.out hp HG.out HT.out hnc HC1.out HW1.out HW2.out⟩
  · go_region_law (refine step_append_row rfl (.tmp 22) (.tmp 25) rfl g p cap cur (by simp [Act.eval, Act.put]) HG.out ⟨g, j * 3, none⟩ m (cap - j) (F.drop j) (by simp [Act.eval, Act.put]) hL.out (hcell.out _ (.inl rfl)) hroom.out hfit.out ?_; intro W1 hW1; have HW1 : Hid _ := hW1; clear hW1)
    rw [HC1.out] at HW1
    have HG1 : Hid (W1.heap[g]? = some (.cells c1 44 (0, 0))) := by rw [HW1.out]; exact setRow_heap w.drew g cur c1 44 (0, 0) HG.out
    obtain ⟨W2, HW2⟩ : ∃ W2, Hid (W2 = W1.setRow g (c1.toList.take (M * 3) ++ zFt ++ c1.toList.drop (M * 3 + 3)).toArray) := ⟨_, rfl⟩
    have hcl : ∀ ty, (Builtin.clear_ #[42] ty #[.slice (some ⟨g, M * 3, none⟩) (N - M) (cap - M)]).run Tryd.prog W1 = .ok (.tuple #[]) W2 := by
      intro ty
      rw [HW2.out, show N - M = 1 by have := HM.out; omega]
      exact run_clear_row W1 ty g M (cap - M) c1 HG1.out (by rw [HC1s.out]; have := HM.out; omega)
    have hcM : ¬ cap = M := by have := HM.out; omega
    go_wp2
    go_ret
    exact ⟨rfl, del_own HN.out HM.out HJ.out hp HG.out HT.out hnc HC1.out HW1.out HW2.out⟩
end Go.Proofs.YtgjnnahflaaagaaDoor
