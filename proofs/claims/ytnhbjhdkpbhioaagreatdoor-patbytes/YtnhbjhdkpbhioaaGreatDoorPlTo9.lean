import Derived.Test.YtnhbjhdkpbhioaaGreatDoorG27
namespace Go.Proofs.YtnhbjhdkpbhioaaGreatDoor
open Go.RowKit
set_option maxHeartbeats 16000000 in
set_option maxRecDepth 8000 in
theorem tto9_any (T : Tp) (ao : Option Addr) (cap : Nat) (w : World) (hN : T.l.length ≤ 1000) (h : IsSls w ao T.l) :
    Calls Tryz.prog 41 #[tmV T ao cap] w fun e w' => (∃ ao' cap', e = .returned (tmV T ao' cap') ∧ T.l.length ≤ cap' ∧ IsSls w' ao' T.l ∧ ∀ b o, ao' = some ⟨b, o, none⟩ → w.heap.size ≤ b ∧ b < w'.heap.size) ∧ Below w.heap.size w w' := by
  obtain ⟨tn, l⟩ := T
  unfold tmV
  simp only at hN h ⊢
  obtain ⟨N, HN⟩ : ∃ N, Hid (l.length = N) := ⟨_, rfl⟩
  rw [HN.out]
  rw [HN.out] at hN
  have HI : Hid (IsSls w ao l) := h
  obtain ⟨W, HWe⟩ : ∃ W, Hid (((w.alloc (.cells #[.string tn, .slice ao N cap] 112)).alloc (.cells #[.string ⟨#[]⟩, .slice none 0 0] 108)).alloc (.cells #[.string tn, .slice none 0 0] 108) = W) := ⟨_, rfl⟩
  have HW : Hid (OfW 143 w W tn ao N cap (.slice none 0 0) (l.take 0)) := by
    refine ⟨?_, ?_, ?_, ?_, ?_⟩
    · rw [← HWe.out]; exact next_trans (next_trans (alloc_below _ _) (alloc_below _ _)) (alloc_below _ _)
    · rw [← HWe.out]; exact ((Bx.made _ _ _).alloc _).alloc _
    · rw [← HWe.out]; exact (Bx.made' rfl (by simp)).alloc _
    · exact Bx.made' HWe.out (by simp)
    · exact World.ownsRow_nil _ _ _ _
  clear h
  go_enter Tryz.func41, Tryz.ntmps41
  go_wp2
  rw [HWe.out]
  clear HWe
  go_loopw [4] (fun q wr => ∃ (k : Nat) (v : Value), k ≤ N ∧ q = .int .i64 k ∧ Hid (OfW 143 w wr tn ao N cap v (l.take k))) (fun q _ => N - (intOf q).toNat)
  case atStart => exact ⟨0, _, Nat.zero_le _, rfl, HW⟩
  case round =>
    obtain ⟨k, v, hk, rfl, HT⟩ := hrel
    clear HW
    have hlr : w.heap.size + 2 < wr.heap.size := HT.out.t.lt
    have x1 : wr.cell? ⟨w.heap.size, 1, none⟩ = some (.slice ao N cap) := HT.out.x.cell 1
    have hlk : (l.take k).length = k := by rw [List.length_take, HN.out]; omega
    obtain ⟨to, tc, hv, hsl2, hcap2⟩ := own_sls hlk (by have := HT.out.own; rw [hlk] at this; exact this)
    subst hv
    by_cases hlt : k < N
    · have hki : (k : Int) < (N : Int) := by omega
      have hk0 : (0 : Int) ≤ (k : Int) := by omega
      obtain ⟨s, hs⟩ : ∃ s, l[k]? = some s := ⟨_, List.getElem?_eq_getElem (by rw [HN.out]; exact hlt)⟩
      have HKs : Hid (slsC (l.take k) ++ sC s = slsC (l.take (k + 1))) := by
        obtain ⟨hk', e⟩ := List.getElem?_eq_some_iff.1 hs
        rw [Hid, slsC_snoc, List.take_succ_eq_append_getElem hk', e]
      have hob0 : ∀ b o, ao = some ⟨b, o, none⟩ → b < w.heap.size := fun b o e => by
        obtain ⟨b', o', e', c0', _⟩ := HI.out k _ hs
        rw [e] at e'
        have e1 := Option.some.inj e'
        injection e1 with e2
        subst e2
        exact World.block_lt_of_cell? w ⟨b, _, none⟩ c0'
      obtain ⟨b, o, rfl, c0, c1, c2, c3⟩ := (HI.out.next HT.out.bel) k s hs
      have hob : b < w.heap.size := hob0 b o rfl
      obtain ⟨sn, sk, si, ss⟩ := s
      simp only at c0 c1 c2 c3
      have HO : Hid (wr.ownsRow (w.heap.size + 3) 143 4 (.slice to k tc) k (slsC (l.take k))) := by have := HT.out.own; rw [hlk] at this; exact this
      have HOb : Hid (∀ j, (Value.slice to k tc).ownBlock = some j → w.heap.size + 3 ≤ j ∧ j < wr.heap.size) := fun j hj => HO.out.lt j hj
      have t1 : wr.cell? ⟨w.heap.size + 2, 1, none⟩ = some (.slice to k tc) := HT.out.t.cell 1
      obtain ⟨i0, hi, hz0, hz1, hz2⟩ := infoSl'
      clear hs hsl2 hob0
      go_wp2
      refine wp_region_held_drew (S := (fun w' => w'.cell? ⟨w.heap.size, 1, none⟩ = some (.slice (some ⟨b, o, none⟩) N cap) ∧ w'.cell? ⟨b, o + k * 4, none⟩ = some (.string sn) ∧ w'.cell? ⟨b, o + k * 4 + 1, none⟩ = some (.int .i64 sk) ∧ w'.cell? ⟨b, o + k * 4 + 2, none⟩ = some (.int .i64 si) ∧ w'.cell? ⟨b, o + k * 4 + 3, none⟩ = some (.string ss))) (by kernel_rfl) ?_ (fun hH => ?_)
      · exact ⟨x1, c0, c1, c2, c3⟩
      refine wpAnyH_take (i := 0) (oi := { dst := some 15, op := Op.fieldAddr 108 (Operand.tmp 3) 1, type := 0, pos := "law.go:39", after := #[], guard := none }) (v := ?_) rfl (by kernel_rfl) (by kernel_rfl) (by kernel_rfl) (fun _ _ _ h => h) (Or.inl ⟨by rfl, ?hy0⟩) (by assumption) ?_
      case hy0 => (intro w hSw; (try dsimp only at hSw); go_simp; try with_reducible rfl)
      (try simp only [Act.put, List.setIfInBounds_toArray, List.set_cons_zero, List.set_cons_succ])
      refine wpAnyH_take (i := 2) (oi := { dst := some 17, op := Op.fieldAddr 112 (Operand.tmp 1) 1, type := 0, pos := "law.go:39", after := #[], guard := none }) (v := ?_) rfl (by kernel_rfl) (by kernel_rfl) (by kernel_rfl) (fun _ _ _ h => h) (Or.inl ⟨by rfl, ?hy2⟩) (by assumption) ?_
      case hy2 => (intro w hSw; (try dsimp only at hSw); go_simp; try with_reducible rfl)
      (try simp only [Act.put, List.setIfInBounds_toArray, List.set_cons_zero, List.set_cons_succ])
      refine wpAnyH_take (i := 3) (oi := { dst := some 18, op := Op.load 110 (Operand.tmp 17), type := 110, pos := "law.go:39", after := #[{ on := 2, ground := Ground.data }], guard := none }) (v := ?_) rfl (by kernel_rfl) (by kernel_rfl) (by kernel_rfl) (fun _ _ _ h => h) (Or.inl ⟨by rfl, ?hy3⟩) (by assumption) ?_
      case hy3 => (intro w hSw; (try dsimp only at hSw); go_simp; try with_reducible rfl)
      (try simp only [Act.put, List.setIfInBounds_toArray, List.set_cons_zero, List.set_cons_succ])
      refine wpAnyH_take (i := 4) (oi := { dst := some 19, op := Op.move (Operand.tmp 4), type := 3, pos := "law.go:39", after := #[], guard := none }) (v := ?_) rfl (by kernel_rfl) (by kernel_rfl) (by kernel_rfl) (fun _ _ _ h => h) (Or.inl ⟨by rfl, ?hy4⟩) (by assumption) ?_
      case hy4 => (intro w hSw; (try dsimp only at hSw); go_simp; try with_reducible rfl)
      (try simp only [Act.put, List.setIfInBounds_toArray, List.set_cons_zero, List.set_cons_succ])
      refine wpAnyH_take (i := 5) (oi := { dst := some 20, op := Op.indexAddr 110 (Operand.tmp 18) (Operand.tmp 19), type := 0, pos := "law.go:39", after := #[{ on := 3, ground := Ground.data }, { on := 4, ground := Ground.data }], guard := none }) (v := ?_) rfl (by kernel_rfl) (by kernel_rfl) (by kernel_rfl) (fun _ _ _ h => h) (Or.inl ⟨by rfl, ?hy5⟩) (by assumption) ?_
      case hy5 => (intro w hSw; (try dsimp only at hSw); go_simp; try with_reducible rfl)
      (try simp only [Act.put, List.setIfInBounds_toArray, List.set_cons_zero, List.set_cons_succ])
      refine wpAnyH_take (i := 6) (oi := { dst := some 21, op := Op.fieldAddr 115 (Operand.tmp 20) 0, type := 0, pos := "law.go:39", after := #[{ on := 5, ground := Ground.data }], guard := none }) (v := ?_) rfl (by kernel_rfl) (by kernel_rfl) (by kernel_rfl) (fun _ _ _ h => h) (Or.inl ⟨by rfl, ?hy6⟩) (by assumption) ?_
      case hy6 => (intro w hSw; (try dsimp only at hSw); go_simp; try with_reducible rfl)
      (try simp only [Act.put, List.setIfInBounds_toArray, List.set_cons_zero, List.set_cons_succ])
      refine wpAnyH_take (i := 7) (oi := { dst := some 22, op := Op.load 9 (Operand.tmp 21), type := 9, pos := "law.go:39", after := #[{ on := 6, ground := Ground.data }], guard := none }) (v := ?_) rfl (by kernel_rfl) (by kernel_rfl) (by kernel_rfl) (fun _ _ _ h => h) (Or.inl ⟨by rfl, ?hy7⟩) (by assumption) ?_
      case hy7 => (intro w hSw; (try dsimp only at hSw); go_simp; try with_reducible rfl)
      (try simp only [Act.put, List.setIfInBounds_toArray, List.set_cons_zero, List.set_cons_succ])
      refine wpAnyH_take (i := 8) (oi := { dst := some 23, op := Op.fieldAddr 112 (Operand.tmp 1) 1, type := 0, pos := "law.go:39", after := #[], guard := none }) (v := ?_) rfl (by kernel_rfl) (by kernel_rfl) (by kernel_rfl) (fun _ _ _ h => h) (Or.inl ⟨by rfl, ?hy8⟩) (by assumption) ?_
      case hy8 => (intro w hSw; (try dsimp only at hSw); go_simp; try with_reducible rfl)
      (try simp only [Act.put, List.setIfInBounds_toArray, List.set_cons_zero, List.set_cons_succ])
      refine wpAnyH_take (i := 9) (oi := { dst := some 24, op := Op.load 110 (Operand.tmp 23), type := 110, pos := "law.go:39", after := #[{ on := 8, ground := Ground.data }], guard := none }) (v := ?_) rfl (by kernel_rfl) (by kernel_rfl) (by kernel_rfl) (fun _ _ _ h => h) (Or.inl ⟨by rfl, ?hy9⟩) (by assumption) ?_
      case hy9 => (intro w hSw; (try dsimp only at hSw); go_simp; try with_reducible rfl)
      (try simp only [Act.put, List.setIfInBounds_toArray, List.set_cons_zero, List.set_cons_succ])
      refine wpAnyH_take (i := 10) (oi := { dst := some 25, op := Op.move (Operand.tmp 4), type := 3, pos := "law.go:39", after := #[], guard := none }) (v := ?_) rfl (by kernel_rfl) (by kernel_rfl) (by kernel_rfl) (fun _ _ _ h => h) (Or.inl ⟨by rfl, ?hy10⟩) (by assumption) ?_
      case hy10 => (intro w hSw; (try dsimp only at hSw); go_simp; try with_reducible rfl)
      (try simp only [Act.put, List.setIfInBounds_toArray, List.set_cons_zero, List.set_cons_succ])
      refine wpAnyH_take (i := 11) (oi := { dst := some 26, op := Op.indexAddr 110 (Operand.tmp 24) (Operand.tmp 25), type := 0, pos := "law.go:39", after := #[{ on := 9, ground := Ground.data }, { on := 10, ground := Ground.data }], guard := none }) (v := ?_) rfl (by kernel_rfl) (by kernel_rfl) (by kernel_rfl) (fun _ _ _ h => h) (Or.inl ⟨by rfl, ?hy11⟩) (by assumption) ?_
      case hy11 => (intro w hSw; (try dsimp only at hSw); go_simp; try with_reducible rfl)
      (try simp only [Act.put, List.setIfInBounds_toArray, List.set_cons_zero, List.set_cons_succ])
      refine wpAnyH_take (i := 12) (oi := { dst := some 27, op := Op.fieldAddr 115 (Operand.tmp 26) 1, type := 0, pos := "law.go:39", after := #[{ on := 11, ground := Ground.data }], guard := none }) (v := ?_) rfl (by kernel_rfl) (by kernel_rfl) (by kernel_rfl) (fun _ _ _ h => h) (Or.inl ⟨by rfl, ?hy12⟩) (by assumption) ?_
      case hy12 => (intro w hSw; (try dsimp only at hSw); go_simp; try with_reducible rfl)
      (try simp only [Act.put, List.setIfInBounds_toArray, List.set_cons_zero, List.set_cons_succ])
      refine wpAnyH_take (i := 13) (oi := { dst := some 28, op := Op.load 71 (Operand.tmp 27), type := 71, pos := "law.go:39", after := #[{ on := 12, ground := Ground.data }], guard := none }) (v := ?_) rfl (by kernel_rfl) (by kernel_rfl) (by kernel_rfl) (fun _ _ _ h => h) (Or.inl ⟨by rfl, ?hy13⟩) (by assumption) ?_
      case hy13 => (intro w hSw; (try dsimp only at hSw); go_simp; try with_reducible rfl)
      (try simp only [Act.put, List.setIfInBounds_toArray, List.set_cons_zero, List.set_cons_succ])
      refine wpAnyH_take (i := 14) (oi := { dst := some 29, op := Op.build 143 #[(0, Operand.tmp 22), (1, Operand.tmp 28)], type := 143, pos := "law.go:39", after := #[{ on := 7, ground := Ground.data }, { on := 13, ground := Ground.data }], guard := none }) (v := ?_) rfl (by kernel_rfl) (by kernel_rfl) (by kernel_rfl) (fun _ _ _ h => h) (Or.inl ⟨by rfl, ?hy14⟩) (by assumption) ?_
      case hy14 => (intro w hSw; (try dsimp only at hSw); go_simp; try with_reducible rfl)
      (try simp only [Act.put, List.setIfInBounds_toArray, List.set_cons_zero, List.set_cons_succ])
      refine wpAnyH_ready (rs := [1, 15]) (by kernel_rfl) (by simp) ?_
      refine (AllReadyH.cons (o := { dst := some 16, op := Op.load 106 (Operand.tmp 15), type := 106, pos := "law.go:39", after := #[{ on := 0, ground := Ground.data }], guard := none }) rfl (fun K hK => ?_) (AllReadyH.cons (o := { dst := some 30, op := Op.buildSlice 106 1 #[(0, Operand.tmp 29)], type := 106, pos := "law.go:39", after := #[{ on := 14, ground := Ground.data }], guard := none }) rfl (fun K hK => ?_) AllReadyH.nil))
      · skip
        go_simp
        refine hK.out _ _ ?_ (fun hI => ?_)
        · exact hH
        clear hK K
        (try simp only [Act.put, List.setIfInBounds_toArray, List.set_cons_zero, List.set_cons_succ])
        refine wpAnyH_ready (rs := [15]) (by kernel_rfl) (by simp) ?_
        refine (AllReadyH.cons (o := { dst := some 30, op := Op.buildSlice 106 1 #[(0, Operand.tmp 29)], type := 106, pos := "law.go:39", after := #[{ on := 14, ground := Ground.data }], guard := none }) rfl (fun K hK => ?_) AllReadyH.nil)
        go_simp
        refine hK.out _ _ ?_ (fun hJ => ?_)
        · exact ⟨alloc_cell hI.1, alloc_cell hI.2.1, alloc_cell hI.2.2.1, alloc_cell hI.2.2.2.1, alloc_cell hI.2.2.2.2⟩
        clear hK K
        (try simp only [Act.put, List.setIfInBounds_toArray, List.set_cons_zero, List.set_cons_succ])
        refine wpAnyH_ready (rs := [16]) (by kernel_rfl) (by simp) ?_
        refine (AllReadyH.cons (o := { dst := some 31, op := Op.call { callee := Callee.builtin Builtin.append, args := #[Operand.tmp 16, Operand.tmp 30], argTypes := #[106, 106] }, type := 106, pos := "law.go:39", after := #[{ on := 1, ground := Ground.data }, { on := 15, ground := Ground.data }], guard := none }) rfl (fun K hK => ?_) AllReadyH.nil)
        refine step_append_lies _ (by rfl) _ _ _ (by rfl) (w.heap.size + 3) 143 i0 zeroSl 4 48 Tryz.underlying106 hi hz0 hz1 hz2 rfl (by decide) (.slice to k tc) k (slsC (l.take k)) (by rfl) ((HO.out.drew).alloc _) ⟨wr.heap.size, 0, none⟩ 1 1 [.string sn, .int .i64 sk, .int .i64 si, .string ss] (by rfl) (by rfl) (World.news_of_block (cs := #[.string sn, .int .i64 sk, .int .i64 si, .string ss]) (t := 143) (fr := (0, 0)) (heap_alloc_new wr.drew _)) (by simp [Value.oneCell']) (by decide) (by unfold maxLen; omega) (by omega) (by simp; omega) (wr.heap.size + 1) (by simp) ?_
        intro gk gcap w3 hown hgrow hat3 hlt3
        have q0 := hgrow.cell (alloc_cell (w := wr.drew) x1) (fun e => by have h9 := (HOb.out _ e.symm).1; simp only at h9; omega)
        have q1 := hgrow.cell (alloc_cell (w := wr.drew) c0) (fun e => by have h9 := (HOb.out _ e.symm).1; simp only at h9; omega)
        have q2 := hgrow.cell (alloc_cell (w := wr.drew) c1) (fun e => by have h9 := (HOb.out _ e.symm).1; simp only at h9; omega)
        have q3 := hgrow.cell (alloc_cell (w := wr.drew) c2) (fun e => by have h9 := (HOb.out _ e.symm).1; simp only at h9; omega)
        have q4 := hgrow.cell (alloc_cell (w := wr.drew) c3) (fun e => by have h9 := (HOb.out _ e.symm).1; simp only at h9; omega)
        have hgb : ∀ j, j < w.heap.size + 3 → w3.heap[j]? = wr.heap[j]? := fun j hj => (hgrow.block j (by simp; omega) (fun e => by have := (HOb.out j e.symm).1; omega)).trans (Below.heap_alloc _ _ _ (by show j < wr.heap.size; omega))
        have t3 : w3.cell? ⟨w.heap.size + 2, 1, none⟩ = some (.slice to k tc) := (HT.out.t.keep (hgb _ (by omega))).cell 1
        have tf := (HT.out.t.keep (hgb _ (by omega))).froz
        refine hK.out _ _ ?_ (fun hL => ?_)
        · exact ⟨q0, q1, q2, q3, q4⟩
        clear hK K
        (try simp only [Act.put, List.setIfInBounds_toArray, List.set_cons_zero, List.set_cons_succ])
        refine wpAnyH_take (i := 17) (oi := { dst := some 32, op := Op.fieldAddr 108 (Operand.tmp 3) 1, type := 0, pos := "law.go:39", after := #[{ on := 0, ground := Ground.phase }, { on := 1, ground := Ground.phase }, { on := 2, ground := Ground.phase }, { on := 3, ground := Ground.phase }, { on := 4, ground := Ground.phase }, { on := 5, ground := Ground.phase }, { on := 6, ground := Ground.phase }, { on := 7, ground := Ground.phase }, { on := 8, ground := Ground.phase }, { on := 9, ground := Ground.phase }, { on := 10, ground := Ground.phase }, { on := 11, ground := Ground.phase }, { on := 12, ground := Ground.phase }, { on := 13, ground := Ground.phase }, { on := 14, ground := Ground.phase }, { on := 15, ground := Ground.phase }, { on := 16, ground := Ground.phase }], guard := none }) (v := ?_) rfl (by kernel_rfl) (by kernel_rfl) (by kernel_rfl) (fun _ _ _ h => h) (Or.inl ⟨by rfl, ?hy17⟩) (by assumption) ?_
        case hy17 => (intro w hSw; (try dsimp only at hSw); go_simp; try with_reducible rfl)
        (try simp only [Act.put, List.setIfInBounds_toArray, List.set_cons_zero, List.set_cons_succ])
        refine wpAnyH_ready (rs := [18]) (by kernel_rfl) (by simp) ?_
        refine (AllReadyH.cons (o := { dst := none, op := Op.store 106 (Operand.tmp 32) (Operand.tmp 31), type := 0, pos := "law.go:39", after := #[{ on := 17, ground := Ground.data }, { on := 16, ground := Ground.data }, { on := 16, ground := Ground.chain }, { on := 0, ground := Ground.phase }, { on := 1, ground := Ground.phase }, { on := 2, ground := Ground.phase }, { on := 3, ground := Ground.phase }, { on := 4, ground := Ground.phase }, { on := 5, ground := Ground.phase }, { on := 6, ground := Ground.phase }, { on := 7, ground := Ground.phase }, { on := 8, ground := Ground.phase }, { on := 9, ground := Ground.phase }, { on := 10, ground := Ground.phase }, { on := 11, ground := Ground.phase }, { on := 12, ground := Ground.phase }, { on := 13, ground := Ground.phase }, { on := 14, ground := Ground.phase }, { on := 15, ground := Ground.phase }, { on := 16, ground := Ground.phase }], guard := none }) rfl (fun K hK => ?_) AllReadyH.nil)
        go_simp
        refine hK.out _ _ ?_ (fun hM => ?_)
        · exact ⟨(World.cell?_setCell_far _ _ _ _ (by show _ ≠ _; simp only; omega)).trans hL.1, (World.cell?_setCell_far _ _ _ _ (by show _ ≠ _; simp only; omega)).trans hL.2.1, (World.cell?_setCell_far _ _ _ _ (by show _ ≠ _; simp only; omega)).trans hL.2.2.1, (World.cell?_setCell_far _ _ _ _ (by show _ ≠ _; simp only; omega)).trans hL.2.2.2.1, (World.cell?_setCell_far _ _ _ _ (by show _ ≠ _; simp only; omega)).trans hL.2.2.2.2⟩
        clear hK K
        (try simp only [Act.put, List.setIfInBounds_toArray, List.set_cons_zero, List.set_cons_succ])
        refine wpAnyH_done (by kernel_rfl) ?_ _
        have hO3 : w3.ownsRow (w.heap.size + 3) 143 4 (.slice (some ⟨gk, 0, none⟩) (k + 1) gcap) (k + 1) (slsC (l.take (k + 1))) := by rw [← HKs.out]; exact hown
        have hB3 : Below w.heap.size w w3 := by
          have hs := HT.out.bel.size
          refine HT.out.bel.trans (((below_drawn (Below.refl _ wr) 1).alloc hs _).grown hgrow (by simp; omega) (fun j hj => ?_))
          have := (HOb.out j hj).1
          omega
        have HN3 : Hid (OfW 143 w (w3.setCell ⟨w.heap.size + 2, 1, none⟩ (.slice (some ⟨gk, 0, none⟩) (k + 1) gcap)) tn (some ⟨b, o, none⟩) N cap (.slice (some ⟨gk, 0, none⟩) (k + 1) gcap) (l.take (k + 1))) := by
          have hlk2 : (l.take (k + 1)).length = k + 1 := by rw [List.length_take, HN.out]; omega
          refine ⟨set_bel hB3 (by omega), (HT.out.x.keep (hgb _ (by omega))).off (by omega) _ _, (HT.out.r.keep (hgb _ (by omega))).off (by omega) _ _, (HT.out.t.keep (hgb _ (by omega))).set 1 _, ?_⟩
          rw [hlk2]
          exact ownsRow_setCell_below hO3 (by show w.heap.size + 2 < w.heap.size + 3; omega) _
        clear hown hgrow hat3 hlt3 q0 q1 q2 q3 q4 hgb t3 tf hH hI hJ hL hM hO3 hB3 HT HO HOb x1 t1 c0 c1 c2 c3
        go_wp2
        go_roundw
        case rel => exact ⟨k + 1, _, by omega, by go_num, HN3⟩
        case measure => simp [intOf]; omega
      · skip
        go_simp
        refine hK.out _ _ ?_ (fun hI => ?_)
        · exact ⟨alloc_cell hH.1, alloc_cell hH.2.1, alloc_cell hH.2.2.1, alloc_cell hH.2.2.2.1, alloc_cell hH.2.2.2.2⟩
        clear hK K
        (try simp only [Act.put, List.setIfInBounds_toArray, List.set_cons_zero, List.set_cons_succ])
        refine wpAnyH_ready (rs := [1]) (by kernel_rfl) (by simp) ?_
        refine (AllReadyH.cons (o := { dst := some 16, op := Op.load 106 (Operand.tmp 15), type := 106, pos := "law.go:39", after := #[{ on := 0, ground := Ground.data }], guard := none }) rfl (fun K hK => ?_) AllReadyH.nil)
        go_simp
        refine hK.out _ _ ?_ (fun hJ => ?_)
        · exact hI
        clear hK K
        (try simp only [Act.put, List.setIfInBounds_toArray, List.set_cons_zero, List.set_cons_succ])
        refine wpAnyH_ready (rs := [16]) (by kernel_rfl) (by simp) ?_
        refine (AllReadyH.cons (o := { dst := some 31, op := Op.call { callee := Callee.builtin Builtin.append, args := #[Operand.tmp 16, Operand.tmp 30], argTypes := #[106, 106] }, type := 106, pos := "law.go:39", after := #[{ on := 1, ground := Ground.data }, { on := 15, ground := Ground.data }], guard := none }) rfl (fun K hK => ?_) AllReadyH.nil)
        refine step_append_lies _ (by rfl) _ _ _ (by rfl) (w.heap.size + 3) 143 i0 zeroSl 4 48 Tryz.underlying106 hi hz0 hz1 hz2 rfl (by decide) (.slice to k tc) k (slsC (l.take k)) (by rfl) ((HO.out.drew).alloc _) ⟨wr.heap.size, 0, none⟩ 1 1 [.string sn, .int .i64 sk, .int .i64 si, .string ss] (by rfl) (by rfl) (World.news_of_block (cs := #[.string sn, .int .i64 sk, .int .i64 si, .string ss]) (t := 143) (fr := (0, 0)) (heap_alloc_new wr.drew _)) (by simp [Value.oneCell']) (by decide) (by unfold maxLen; omega) (by omega) (by simp; omega) (wr.heap.size + 1) (by simp) ?_
        intro gk gcap w3 hown hgrow hat3 hlt3
        have q0 := hgrow.cell (alloc_cell (w := wr.drew) x1) (fun e => by have h9 := (HOb.out _ e.symm).1; simp only at h9; omega)
        have q1 := hgrow.cell (alloc_cell (w := wr.drew) c0) (fun e => by have h9 := (HOb.out _ e.symm).1; simp only at h9; omega)
        have q2 := hgrow.cell (alloc_cell (w := wr.drew) c1) (fun e => by have h9 := (HOb.out _ e.symm).1; simp only at h9; omega)
        have q3 := hgrow.cell (alloc_cell (w := wr.drew) c2) (fun e => by have h9 := (HOb.out _ e.symm).1; simp only at h9; omega)
        have q4 := hgrow.cell (alloc_cell (w := wr.drew) c3) (fun e => by have h9 := (HOb.out _ e.symm).1; simp only at h9; omega)
        have hgb : ∀ j, j < w.heap.size + 3 → w3.heap[j]? = wr.heap[j]? := fun j hj => (hgrow.block j (by simp; omega) (fun e => by have := (HOb.out j e.symm).1; omega)).trans (Below.heap_alloc _ _ _ (by show j < wr.heap.size; omega))
        have t3 : w3.cell? ⟨w.heap.size + 2, 1, none⟩ = some (.slice to k tc) := (HT.out.t.keep (hgb _ (by omega))).cell 1
        have tf := (HT.out.t.keep (hgb _ (by omega))).froz
        refine hK.out _ _ ?_ (fun hL => ?_)
        · exact ⟨q0, q1, q2, q3, q4⟩
        clear hK K
        (try simp only [Act.put, List.setIfInBounds_toArray, List.set_cons_zero, List.set_cons_succ])
        refine wpAnyH_take (i := 17) (oi := { dst := some 32, op := Op.fieldAddr 108 (Operand.tmp 3) 1, type := 0, pos := "law.go:39", after := #[{ on := 0, ground := Ground.phase }, { on := 1, ground := Ground.phase }, { on := 2, ground := Ground.phase }, { on := 3, ground := Ground.phase }, { on := 4, ground := Ground.phase }, { on := 5, ground := Ground.phase }, { on := 6, ground := Ground.phase }, { on := 7, ground := Ground.phase }, { on := 8, ground := Ground.phase }, { on := 9, ground := Ground.phase }, { on := 10, ground := Ground.phase }, { on := 11, ground := Ground.phase }, { on := 12, ground := Ground.phase }, { on := 13, ground := Ground.phase }, { on := 14, ground := Ground.phase }, { on := 15, ground := Ground.phase }, { on := 16, ground := Ground.phase }], guard := none }) (v := ?_) rfl (by kernel_rfl) (by kernel_rfl) (by kernel_rfl) (fun _ _ _ h => h) (Or.inl ⟨by rfl, ?hy17⟩) (by assumption) ?_
        case hy17 => (intro w hSw; (try dsimp only at hSw); go_simp; try with_reducible rfl)
        (try simp only [Act.put, List.setIfInBounds_toArray, List.set_cons_zero, List.set_cons_succ])
        refine wpAnyH_ready (rs := [18]) (by kernel_rfl) (by simp) ?_
        refine (AllReadyH.cons (o := { dst := none, op := Op.store 106 (Operand.tmp 32) (Operand.tmp 31), type := 0, pos := "law.go:39", after := #[{ on := 17, ground := Ground.data }, { on := 16, ground := Ground.data }, { on := 16, ground := Ground.chain }, { on := 0, ground := Ground.phase }, { on := 1, ground := Ground.phase }, { on := 2, ground := Ground.phase }, { on := 3, ground := Ground.phase }, { on := 4, ground := Ground.phase }, { on := 5, ground := Ground.phase }, { on := 6, ground := Ground.phase }, { on := 7, ground := Ground.phase }, { on := 8, ground := Ground.phase }, { on := 9, ground := Ground.phase }, { on := 10, ground := Ground.phase }, { on := 11, ground := Ground.phase }, { on := 12, ground := Ground.phase }, { on := 13, ground := Ground.phase }, { on := 14, ground := Ground.phase }, { on := 15, ground := Ground.phase }, { on := 16, ground := Ground.phase }], guard := none }) rfl (fun K hK => ?_) AllReadyH.nil)
        go_simp
        refine hK.out _ _ ?_ (fun hM => ?_)
        · exact ⟨(World.cell?_setCell_far _ _ _ _ (by show _ ≠ _; simp only; omega)).trans hL.1, (World.cell?_setCell_far _ _ _ _ (by show _ ≠ _; simp only; omega)).trans hL.2.1, (World.cell?_setCell_far _ _ _ _ (by show _ ≠ _; simp only; omega)).trans hL.2.2.1, (World.cell?_setCell_far _ _ _ _ (by show _ ≠ _; simp only; omega)).trans hL.2.2.2.1, (World.cell?_setCell_far _ _ _ _ (by show _ ≠ _; simp only; omega)).trans hL.2.2.2.2⟩
        clear hK K
        (try simp only [Act.put, List.setIfInBounds_toArray, List.set_cons_zero, List.set_cons_succ])
        refine wpAnyH_done (by kernel_rfl) ?_ _
        have hO3 : w3.ownsRow (w.heap.size + 3) 143 4 (.slice (some ⟨gk, 0, none⟩) (k + 1) gcap) (k + 1) (slsC (l.take (k + 1))) := by rw [← HKs.out]; exact hown
        have hB3 : Below w.heap.size w w3 := by
          have hs := HT.out.bel.size
          refine HT.out.bel.trans (((below_drawn (Below.refl _ wr) 1).alloc hs _).grown hgrow (by simp; omega) (fun j hj => ?_))
          have := (HOb.out j hj).1
          omega
        have HN3 : Hid (OfW 143 w (w3.setCell ⟨w.heap.size + 2, 1, none⟩ (.slice (some ⟨gk, 0, none⟩) (k + 1) gcap)) tn (some ⟨b, o, none⟩) N cap (.slice (some ⟨gk, 0, none⟩) (k + 1) gcap) (l.take (k + 1))) := by
          have hlk2 : (l.take (k + 1)).length = k + 1 := by rw [List.length_take, HN.out]; omega
          refine ⟨set_bel hB3 (by omega), (HT.out.x.keep (hgb _ (by omega))).off (by omega) _ _, (HT.out.r.keep (hgb _ (by omega))).off (by omega) _ _, (HT.out.t.keep (hgb _ (by omega))).set 1 _, ?_⟩
          rw [hlk2]
          exact ownsRow_setCell_below hO3 (by show w.heap.size + 2 < w.heap.size + 3; omega) _
        clear hown hgrow hat3 hlt3 q0 q1 q2 q3 q4 hgb t3 tf hH hI hJ hL hM hO3 hB3 HT HO HOb x1 t1 c0 c1 c2 c3
        go_wp2
        go_roundw
        case rel => exact ⟨k + 1, _, by omega, by go_num, HN3⟩
        case measure => simp [intOf]; omega
    · have hki : ¬ (k : Int) < (N : Int) := by omega
      obtain rfl : k = N := by omega
      rw [List.take_of_length_le (by rw [HN.out]; exact Nat.le_refl _)] at hsl2
      have r0 : wr.cell? ⟨w.heap.size + 1, 0, none⟩ = some (.string ⟨#[]⟩) := HT.out.r.cell 0
      have r1 : wr.cell? ⟨w.heap.size + 1, 1, none⟩ = some (.slice none 0 0) := HT.out.r.cell 1
      have rf := HT.out.r.froz
      have t0 : wr.cell? ⟨w.heap.size + 2, 0, none⟩ = some (.string tn) := HT.out.t.cell 0
      have t1 : wr.cell? ⟨w.heap.size + 2, 1, none⟩ = some (.slice to k tc) := HT.out.t.cell 1
      have hne : ∀ b o, to = some ⟨b, o, none⟩ → b ≠ w.heap.size + 1 := fun b o e h => by
        subst e
        have := (HT.out.own.lt b rfl).1
        omega
      have HSe : Hid (IsSls ((wr.setCell ⟨w.heap.size + 1, 0, none⟩ (.string tn)).setCell ⟨w.heap.size + 1, 1, none⟩ (.slice to k tc)) to l) := (hsl2.set hne).set hne
      have HBe : Hid (Below w.heap.size w ((wr.setCell ⟨w.heap.size + 1, 0, none⟩ (.string tn)).setCell ⟨w.heap.size + 1, 1, none⟩ (.slice to k tc))) := set_bel (set_bel HT.out.bel (by omega)) (by omega)
      have hc9 : k ≤ tc := hcap2
      have HC9 : Hid (∀ b o, to = some ⟨b, o, none⟩ → w.heap.size ≤ b ∧ b < ((wr.setCell ⟨w.heap.size + 1, 0, none⟩ (.string tn)).setCell ⟨w.heap.size + 1, 1, none⟩ (.slice to k tc)).heap.size) := fun b o e => by
        subst e
        have h1 := (HT.out.own.lt b rfl).1
        have h2 := (HT.out.own.lt b rfl).2
        refine ⟨by omega, ?_⟩
        simp [World.setCell]
        exact h2
      clear hsl2 HT hne
      go_wp2
      exact bodyPost_ret (v := .agg #[.string tn, .slice to k tc]) (by simp [results, Tryz.results41, go_sem, r0, r1]) rfl ⟨⟨to, tc, rfl, hc9, HSe.out, HC9.out⟩, HBe.out⟩
end Go.Proofs.YtnhbjhdkpbhioaaGreatDoor
