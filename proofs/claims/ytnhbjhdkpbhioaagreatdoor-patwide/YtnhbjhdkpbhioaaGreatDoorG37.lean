/- The law's To of a template: its row lies in blocks of the call's own. -/
import Derived.Deep.AppendLies
import Derived.Test.YtnhbjhdkpbhioaaGreatDoorG27
import Derived.Test.YtnhbjhdkpbhioaaGreatDoorG31
namespace Go.Proofs.YtnhbjhdkpbhioaaGreatDoor
open Go.RowKit

set_option maxHeartbeats 16000000 in
set_option maxRecDepth 8000 in
theorem tto9_any (T : Tp) (ao : Option Addr) (cap : Nat) (w : World) (hN : T.l.length ≤ 1000) (h : IsSls w ao T.l) :
    Calls Tryz.prog 41 #[tmV T ao cap] w fun e w' => (∃ ao' cap', e = .returned (tmV T ao' cap') ∧ T.l.length ≤ cap' ∧ IsSls w' ao' T.l ∧ ∀ b o, ao' = some ⟨b, o, none⟩ → w.heap.size ≤ b ∧ b < w'.heap.size) ∧ Below w.heap.size w w' := by
  obtain ⟨tn, l⟩ := T
  unfold tmV
  simp only at hN h ⊢
  obtain ⟨N, HN⟩ : ∃ N, Hid (l.length = N) := ⟨_, rfl⟩
  rw [HN.out]
  rw [HN.out] at hN
  have HI : Hid (IsSls w ao l) := h
  obtain ⟨W, HWe⟩ : ∃ W, Hid (((w.alloc (.cells #[.string tn, .slice ao N cap] 112)).alloc (.cells #[.string ⟨#[]⟩, .slice none 0 0] 108)).alloc (.cells #[.string tn, .slice none 0 0] 108) = W) := ⟨_, rfl⟩
  have HW : Hid (OfW 143 w W tn ao N cap (.slice none 0 0) (l.take 0)) := by
    refine ⟨?_, ?_, ?_, ?_, ?_⟩
    · rw [← HWe.out]; exact next_trans (next_trans (alloc_below _ _) (alloc_below _ _)) (alloc_below _ _)
    · rw [← HWe.out]; exact ((Bx.made _ _ _).alloc _).alloc _
    · rw [← HWe.out]; exact (Bx.made' rfl (by simp)).alloc _
    · exact Bx.made' HWe.out (by simp)
    · exact World.ownsRow_nil _ _ _ _
  clear h
  go_enter Tryz.func41, Tryz.ntmps41
  go_wp2
  rw [HWe.out]
  clear HWe
  go_loopw [4] (fun q wr => ∃ (k : Nat) (v : Value), k ≤ N ∧ q = .int .i64 k ∧ Hid (OfW 143 w wr tn ao N cap v (l.take k))) (fun q _ => N - (intOf q).toNat)
  case atStart => exact ⟨0, _, Nat.zero_le _, rfl, HW⟩
  case round =>
    obtain ⟨k, v, hk, rfl, HT⟩ := hrel
    clear HW
    have hlr : w.heap.size + 2 < wr.heap.size := HT.out.t.lt
    have x1 : wr.cell? ⟨w.heap.size, 1, none⟩ = some (.slice ao N cap) := HT.out.x.cell 1
    have hlk : (l.take k).length = k := by rw [List.length_take, HN.out]; omega
    obtain ⟨to, tc, hv, hsl2, hcap2⟩ := own_sls hlk (by have := HT.out.own; rw [hlk] at this; exact this)
    subst hv
    by_cases hlt : k < N
    · have hki : (k : Int) < (N : Int) := by omega
      have hk0 : (0 : Int) ≤ (k : Int) := by omega
      obtain ⟨s, hs⟩ : ∃ s, l[k]? = some s := ⟨_, List.getElem?_eq_getElem (by rw [HN.out]; exact hlt)⟩
      have HKs : Hid (slsC (l.take k) ++ sC s = slsC (l.take (k + 1))) := by
        obtain ⟨hk', e⟩ := List.getElem?_eq_some_iff.1 hs
        rw [Hid, slsC_snoc, List.take_succ_eq_append_getElem hk', e]
      have hob0 : ∀ b o, ao = some ⟨b, o, none⟩ → b < w.heap.size := fun b o e => by
        obtain ⟨b', o', e', c0', _⟩ := HI.out k _ hs
        rw [e] at e'
        have e1 := Option.some.inj e'
        injection e1 with e2
        subst e2
        exact World.block_lt_of_cell? w ⟨b, _, none⟩ c0'
      obtain ⟨b, o, rfl, c0, c1, c2, c3⟩ := (HI.out.next HT.out.bel) k s hs
      have hob : b < w.heap.size := hob0 b o rfl
      obtain ⟨sn, sk, si, ss⟩ := s
      simp only at c0 c1 c2 c3
      have HO : Hid (wr.ownsRow (w.heap.size + 3) 143 4 (.slice to k tc) k (slsC (l.take k))) := by have := HT.out.own; rw [hlk] at this; exact this
      have HOb : Hid (∀ j, (Value.slice to k tc).ownBlock = some j → w.heap.size + 3 ≤ j ∧ j < wr.heap.size) := fun j hj => HO.out.lt j hj
      have t1 : wr.cell? ⟨w.heap.size + 2, 1, none⟩ = some (.slice to k tc) := HT.out.t.cell 1
      obtain ⟨i0, hi, hz0, hz1, hz2⟩ := infoSl'
      clear hs hsl2 hob0
      go_wp2
      refine wp_region_held_drew (S := (fun w' => w'.cell? ⟨w.heap.size, 1, none⟩ = some (.slice (some ⟨b, o, none⟩) N cap) ∧ w'.cell? ⟨b, o + k * 4, none⟩ = some (.string sn) ∧ w'.cell? ⟨b, o + k * 4 + 1, none⟩ = some (.int .i64 sk) ∧ w'.cell? ⟨b, o + k * 4 + 2, none⟩ = some (.int .i64 si) ∧ w'.cell? ⟨b, o + k * 4 + 3, none⟩ = some (.string ss))) (by kernel_rfl) ?_ (fun hH => ?_)
      · exact ⟨x1, c0, c1, c2, c3⟩
      refine wpAnyH_take (i := 0) (oi := { dst := some 15, op := Op.fieldAddr 108 (Operand.tmp 3) 1, type := 0, pos := "law.go:39", after := #[], guard := none }) (v := ?_) rfl (by kernel_rfl) (by kernel_rfl) (by kernel_rfl) (fun _ _ _ h => h) (Or.inl ⟨by rfl, ?hy0⟩) (by assumption) ?_
      case hy0 => (intro w hSw; (try dsimp only at hSw); go_simp; try with_reducible rfl)
      (try simp only [Act.put, List.setIfInBounds_toArray, List.set_cons_zero, List.set_cons_succ])
      refine wpAnyH_take (i := 2) (oi := { dst := some 17, op := Op.fieldAddr 112 (Operand.tmp 1) 1, type := 0, pos := "law.go:39", after := #[], guard := none }) (v := ?_) rfl (by kernel_rfl) (by kernel_rfl) (by kernel_rfl) (fun _ _ _ h => h) (Or.inl ⟨by rfl, ?hy2⟩) (by assumption) ?_
      case hy2 => (intro w hSw; (try dsimp only at hSw); go_simp; try with_reducible rfl)
      (try simp only [Act.put, List.setIfInBounds_toArray, List.set_cons_zero, List.set_cons_succ])
      refine wpAnyH_take (i := 3) (oi := { dst := some 18, op := Op.load 110 (Operand.tmp 17), type := 110, pos := "law.go:39", after := #[{ on := 2, ground := Ground.data }], guard := none }) (v := ?_) rfl (by kernel_rfl) (by kernel_rfl) (by kernel_rfl) (fun _ _ _ h => h) (Or.inl ⟨by rfl, ?hy3⟩) (by assumption) ?_
      case hy3 => (intro w hSw; (try dsimp only at hSw); go_simp; try with_reducible rfl)
      (try simp only [Act.put, List.setIfInBounds_toArray, List.set_cons_zero, List.set_cons_succ])
      refine wpAnyH_take (i := 4) (oi := { dst := some 19, op := Op.move (Operand.tmp 4), type := 3, pos := "law.go:39", after := #[], guard := none }) (v := ?_) rfl (by kernel_rfl) (by kernel_rfl) (by kernel_rfl) (fun _ _ _ h => h) (Or.inl ⟨by rfl, ?hy4⟩) (by assumption) ?_
      case hy4 => (intro w hSw; (try dsimp only at hSw); go_simp; try with_reducible rfl)
      (try simp only [Act.put, List.setIfInBounds_toArray, List.set_cons_zero, List.set_cons_succ])
      refine wpAnyH_take (i := 5) (oi := { dst := some 20, op := Op.indexAddr 110 (Operand.tmp 18) (Operand.tmp 19), type := 0, pos := "law.go:39", after := #[{ on := 3, ground := Ground.data }, { on := 4, ground := Ground.data }], guard := none }) (v := ?_) rfl (by kernel_rfl) (by kernel_rfl) (by kernel_rfl) (fun _ _ _ h => h) (Or.inl ⟨by rfl, ?hy5⟩) (by assumption) ?_
      case hy5 => (intro w hSw; (try dsimp only at hSw); go_simp; try with_reducible rfl)
      (try simp only [Act.put, List.setIfInBounds_toArray, List.set_cons_zero, List.set_cons_succ])
      refine wpAnyH_take (i := 6) (oi := { dst := some 21, op := Op.fieldAddr 115 (Operand.tmp 20) 0, type := 0, pos := "law.go:39", after := #[{ on := 5, ground := Ground.data }], guard := none }) (v := ?_) rfl (by kernel_rfl) (by kernel_rfl) (by kernel_rfl) (fun _ _ _ h => h) (Or.inl ⟨by rfl, ?hy6⟩) (by assumption) ?_
      case hy6 => (intro w hSw; (try dsimp only at hSw); go_simp; try with_reducible rfl)
      (try simp only [Act.put, List.setIfInBounds_toArray, List.set_cons_zero, List.set_cons_succ])
      refine wpAnyH_take (i := 7) (oi := { dst := some 22, op := Op.load 9 (Operand.tmp 21), type := 9, pos := "law.go:39", after := #[{ on := 6, ground := Ground.data }], guard := none }) (v := ?_) rfl (by kernel_rfl) (by kernel_rfl) (by kernel_rfl) (fun _ _ _ h => h) (Or.inl ⟨by rfl, ?hy7⟩) (by assumption) ?_
      case hy7 => (intro w hSw; (try dsimp only at hSw); go_simp; try with_reducible rfl)
      (try simp only [Act.put, List.setIfInBounds_toArray, List.set_cons_zero, List.set_cons_succ])
      refine wpAnyH_take (i := 8) (oi := { dst := some 23, op := Op.fieldAddr 112 (Operand.tmp 1) 1, type := 0, pos := "law.go:39", after := #[], guard := none }) (v := ?_) rfl (by kernel_rfl) (by kernel_rfl) (by kernel_rfl) (fun _ _ _ h => h) (Or.inl ⟨by rfl, ?hy8⟩) (by assumption) ?_
      case hy8 => (intro w hSw; (try dsimp only at hSw); go_simp; try with_reducible rfl)
      (try simp only [Act.put, List.setIfInBounds_toArray, List.set_cons_zero, List.set_cons_succ])
      refine wpAnyH_take (i := 9) (oi := { dst := some 24, op := Op.load 110 (Operand.tmp 23), type := 110, pos := "law.go:39", after := #[{ on := 8, ground := Ground.data }], guard := none }) (v := ?_) rfl (by kernel_rfl) (by kernel_rfl) (by kernel_rfl) (fun _ _ _ h => h) (Or.inl ⟨by rfl, ?hy9⟩) (by assumption) ?_
      case hy9 => (intro w hSw; (try dsimp only at hSw); go_simp; try with_reducible rfl)
      (try simp only [Act.put, List.setIfInBounds_toArray, List.set_cons_zero, List.set_cons_succ])
      refine wpAnyH_take (i := 10) (oi := { dst := some 25, op := Op.move (Operand.tmp 4), type := 3, pos := "law.go:39", after := #[], guard := none }) (v := ?_) rfl (by kernel_rfl) (by kernel_rfl) (by kernel_rfl) (fun _ _ _ h => h) (Or.inl ⟨by rfl, ?hy10⟩) (by assumption) ?_
      case hy10 => (intro w hSw; (try dsimp only at hSw); go_simp; try with_reducible rfl)
      (try simp only [Act.put, List.setIfInBounds_toArray, List.set_cons_zero, List.set_cons_succ])
      refine wpAnyH_take (i := 11) (oi := { dst := some 26, op := Op.indexAddr 110 (Operand.tmp 24) (Operand.tmp 25), type := 0, pos := "law.go:39", after := #[{ on := 9, ground := Ground.data }, { on := 10, ground := Ground.data }], guard := none }) (v := ?_) rfl (by kernel_rfl) (by kernel_rfl) (by kernel_rfl) (fun _ _ _ h => h) (Or.inl ⟨by rfl, ?hy11⟩) (by assumption) ?_
      case hy11 => (intro w hSw; (try dsimp only at hSw); go_simp; try with_reducible rfl)
      (try simp only [Act.put, List.setIfInBounds_toArray, List.set_cons_zero, List.set_cons_succ])
      refine wpAnyH_take (i := 12) (oi := { dst := some 27, op := Op.fieldAddr 115 (Operand.tmp 26) 1, type := 0, pos := "law.go:39", after := #[{ on := 11, ground := Ground.data }], guard := none }) (v := ?_) rfl (by kernel_rfl) (by kernel_rfl) (by kernel_rfl) (fun _ _ _ h => h) (Or.inl ⟨by rfl, ?hy12⟩) (by assumption) ?_
      case hy12 => (intro w hSw; (try dsimp only at hSw); go_simp; try with_reducible rfl)
      (try simp only [Act.put, List.setIfInBounds_toArray, List.set_cons_zero, List.set_cons_succ])
      refine wpAnyH_take (i := 13) (oi := { dst := some 28, op := Op.load 71 (Operand.tmp 27), type := 71, pos := "law.go:39", after := #[{ on := 12, ground := Ground.data }], guard := none }) (v := ?_) rfl (by kernel_rfl) (by kernel_rfl) (by kernel_rfl) (fun _ _ _ h => h) (Or.inl ⟨by rfl, ?hy13⟩) (by assumption) ?_
      case hy13 => (intro w hSw; (try dsimp only at hSw); go_simp; try with_reducible rfl)
      (try simp only [Act.put, List.setIfInBounds_toArray, List.set_cons_zero, List.set_cons_succ])
      refine wpAnyH_take (i := 14) (oi := { dst := some 29, op := Op.build 143 #[(0, Operand.tmp 22), (1, Operand.tmp 28)], type := 143, pos := "law.go:39", after := #[{ on := 7, ground := Ground.data }, { on := 13, ground := Ground.data }], guard := none }) (v := ?_) rfl (by kernel_rfl) (by kernel_rfl) (by kernel_rfl) (fun _ _ _ h => h) (Or.inl ⟨by rfl, ?hy14⟩) (by assumption) ?_
      case hy14 => (intro w hSw; (try dsimp only at hSw); go_simp; try with_reducible rfl)
      (try simp only [Act.put, List.setIfInBounds_toArray, List.set_cons_zero, List.set_cons_succ])
      refine wpAnyH_ready (rs := [1, 15]) (by kernel_rfl) (by simp) ?_
      refine (AllReadyH.cons (o := { dst := some 16, op := Op.load 106 (Operand.tmp 15), type := 106, pos := "law.go:39", after := #[{ on := 0, ground := Ground.data }], guard := none }) rfl (fun K hK => ?_) (AllReadyH.cons (o := { dst := some 30, op := Op.buildSlice 106 1 #[(0, Operand.tmp 29)], type := 106, pos := "law.go:39", after := #[{ on := 14, ground := Ground.data }], guard := none }) rfl (fun K hK => ?_) AllReadyH.nil))
      · skip
        go_simp
        refine hK.out _ _ ?_ (fun hI => ?_)
        · exact hH
        clear hK K
        (try simp only [Act.put, List.setIfInBounds_toArray, List.set_cons_zero, List.set_cons_succ])
        refine wpAnyH_ready (rs := [15]) (by kernel_rfl) (by simp) ?_
        refine (AllReadyH.cons (o := { dst := some 30, op := Op.buildSlice 106 1 #[(0, Operand.tmp 29)], type := 106, pos := "law.go:39", after := #[{ on := 14, ground := Ground.data }], guard := none }) rfl (fun K hK => ?_) AllReadyH.nil)
        go_simp
        refine hK.out _ _ ?_ (fun hJ => ?_)
        · exact ⟨alloc_cell hI.1, alloc_cell hI.2.1, alloc_cell hI.2.2.1, alloc_cell hI.2.2.2.1, alloc_cell hI.2.2.2.2⟩
        clear hK K
        (try simp only [Act.put, List.setIfInBounds_toArray, List.set_cons_zero, List.set_cons_succ])
        refine wpAnyH_ready (rs := [16]) (by kernel_rfl) (by simp) ?_
        refine (AllReadyH.cons (o := { dst := some 31, op := Op.call { callee := Callee.builtin Builtin.append, args := #[Operand.tmp 16, Operand.tmp 30], argTypes := #[106, 106] }, type := 106, pos := "law.go:39", after := #[{ on := 1, ground := Ground.data }, { on := 15, ground := Ground.data }], guard := none }) rfl (fun K hK => ?_) AllReadyH.nil)
        refine step_append_lies _ (by rfl) _ _ _ (by rfl) (w.heap.size + 3) 143 i0 zeroSl 4 48 Tryz.underlying106 hi hz0 hz1 hz2 rfl (by decide) (.slice to k tc) k (slsC (l.take k)) (by rfl) ((HO.out.drew).alloc _) ⟨wr.heap.size, 0, none⟩ 1 1 [.string sn, .int .i64 sk, .int .i64 si, .string ss] (by rfl) (by rfl) (World.news_of_block (cs := #[.string sn, .int .i64 sk, .int .i64 si, .string ss]) (t := 143) (fr := (0, 0)) (heap_alloc_new wr.drew _)) (by simp [Value.oneCell']) (by decide) (by unfold maxLen; omega) (by omega) (by simp; omega) (wr.heap.size + 1) (by simp) ?_
        intro gk gcap w3 hown hgrow hat3 hlt3
        have q0 := hgrow.cell (alloc_cell (w := wr.drew) x1) (fun e => by have h9 := (HOb.out _ e.symm).1; simp only at h9; omega)
        have q1 := hgrow.cell (alloc_cell (w := wr.drew) c0) (fun e => by have h9 := (HOb.out _ e.symm).1; simp only at h9; omega)
        have q2 := hgrow.cell (alloc_cell (w := wr.drew) c1) (fun e => by have h9 := (HOb.out _ e.symm).1; simp only at h9; omega)
        have q3 := hgrow.cell (alloc_cell (w := wr.drew) c2) (fun e => by have h9 := (HOb.out _ e.symm).1; simp only at h9; omega)
        have q4 := hgrow.cell (alloc_cell (w := wr.drew) c3) (fun e => by have h9 := (HOb.out _ e.symm).1; simp only at h9; omega)
        have hgb : ∀ j, j < w.heap.size + 3 → w3.heap[j]? = wr.heap[j]? := fun j hj => (hgrow.block j (by simp; omega) (fun e => by have := (HOb.out j e.symm).1; omega)).trans (Below.heap_alloc _ _ _ (by show j < wr.heap.size; omega))
        have t3 : w3.cell? ⟨w.heap.size + 2, 1, none⟩ = some (.slice to k tc) := (HT.out.t.keep (hgb _ (by omega))).cell 1
        have tf := (HT.out.t.keep (hgb _ (by omega))).froz
        refine hK.out _ _ ?_ (fun hL => ?_)
        · exact ⟨q0, q1, q2, q3, q4⟩
        clear hK K
        (try simp only [Act.put, List.setIfInBounds_toArray, List.set_cons_zero, List.set_cons_succ])
        refine wpAnyH_take (i := 17) (oi := { dst := some 32, op := Op.fieldAddr 108 (Operand.tmp 3) 1, type := 0, pos := "law.go:39", after := #[{ on := 0, ground := Ground.phase }, { on := 1, ground := Ground.phase }, { on := 2, ground := Ground.phase }, { on := 3, ground := Ground.phase }, { on := 4, ground := Ground.phase }, { on := 5, ground := Ground.phase }, { on := 6, ground := Ground.phase }, { on := 7, ground := Ground.phase }, { on := 8, ground := Ground.phase }, { on := 9, ground := Ground.phase }, { on := 10, ground := Ground.phase }, { on := 11, ground := Ground.phase }, { on := 12, ground := Ground.phase }, { on := 13, ground := Ground.phase }, { on := 14, ground := Ground.phase }, { on := 15, ground := Ground.phase }, { on := 16, ground := Ground.phase }], guard := none }) (v := ?_) rfl (by kernel_rfl) (by kernel_rfl) (by kernel_rfl) (fun _ _ _ h => h) (Or.inl ⟨by rfl, ?hy17⟩) (by assumption) ?_
        case hy17 => (intro w hSw; (try dsimp only at hSw); go_simp; try with_reducible rfl)
        (try simp only [Act.put, List.setIfInBounds_toArray, List.set_cons_zero, List.set_cons_succ])
        refine wpAnyH_ready (rs := [18]) (by kernel_rfl) (by simp) ?_
        refine (AllReadyH.cons (o := { dst := none, op := Op.store 106 (Operand.tmp 32) (Operand.tmp 31), type := 0, pos := "law.go:39", after := #[{ on := 17, ground := Ground.data }, { on := 16, ground := Ground.data }, { on := 16, ground := Ground.chain }, { on := 0, ground := Ground.phase }, { on := 1, ground := Ground.phase }, { on := 2, ground := Ground.phase }, { on := 3, ground := Ground.phase }, { on := 4, ground := Ground.phase }, { on := 5, ground := Ground.phase }, { on := 6, ground := Ground.phase }, { on := 7, ground := Ground.phase }, { on := 8, ground := Ground.phase }, { on := 9, ground := Ground.phase }, { on := 10, ground := Ground.phase }, { on := 11, ground := Ground.phase }, { on := 12, ground := Ground.phase }, { on := 13, ground := Ground.phase }, { on := 14, ground := Ground.phase }, { on := 15, ground := Ground.phase }, { on := 16, ground := Ground.phase }], guard := none }) rfl (fun K hK => ?_) AllReadyH.nil)
        go_simp
        refine hK.out _ _ ?_ (fun hM => ?_)
        · exact ⟨(World.cell?_setCell_far _ _ _ _ (by show _ ≠ _; simp only; omega)).trans hL.1, (World.cell?_setCell_far _ _ _ _ (by show _ ≠ _; simp only; omega)).trans hL.2.1, (World.cell?_setCell_far _ _ _ _ (by show _ ≠ _; simp only; omega)).trans hL.2.2.1, (World.cell?_setCell_far _ _ _ _ (by show _ ≠ _; simp only; omega)).trans hL.2.2.2.1, (World.cell?_setCell_far _ _ _ _ (by show _ ≠ _; simp only; omega)).trans hL.2.2.2.2⟩
        clear hK K
        (try simp only [Act.put, List.setIfInBounds_toArray, List.set_cons_zero, List.set_cons_succ])
        refine wpAnyH_done (by kernel_rfl) ?_ _
        have hO3 : w3.ownsRow (w.heap.size + 3) 143 4 (.slice (some ⟨gk, 0, none⟩) (k + 1) gcap) (k + 1) (slsC (l.take (k + 1))) := by rw [← HKs.out]; exact hown
        have hB3 : Below w.heap.size w w3 := by
          have hs := HT.out.bel.size
          refine HT.out.bel.trans (((below_drawn (Below.refl _ wr) 1).alloc hs _).grown hgrow (by simp; omega) (fun j hj => ?_))
          have := (HOb.out j hj).1
          omega
        have HN3 : Hid (OfW 143 w (w3.setCell ⟨w.heap.size + 2, 1, none⟩ (.slice (some ⟨gk, 0, none⟩) (k + 1) gcap)) tn (some ⟨b, o, none⟩) N cap (.slice (some ⟨gk, 0, none⟩) (k + 1) gcap) (l.take (k + 1))) := by
          have hlk2 : (l.take (k + 1)).length = k + 1 := by rw [List.length_take, HN.out]; omega
          refine ⟨set_bel hB3 (by omega), (HT.out.x.keep (hgb _ (by omega))).off (by omega) _ _, (HT.out.r.keep (hgb _ (by omega))).off (by omega) _ _, (HT.out.t.keep (hgb _ (by omega))).set 1 _, ?_⟩
          rw [hlk2]
          exact ownsRow_setCell_below hO3 (by show w.heap.size + 2 < w.heap.size + 3; omega) _
        clear hown hgrow hat3 hlt3 q0 q1 q2 q3 q4 hgb t3 tf hH hI hJ hL hM hO3 hB3 HT HO HOb x1 t1 c0 c1 c2 c3
        go_wp2
        go_roundw
        case rel => exact ⟨k + 1, _, by omega, by go_num, HN3⟩
        case measure => simp [intOf]; omega
      · skip
        go_simp
        refine hK.out _ _ ?_ (fun hI => ?_)
        · exact ⟨alloc_cell hH.1, alloc_cell hH.2.1, alloc_cell hH.2.2.1, alloc_cell hH.2.2.2.1, alloc_cell hH.2.2.2.2⟩
        clear hK K
        (try simp only [Act.put, List.setIfInBounds_toArray, List.set_cons_zero, List.set_cons_succ])
        refine wpAnyH_ready (rs := [1]) (by kernel_rfl) (by simp) ?_
        refine (AllReadyH.cons (o := { dst := some 16, op := Op.load 106 (Operand.tmp 15), type := 106, pos := "law.go:39", after := #[{ on := 0, ground := Ground.data }], guard := none }) rfl (fun K hK => ?_) AllReadyH.nil)
        go_simp
        refine hK.out _ _ ?_ (fun hJ => ?_)
        · exact hI
        clear hK K
        (try simp only [Act.put, List.setIfInBounds_toArray, List.set_cons_zero, List.set_cons_succ])
        refine wpAnyH_ready (rs := [16]) (by kernel_rfl) (by simp) ?_
        refine (AllReadyH.cons (o := { dst := some 31, op := Op.call { callee := Callee.builtin Builtin.append, args := #[Operand.tmp 16, Operand.tmp 30], argTypes := #[106, 106] }, type := 106, pos := "law.go:39", after := #[{ on := 1, ground := Ground.data }, { on := 15, ground := Ground.data }], guard := none }) rfl (fun K hK => ?_) AllReadyH.nil)
        refine step_append_lies _ (by rfl) _ _ _ (by rfl) (w.heap.size + 3) 143 i0 zeroSl 4 48 Tryz.underlying106 hi hz0 hz1 hz2 rfl (by decide) (.slice to k tc) k (slsC (l.take k)) (by rfl) ((HO.out.drew).alloc _) ⟨wr.heap.size, 0, none⟩ 1 1 [.string sn, .int .i64 sk, .int .i64 si, .string ss] (by rfl) (by rfl) (World.news_of_block (cs := #[.string sn, .int .i64 sk, .int .i64 si, .string ss]) (t := 143) (fr := (0, 0)) (heap_alloc_new wr.drew _)) (by simp [Value.oneCell']) (by decide) (by unfold maxLen; omega) (by omega) (by simp; omega) (wr.heap.size + 1) (by simp) ?_
        intro gk gcap w3 hown hgrow hat3 hlt3
        have q0 := hgrow.cell (alloc_cell (w := wr.drew) x1) (fun e => by have h9 := (HOb.out _ e.symm).1; simp only at h9; omega)
        have q1 := hgrow.cell (alloc_cell (w := wr.drew) c0) (fun e => by have h9 := (HOb.out _ e.symm).1; simp only at h9; omega)
        have q2 := hgrow.cell (alloc_cell (w := wr.drew) c1) (fun e => by have h9 := (HOb.out _ e.symm).1; simp only at h9; omega)
        have q3 := hgrow.cell (alloc_cell (w := wr.drew) c2) (fun e => by have h9 := (HOb.out _ e.symm).1; simp only at h9; omega)
        have q4 := hgrow.cell (alloc_cell (w := wr.drew) c3) (fun e => by have h9 := (HOb.out _ e.symm).1; simp only at h9; omega)
        have hgb : ∀ j, j < w.heap.size + 3 → w3.heap[j]? = wr.heap[j]? := fun j hj => (hgrow.block j (by simp; omega) (fun e => by have := (HOb.out j e.symm).1; omega)).trans (Below.heap_alloc _ _ _ (by show j < wr.heap.size; omega))
        have t3 : w3.cell? ⟨w.heap.size + 2, 1, none⟩ = some (.slice to k tc) := (HT.out.t.keep (hgb _ (by omega))).cell 1
        have tf := (HT.out.t.keep (hgb _ (by omega))).froz
        refine hK.out _ _ ?_ (fun hL => ?_)
        · exact ⟨q0, q1, q2, q3, q4⟩
        clear hK K
        (try simp only [Act.put, List.setIfInBounds_toArray, List.set_cons_zero, List.set_cons_succ])
        refine wpAnyH_take (i := 17) (oi := { dst := some 32, op := Op.fieldAddr 108 (Operand.tmp 3) 1, type := 0, pos := "law.go:39", after := #[{ on := 0, ground := Ground.phase }, { on := 1, ground := Ground.phase }, { on := 2, ground := Ground.phase }, { on := 3, ground := Ground.phase }, { on := 4, ground := Ground.phase }, { on := 5, ground := Ground.phase }, { on := 6, ground := Ground.phase }, { on := 7, ground := Ground.phase }, { on := 8, ground := Ground.phase }, { on := 9, ground := Ground.phase }, { on := 10, ground := Ground.phase }, { on := 11, ground := Ground.phase }, { on := 12, ground := Ground.phase }, { on := 13, ground := Ground.phase }, { on := 14, ground := Ground.phase }, { on := 15, ground := Ground.phase }, { on := 16, ground := Ground.phase }], guard := none }) (v := ?_) rfl (by kernel_rfl) (by kernel_rfl) (by kernel_rfl) (fun _ _ _ h => h) (Or.inl ⟨by rfl, ?hy17⟩) (by assumption) ?_
        case hy17 => (intro w hSw; (try dsimp only at hSw); go_simp; try with_reducible rfl)
        (try simp only [Act.put, List.setIfInBounds_toArray, List.set_cons_zero, List.set_cons_succ])
        refine wpAnyH_ready (rs := [18]) (by kernel_rfl) (by simp) ?_
        refine (AllReadyH.cons (o := { dst := none, op := Op.store 106 (Operand.tmp 32) (Operand.tmp 31), type := 0, pos := "law.go:39", after := #[{ on := 17, ground := Ground.data }, { on := 16, ground := Ground.data }, { on := 16, ground := Ground.chain }, { on := 0, ground := Ground.phase }, { on := 1, ground := Ground.phase }, { on := 2, ground := Ground.phase }, { on := 3, ground := Ground.phase }, { on := 4, ground := Ground.phase }, { on := 5, ground := Ground.phase }, { on := 6, ground := Ground.phase }, { on := 7, ground := Ground.phase }, { on := 8, ground := Ground.phase }, { on := 9, ground := Ground.phase }, { on := 10, ground := Ground.phase }, { on := 11, ground := Ground.phase }, { on := 12, ground := Ground.phase }, { on := 13, ground := Ground.phase }, { on := 14, ground := Ground.phase }, { on := 15, ground := Ground.phase }, { on := 16, ground := Ground.phase }], guard := none }) rfl (fun K hK => ?_) AllReadyH.nil)
        go_simp
        refine hK.out _ _ ?_ (fun hM => ?_)
        · exact ⟨(World.cell?_setCell_far _ _ _ _ (by show _ ≠ _; simp only; omega)).trans hL.1, (World.cell?_setCell_far _ _ _ _ (by show _ ≠ _; simp only; omega)).trans hL.2.1, (World.cell?_setCell_far _ _ _ _ (by show _ ≠ _; simp only; omega)).trans hL.2.2.1, (World.cell?_setCell_far _ _ _ _ (by show _ ≠ _; simp only; omega)).trans hL.2.2.2.1, (World.cell?_setCell_far _ _ _ _ (by show _ ≠ _; simp only; omega)).trans hL.2.2.2.2⟩
        clear hK K
        (try simp only [Act.put, List.setIfInBounds_toArray, List.set_cons_zero, List.set_cons_succ])
        refine wpAnyH_done (by kernel_rfl) ?_ _
        have hO3 : w3.ownsRow (w.heap.size + 3) 143 4 (.slice (some ⟨gk, 0, none⟩) (k + 1) gcap) (k + 1) (slsC (l.take (k + 1))) := by rw [← HKs.out]; exact hown
        have hB3 : Below w.heap.size w w3 := by
          have hs := HT.out.bel.size
          refine HT.out.bel.trans (((below_drawn (Below.refl _ wr) 1).alloc hs _).grown hgrow (by simp; omega) (fun j hj => ?_))
          have := (HOb.out j hj).1
          omega
        have HN3 : Hid (OfW 143 w (w3.setCell ⟨w.heap.size + 2, 1, none⟩ (.slice (some ⟨gk, 0, none⟩) (k + 1) gcap)) tn (some ⟨b, o, none⟩) N cap (.slice (some ⟨gk, 0, none⟩) (k + 1) gcap) (l.take (k + 1))) := by
          have hlk2 : (l.take (k + 1)).length = k + 1 := by rw [List.length_take, HN.out]; omega
          refine ⟨set_bel hB3 (by omega), (HT.out.x.keep (hgb _ (by omega))).off (by omega) _ _, (HT.out.r.keep (hgb _ (by omega))).off (by omega) _ _, (HT.out.t.keep (hgb _ (by omega))).set 1 _, ?_⟩
          rw [hlk2]
          exact ownsRow_setCell_below hO3 (by show w.heap.size + 2 < w.heap.size + 3; omega) _
        clear hown hgrow hat3 hlt3 q0 q1 q2 q3 q4 hgb t3 tf hH hI hJ hL hM hO3 hB3 HT HO HOb x1 t1 c0 c1 c2 c3
        go_wp2
        go_roundw
        case rel => exact ⟨k + 1, _, by omega, by go_num, HN3⟩
        case measure => simp [intOf]; omega
    · have hki : ¬ (k : Int) < (N : Int) := by omega
      obtain rfl : k = N := by omega
      rw [List.take_of_length_le (by rw [HN.out]; exact Nat.le_refl _)] at hsl2
      have r0 : wr.cell? ⟨w.heap.size + 1, 0, none⟩ = some (.string ⟨#[]⟩) := HT.out.r.cell 0
      have r1 : wr.cell? ⟨w.heap.size + 1, 1, none⟩ = some (.slice none 0 0) := HT.out.r.cell 1
      have rf := HT.out.r.froz
      have t0 : wr.cell? ⟨w.heap.size + 2, 0, none⟩ = some (.string tn) := HT.out.t.cell 0
      have t1 : wr.cell? ⟨w.heap.size + 2, 1, none⟩ = some (.slice to k tc) := HT.out.t.cell 1
      have hne : ∀ b o, to = some ⟨b, o, none⟩ → b ≠ w.heap.size + 1 := fun b o e h => by
        subst e
        have := (HT.out.own.lt b rfl).1
        omega
      have HSe : Hid (IsSls ((wr.setCell ⟨w.heap.size + 1, 0, none⟩ (.string tn)).setCell ⟨w.heap.size + 1, 1, none⟩ (.slice to k tc)) to l) := (hsl2.set hne).set hne
      have HBe : Hid (Below w.heap.size w ((wr.setCell ⟨w.heap.size + 1, 0, none⟩ (.string tn)).setCell ⟨w.heap.size + 1, 1, none⟩ (.slice to k tc))) := set_bel (set_bel HT.out.bel (by omega)) (by omega)
      have hc9 : k ≤ tc := hcap2
      have HC9 : Hid (∀ b o, to = some ⟨b, o, none⟩ → w.heap.size ≤ b ∧ b < ((wr.setCell ⟨w.heap.size + 1, 0, none⟩ (.string tn)).setCell ⟨w.heap.size + 1, 1, none⟩ (.slice to k tc)).heap.size) := fun b o e => by
        subst e
        have h1 := (HT.out.own.lt b rfl).1
        have h2 := (HT.out.own.lt b rfl).2
        refine ⟨by omega, ?_⟩
        simp [World.setCell]
        exact h2
      clear hsl2 HT hne
      go_wp2
      exact bodyPost_ret (v := .agg #[.string tn, .slice to k tc]) (by simp [results, Tryz.results41, go_sem, r0, r1]) rfl ⟨⟨to, tc, rfl, hc9, HSe.out, HC9.out⟩, HBe.out⟩
end Go.Proofs.YtnhbjhdkpbhioaaGreatDoor
/- The law's two templates. -/
namespace Go.Proofs.YtnhbjhdkpbhioaaGreatDoor
open Go.RowKit

def slA : Sl := ⟨baL [97], 2, 0, baL wNil⟩
def slB : Sl := ⟨baL [98], 2, 0, baL wNil⟩
def T2 : List Tp := [⟨baL [112], [slA, slB]⟩, ⟨baL [113], [slA]⟩]

set_option maxHeartbeats 4000000 in
set_option maxRecDepth 8000 in
theorem two_any (w : World) :
    Calls Tryz.prog 10 #[] w fun e w' => (∃ ao cap, e = .returned (.slice ao 2 cap) ∧ IsTps w' ao T2) ∧ Below w.heap.size w w' := by
  go_enter Tryz.func10, Tryz.ntmps10
  go_wp2_with (go_at_call 42; refine (rsym_any _ _).mono ?_; rintro e w1 ⟨rfl, hb⟩)
  obtain ⟨W, HW⟩ : ∃ W, Hid ((((w1.alloc (.cells #[.int .i64 2, .int .i64 0, .string ⟨#[110, 105, 108]⟩] 71)).alloc (.cells #[.string ⟨#[97]⟩, .int .i64 2, .int .i64 0, .string ⟨#[110, 105, 108]⟩, .string ⟨#[98]⟩, .int .i64 2, .int .i64 0, .string ⟨#[110, 105, 108]⟩] 115)).alloc (.cells #[.string ⟨#[97]⟩, .int .i64 2, .int .i64 0, .string ⟨#[110, 105, 108]⟩] 115)).alloc (.cells #[.string ⟨#[112]⟩, .slice (some ⟨w1.heap.size + 1, 0, none⟩) 2 2, .string ⟨#[113]⟩, .slice (some ⟨w1.heap.size + 1 + 1, 0, none⟩) 1 1] 112) = W) := ⟨_, rfl⟩
  have HB : Hid (Below w.heap.size w W) := by rw [← HW.out]; exact next_trans (next_trans (next_trans (next_trans hb (alloc_below _ _)) (alloc_below _ _)) (alloc_below _ _)) (alloc_below _ _)
  have X1 : Hid (Bx W (w1.heap.size + 1) #[.string ⟨#[97]⟩, .int .i64 2, .int .i64 0, .string ⟨#[110, 105, 108]⟩, .string ⟨#[98]⟩, .int .i64 2, .int .i64 0, .string ⟨#[110, 105, 108]⟩]) := by rw [← HW.out]; exact ((Bx.made' rfl (by simp)).alloc _).alloc _
  have X2 : Hid (Bx W (w1.heap.size + 1 + 1) #[.string ⟨#[97]⟩, .int .i64 2, .int .i64 0, .string ⟨#[110, 105, 108]⟩]) := by rw [← HW.out]; exact (Bx.made' rfl (by simp)).alloc _
  have X3 : Hid (Bx W (w1.heap.size + 1 + 1 + 1) #[.string ⟨#[112]⟩, .slice (some ⟨w1.heap.size + 1, 0, none⟩) 2 2, .string ⟨#[113]⟩, .slice (some ⟨w1.heap.size + 1 + 1, 0, none⟩) 1 1]) := Bx.made' HW.out (by simp)
  rw [HW.out]
  go_ret
  refine ⟨⟨_, _, rfl, fun j t hj => ?_⟩, HB.out⟩
  match j, hj with
  | 0, hj =>
    simp [T2] at hj
    subst hj
    refine ⟨_, _, _, _, rfl, X3.out.cell 0, X3.out.cell 1, fun i s hi => ?_⟩
    match i, hi with
    | 0, hi => simp at hi; subst hi; exact ⟨_, _, rfl, X1.out.cell 0, X1.out.cell 1, X1.out.cell 2, X1.out.cell 3⟩
    | 1, hi => simp at hi; subst hi; exact ⟨_, _, rfl, X1.out.cell 4, X1.out.cell 5, X1.out.cell 6, X1.out.cell 7⟩
    | i + 2, hi => simp at hi
  | 1, hj =>
    simp [T2] at hj
    subst hj
    refine ⟨_, _, _, _, rfl, X3.out.cell 2, X3.out.cell 3, fun i s hi => ?_⟩
    match i, hi with
    | 0, hi => simp at hi; subst hi; exact ⟨_, _, rfl, X2.out.cell 0, X2.out.cell 1, X2.out.cell 2, X2.out.cell 3⟩
    | i + 1, hi => simp at hi
  | j + 2, hj => simp [T2] at hj
theorem infoTp : (Tryz.prog.info? 108).map (fun i => (i.zero, i.size, i.bytes)) = some (some (.agg #[.string ⟨#[]⟩, .slice none 0 0]), 2, 40) := by kernel_rfl
theorem infoTp' : ∃ i, Tryz.prog.info? 108 = some i ∧ i.zero = some (.agg #[.string ⟨#[]⟩, .slice none 0 0]) ∧ i.size = 2 ∧ i.bytes = 40 := by
  obtain ⟨i, h, e⟩ := Option.map_eq_some_iff.1 infoTp
  simp only [Prod.mk.injEq] at e
  exact ⟨i, h, e.1, e.2.1, e.2.2⟩
def TpsE (w' : World) (L : List Tp) (N : Nat) (e : Ending) : Prop := ∃ ao cap, e = .returned (.slice ao N cap) ∧ IsTps w' ao L
/-- Templates with their rows' places. -/
structure Tq where
  t : Tp
  ao : Option Addr
  c : Nat
def tqsC (L : List Tq) : List Value := L.flatMap fun q => [.string q.t.n, .slice q.ao q.t.l.length q.c]
theorem tqsC_cons (a : Tq) (r : List Tq) : tqsC (a :: r) = [Value.string a.t.n, .slice a.ao a.t.l.length a.c] ++ tqsC r := by unfold tqsC; rw [List.flatMap_cons]
theorem tqsC_len (L : List Tq) : (tqsC L).length = L.length * 2 := by
  induction L with
  | nil => rfl
  | cons a r ih => rw [tqsC_cons, List.length_append, ih]; simp only [List.length_cons, List.length_nil]; omega
theorem tqsC_snoc (L : List Tq) (q : Tq) : tqsC L ++ [.string q.t.n, .slice q.ao q.t.l.length q.c] = tqsC (L ++ [q]) := by unfold tqsC; rw [List.flatMap_append]; simp
theorem tqs_at : ∀ (L : List Tq) (j r : Nat) (q : Tq), L[j]? = some q → r < 2 → (tqsC L)[j * 2 + r]? = [Value.string q.t.n, .slice q.ao q.t.l.length q.c][r]?
  | [], j, r, q, h, _ => by simp at h
  | x :: l, 0, r, q, h, hr => by
    simp at h; subst h
    rw [Nat.zero_mul, Nat.zero_add]
    rw [tqsC_cons, List.getElem?_append_left (by show r < 2; exact hr)]
  | x :: l, j + 1, r, q, h, hr => by
    rw [List.getElem?_cons_succ] at h
    rw [tqsC_cons, List.getElem?_append_right (by show 2 ≤ _; omega)]
    show (tqsC l)[(j + 1) * 2 + r - 2]? = _
    rw [show (j + 1) * 2 + r - 2 = j * 2 + r by omega]
    exact tqs_at l j r q h hr
/-- Their rows lie in blocks that are not the row's own. -/
structure TqW (w wr : World) (v : Value) (n : Nat) (L : List Tq) : Prop where
  bel : Below w.heap.size w wr
  own : wr.ownsRow w.heap.size 108 2 v n (tqsC L)
  len : L.length = n
  rows : ∀ q ∈ L, IsSls wr q.ao q.t.l ∧ ∀ b o, q.ao = some ⟨b, o, none⟩ → v.ownBlock ≠ some b ∧ b < wr.heap.size
theorem TqW.next {w wr w' : World} {v : Value} {n : Nat} {L : List Tq} (h : TqW w wr v n L) (hb : Below wr.heap.size wr w') : TqW w w' v n L := ⟨next_trans h.bel hb, own_next h.own hb, h.len, fun q hq => ⟨(h.rows q hq).1.next hb, fun b o e => ⟨((h.rows q hq).2 b o e).1, Nat.lt_of_lt_of_le ((h.rows q hq).2 b o e).2 hb.size⟩⟩⟩
theorem TqW.tps {w wr : World} {v : Value} {n : Nat} {L : List Tq} (h : TqW w wr v n L) : ∃ ao cap, v = .slice ao n cap ∧ IsTps wr ao (L.map Tq.t) := by
  rcases h.own.2 with ⟨rfl, h0⟩ | ⟨g, cap, cur, rfl, _, _, hn, _⟩
  · refine ⟨none, 0, by rw [h0], fun j t hj => ?_⟩
    have e : L = [] := List.eq_nil_of_length_eq_zero (by rw [h.len]; exact h0)
    subst e; simp at hj
  · refine ⟨_, cap, rfl, fun j t hj => ?_⟩
    rw [List.getElem?_map, Option.map_eq_some_iff] at hj
    obtain ⟨q, hq, rfl⟩ := hj
    have hjl : j < L.length := (List.getElem?_eq_some_iff.1 hq).1
    have hjn : j < n := by rw [← h.len]; exact hjl
    have hc : ∀ r, r < 2 → wr.cell? ⟨g, j * 2 + r, none⟩ = [Value.string q.t.n, .slice q.ao q.t.l.length q.c][r]? := fun r hr => by
      rw [h.own.cellAt (j * 2 + r) (by omega), tqs_at L j r q hq hr]
    exact ⟨g, 0, q.ao, q.c, rfl, by rw [Nat.zero_add]; exact hc 0 (by omega), by rw [Nat.zero_add]; exact hc 1 (by omega), (h.rows q (List.mem_of_getElem? hq)).1⟩
theorem sls_grown {w w' : World} {v : Value} {ao : Option Addr} {L : List Sl} (h : IsSls w ao L) (hg : w.grownBy w' v.ownBlock) (hne : ∀ b o, ao = some ⟨b, o, none⟩ → v.ownBlock ≠ some b) : IsSls w' ao L := by
  intro j s hj
  obtain ⟨b, o, h0, h1, h2, h3, h4⟩ := h j s hj
  have hb := hg.block b (World.block_lt_of_cell? w _ h1) (fun e => hne b o h0 e.symm)
  exact ⟨b, o, h0, by rw [World.cell?_of_block (a := ⟨b, _, none⟩) hb]; exact h1, by rw [World.cell?_of_block (a := ⟨b, _, none⟩) hb]; exact h2, by rw [World.cell?_of_block (a := ⟨b, _, none⟩) hb]; exact h3, by rw [World.cell?_of_block (a := ⟨b, _, none⟩) hb]; exact h4⟩

set_option maxHeartbeats 8000000 in
set_option maxRecDepth 8000 in
theorem alltp_any (L : List Tp) (N : Nat) (ao : Option Addr) (cap : Nat) (w : World) (hL : L.length = N) (hN : N ≤ 1000) (hT : ∀ t ∈ L, t.l.length ≤ 1000) (h : IsTps w ao L) :
    Calls Tryz.prog 9 #[.slice ao N cap] w fun e w' => TpsE w' L N e ∧ Below w.heap.size w w' := by
  have HL : Hid (L.length = N) := hL
  have HI : Hid (IsTps w ao L) := h
  have HT : Hid (∀ t ∈ L, t.l.length ≤ 1000) := hT
  have H0 : Hid (TqW w w (.slice none 0 0) 0 []) := ⟨Below.refl _ _, World.ownsRow_nil _ _ _ _, rfl, fun q hq => absurd hq (by simp)⟩
  clear hL h hT
  go_enter Tryz.func9, Tryz.ntmps9
  go_wp2
  go_loopw [3, 4] (fun l q wr => ∃ (k : Nat) (G : List Tq) (ro : Option Addr) (rc : Nat), k ≤ N ∧ q = .int .i64 k ∧ l = .slice ro k rc ∧ Hid (TqW w wr (.slice ro k rc) k G) ∧ Hid (G.map Tq.t = L.take k)) (fun _ q _ => N - (intOf q).toNat)
  case atStart => exact ⟨0, [], none, 0, Nat.zero_le _, rfl, rfl, H0, rfl⟩
  case round =>
    obtain ⟨k, G, ro, rc, hk, rfl, rfl, HW, HG⟩ := hrel
    clear H0
    by_cases hlt : k < N
    · have hki : (k : Int) < (N : Int) := by omega
      have hk0 : (0 : Int) ≤ (k : Int) := by omega
      obtain ⟨t, ht⟩ : ∃ t, L[k]? = some t := ⟨_, List.getElem?_eq_getElem (by rw [HL.out]; exact hlt)⟩
      obtain ⟨b, o, to, tc, rfl, c0, c1, hs⟩ := (HI.out.next HW.out.bel) k t ht
      have HLk : Hid (L.take (k + 1) = L.take k ++ [t]) := by rw [Hid, List.take_add_one, ht]; rfl
      have htl := HT.out t (List.mem_of_getElem? ht)
      obtain ⟨tn, tl⟩ := t
      simp only at c0 c1 hs htl
      obtain ⟨M, HM⟩ : ∃ M, Hid (tl.length = M) := ⟨_, rfl⟩
      rw [HM.out] at c1
      have HTo : Hid (Calls Tryz.prog 41 #[.agg #[.string tn, .slice to M tc]] wr fun e w' => (∃ ao' cap', e = .returned (.agg #[.string tn, .slice ao' M cap']) ∧ M ≤ cap' ∧ IsSls w' ao' tl ∧ ∀ b o, ao' = some ⟨b, o, none⟩ → wr.heap.size ≤ b ∧ b < w'.heap.size) ∧ Below wr.heap.size wr w') := by
        have := tto9_any ⟨tn, tl⟩ to tc wr htl hs
        unfold tmV at this
        simp only at this
        rw [HM.out] at this
        exact this
      clear ht hs
      go_wp2_with fail
      refine HTo.out.mono ?_
      rintro e w2 ⟨⟨a2, k2, rfl, _, hs2, ha2⟩, hb2⟩
      have HW2 : Hid (TqW w w2 (.slice ro k rc) k G) := HW.out.next hb2
      have HS2 : Hid (IsSls w2 a2 tl ∧ ∀ b o, a2 = some ⟨b, o, none⟩ → wr.heap.size ≤ b ∧ b < w2.heap.size) := ⟨hs2, ha2⟩
      obtain ⟨i0, hi, hz0, hz1, hz2⟩ := infoTp'
      have HO : Hid (w2.ownsRow w.heap.size 108 2 (.slice ro k rc) k (tqsC G)) := HW2.out.own
      have HOb : Hid (∀ j, (Value.slice ro k rc).ownBlock = some j → w.heap.size ≤ j ∧ j < wr.heap.size) := fun j hj => HW.out.own.lt j hj
      have hs0 : w.heap.size ≤ w2.heap.size := HW2.out.bel.size
      have hb2s := hb2.size
      clear hs2 ha2 hb2 c0 c1 HTo
      go_wp2_with (at_builtin; refine wpList_append_lies _ rfl _ _ 30 rfl w.heap.size 108 i0 (.agg #[.string ⟨#[]⟩, .slice none 0 0]) 2 40 Tryz.underlying30 hi hz0 hz1 hz2 rfl (by decide) _ _ _ rfl (HO.out.alloc _) ⟨w2.heap.size, 0, none⟩ 1 1 [.string tn, .slice a2 M k2] rfl rfl ?e1 ?e2 (by decide) ?e3 ?e4 ?e5 _ rfl ?_)
      case e1 =>
        intro j u hj
        match j, hj with
        | 0, hj => simp at hj; subst hj; simp [Addr.add]
        | 1, hj => simp at hj; subst hj; simp [Addr.add]
      case e2 => intro u hu; simp at hu; rcases hu with rfl | rfl <;> rfl
      case e3 => unfold maxLen; omega
      case e4 => omega
      case e5 => simp; omega
      intro gk gcap w7 ho hg hv7 hlt7
      have hgs : w2.heap.size ≤ w7.heap.size := by have := hg.size; simp at this; omega
      have HW7 : Hid (TqW w w7 (.slice (some ⟨gk, 0, none⟩) (k + 1) gcap) (k + 1) (G ++ [⟨⟨tn, tl⟩, a2, k2⟩])) := by
        have hnew : ∀ b, (Value.slice ro k rc).ownBlock ≠ some b → b < w2.heap.size → (Value.slice (some ⟨gk, 0, none⟩) (k + 1) gcap).ownBlock ≠ some b := fun b h1 h2 e => by
          have e1 : gk = b := Option.some.inj e
          rcases hv7 with hv7 | hv7
          · exact h1 (by rw [hv7, e1])
          · rw [e1] at hv7; first | omega | (rw [World.size_alloc] at hv7; omega)
        refine ⟨?_, ?_, ?_, ?_⟩
        · exact HW2.out.bel.trans (((Below.refl _ w2).alloc hs0 _).grown hg (by simp; omega) (fun k hk => (HOb.out k hk).1))
        · rw [← tqsC_snoc]; show w7.ownsRow _ _ _ _ _ (_ ++ [Value.string tn, .slice a2 tl.length k2]); rw [HM.out]; exact ho
        · rw [List.length_append, HW2.out.len]; rfl
        · intro q hq
          rcases List.mem_append.1 hq with hq | hq
          · obtain ⟨h1, h2⟩ := HW2.out.rows q hq
            exact ⟨sls_grown (h1.next (alloc_below _ _)) hg (fun b o e => (h2 b o e).1), fun b o e => ⟨hnew b (h2 b o e).1 (h2 b o e).2, Nat.lt_of_lt_of_le (h2 b o e).2 hgs⟩⟩
          · simp at hq
            subst hq
            have h9 : ∀ b o, a2 = some ⟨b, o, none⟩ → (Value.slice ro k rc).ownBlock ≠ some b := fun b o e hne => by
              have h3 := (HS2.out.2 b o e).1
              have h4 := (HOb.out b hne).2
              omega
            exact ⟨sls_grown (HS2.out.1.next (alloc_below _ _)) hg h9, fun b o e => ⟨hnew b (h9 b o e) (HS2.out.2 b o e).2, Nat.lt_of_lt_of_le (HS2.out.2 b o e).2 hgs⟩⟩
      clear ho hg hv7 hlt7 hgs HW2 HS2 HO HOb hi hz0 hz1 hz2 HW
      have HG2 : Hid ((G ++ [(⟨⟨tn, tl⟩, a2, k2⟩ : Tq)]).map Tq.t = L.take (k + 1)) := by rw [Hid, HLk.out, List.map_append, HG.out]; rfl
      go_wp2
      go_roundw
      case rel => exact ⟨k + 1, _, _, gcap, by omega, by go_num, rfl, HW7, HG2⟩
      case measure => simp [intOf]; omega
    · have hki : ¬ (k : Int) < (N : Int) := by omega
      obtain rfl : k = N := by omega
      obtain ⟨ro2, rc2, hs2, htp⟩ := HW.out.tps
      cases hs2
      rw [HG.out, List.take_of_length_le (by rw [HL.out]; exact Nat.le_refl _)] at htp
      have HTP : Hid (IsTps wr ro L) := htp
      have HBe : Hid (Below w.heap.size w wr) := HW.out.bel
      clear htp HW HG
      go_wp2
      go_ret
      exact ⟨⟨ro, rc, rfl, HTP.out⟩, HBe.out⟩
end Go.Proofs.YtnhbjhdkpbhioaaGreatDoor
