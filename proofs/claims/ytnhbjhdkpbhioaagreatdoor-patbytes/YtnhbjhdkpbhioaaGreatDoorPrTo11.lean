import Derived.Test.YtnhbjhdkpbhioaaGreatDoorH1
import Derived.Test.YtnhbjhdkpbhioaaGreatDoorG27
import Derived.Deep.RegionHeld3
namespace Go.Proofs.YtnhbjhdkpbhioaaGreatDoor
open Go.RowKit
structure OtW (T : Nat) (w wr : World) (tn : ByteArray) (ao : Option Addr) (M cap : Nat) (v : Value) (xs : List Ts) : Prop where
  bel : Below w.heap.size w wr
  x : Bx wr w.heap.size #[.string tn, .slice ao M cap]
  r : Bx wr (w.heap.size + 1) #[.string ⟨#[]⟩, .slice none 0 0]
  t : Bx wr (w.heap.size + 2) #[.string tn, v]
  own : wr.ownsRow (w.heap.size + 3) T 6 v xs.length (tsC xs)
set_option maxHeartbeats 16000000 in
set_option maxRecDepth 8000 in
theorem pto11_any (P : Ptn) (ao : Option Addr) (cap : Nat) (w : World) (hN : P.l.length ≤ 1000) (h : IsTss w ao P.l) :
    Calls Tryz.prog 27 #[ptV P ao cap] w fun e w' => (∃ ao' cap', e = .returned (ptV P ao' cap') ∧ IsTss w' ao' P.l) ∧ Below w.heap.size w w' := by
  obtain ⟨tn, l⟩ := P
  unfold ptV
  simp only at hN h ⊢
  obtain ⟨N, HN⟩ : ∃ N, Hid (l.length = N) := ⟨_, rfl⟩
  rw [HN.out]
  rw [HN.out] at hN
  have HI : Hid (IsTss w ao l) := h
  obtain ⟨W, HWe⟩ : ∃ W, Hid (((w.alloc (.cells #[.string tn, .slice ao N cap] 49)).alloc (.cells #[.string ⟨#[]⟩, .slice none 0 0] 36)).alloc (.cells #[.string tn, .slice none 0 0] 36) = W) := ⟨_, rfl⟩
  have HW : Hid (OtW 88 w W tn ao N cap (.slice none 0 0) (l.take 0)) := by
    refine ⟨?_, ?_, ?_, ?_, ?_⟩
    · rw [← HWe.out]; exact next_trans (next_trans (alloc_below _ _) (alloc_below _ _)) (alloc_below _ _)
    · rw [← HWe.out]; exact ((Bx.made _ _ _).alloc _).alloc _
    · rw [← HWe.out]; exact (Bx.made' rfl (by simp)).alloc _
    · exact Bx.made' HWe.out (by simp)
    · exact World.ownsRow_nil _ _ _ _
  clear h
  go_enter Tryz.func27, Tryz.ntmps27
  go_wp2
  rw [HWe.out]
  clear HWe
  go_loopw [4, 5] (fun q z wr => ∃ (k : Nat) (v : Value), k ≤ N ∧ q = .int .i64 k ∧ Hid (OtW 88 w wr tn ao N cap v (l.take k))) (fun q _ _ => N - (intOf q).toNat)
  case atStart => exact ⟨0, _, Nat.zero_le _, rfl, HW⟩
  case round =>
    obtain ⟨k, v, hk, rfl, HT⟩ := hrel
    clear HW
    have hlr : w.heap.size + 2 < wr.heap.size := HT.out.t.lt
    have x1 : wr.cell? ⟨w.heap.size, 1, none⟩ = some (.slice ao N cap) := HT.out.x.cell 1
    have hlk : (l.take k).length = k := by rw [List.length_take, HN.out]; omega
    obtain ⟨to, tc, hv, hsl2, hcap2⟩ := own_tss hlk (by have := HT.out.own; rw [hlk] at this; exact this)
    subst hv
    by_cases hlt : k < N
    · have hki : (k : Int) < (N : Int) := by omega
      have hk0 : (0 : Int) ≤ (k : Int) := by omega
      obtain ⟨s, hs⟩ : ∃ s, l[k]? = some s := ⟨_, List.getElem?_eq_getElem (by rw [HN.out]; exact hlt)⟩
      have HKs : Hid (tsC (l.take k) ++ tC s = tsC (l.take (k + 1))) := by
        obtain ⟨hk', e⟩ := List.getElem?_eq_some_iff.1 hs
        rw [Hid, tsC_snoc, List.take_succ_eq_append_getElem hk', e]
      obtain ⟨b, o, rfl, c0, c1, c2, c3, c4, c5⟩ := (HI.out.next HT.out.bel) k s hs
      obtain ⟨sp, sn, sv, sk, si, ss⟩ := s
      simp only at c0 c1 c2 c3 c4 c5
      have HO : Hid (wr.ownsRow (w.heap.size + 3) 88 6 (.slice to k tc) k (tsC (l.take k))) := by have := HT.out.own; rw [hlk] at this; exact this
      have HOb : Hid (∀ j, (Value.slice to k tc).ownBlock = some j → w.heap.size + 3 ≤ j ∧ j < wr.heap.size) := fun j hj => HO.out.lt j hj
      have hlb : b < wr.heap.size := World.block_lt_of_cell? wr _ c0
      have t1 : wr.cell? ⟨w.heap.size + 2, 1, none⟩ = some (.slice to k tc) := HT.out.t.cell 1
      obtain ⟨i0, hi, hz0, hz1, hz2⟩ := infoTs'
      clear hs hsl2
      go_wp2_with (at_builtin; refine wpList_append_lies _ rfl _ _ 34 rfl (w.heap.size + 3) 88 i0 zeroTs 6 64 Tryz.underlying34 hi hz0 hz1 hz2 rfl (by decide) _ _ _ rfl ((HO.out.alloc _).alloc _) ⟨wr.heap.size + 1, 0, none⟩ 1 1 [.int .i64 (sp : Int), .bool sn, .string sv, .int .i64 sk, .int .i64 si, .string ss] rfl rfl ?e1 ?e2 (by decide) ?e3 ?e4 ?e5 _ rfl ?_)
      case e1 =>
        intro j u hj
        match j, hj with
        | 0, hj => simp at hj; subst hj; simp [Addr.add]
        | 1, hj => simp at hj; subst hj; simp [Addr.add]
        | 2, hj => simp at hj; subst hj; simp [Addr.add]
        | 3, hj => simp at hj; subst hj; simp [Addr.add]
        | 4, hj => simp at hj; subst hj; simp [Addr.add]
        | 5, hj => simp at hj; subst hj; simp [Addr.add]
      case e2 => intro u hu; simp at hu; rcases hu with rfl | rfl | rfl | rfl | rfl | rfl <;> rfl
      case e3 => unfold maxLen; omega
      case e4 => omega
      case e5 => simp; omega
      intro gk gcap w7 ho hg hv7 hlt7
      have hgb : ∀ j, j < w.heap.size + 3 → w7.heap[j]? = wr.heap[j]? := fun j hj => by
        rw [hg.block j (by simp; omega) (fun e => by have := (HOb.out j e.symm).1; omega), Below.heap_alloc _ _ _ (by simp; omega), Below.heap_alloc _ _ _ (by omega)]
      have hO3 : w7.ownsRow (w.heap.size + 3) 88 6 (.slice (some ⟨gk, 0, none⟩) (k + 1) gcap) (k + 1) (tsC (l.take (k + 1))) := by rw [← HKs.out]; exact ho
      have hB3 : Below w.heap.size w w7 := by
        have hs := HT.out.bel.size
        refine HT.out.bel.trans ((((Below.refl _ wr).alloc hs _).alloc (by simp; omega) _).grown hg (by simp; omega) (fun j hj => ?_))
        have := (HOb.out j hj).1
        omega
      have t7 : w7.cell? ⟨w.heap.size + 2, 1, none⟩ = some (.slice to k tc) := (HT.out.t.keep (hgb _ (by omega))).cell 1
      have tf := (HT.out.t.keep (hgb _ (by omega))).froz
      have HN3 : Hid (OtW 88 w (w7.setCell ⟨w.heap.size + 2, 1, none⟩ (.slice (some ⟨gk, 0, none⟩) (k + 1) gcap)) tn (some ⟨b, o, none⟩) N cap (.slice (some ⟨gk, 0, none⟩) (k + 1) gcap) (l.take (k + 1))) := by
        have hlk2 : (l.take (k + 1)).length = k + 1 := by rw [List.length_take, HN.out]; omega
        refine ⟨set_bel hB3 (by omega), (HT.out.x.keep (hgb _ (by omega))).off (by omega) _ _, (HT.out.r.keep (hgb _ (by omega))).off (by omega) _ _, (HT.out.t.keep (hgb _ (by omega))).set 1 _, ?_⟩
        rw [hlk2]
        exact ownsRow_setCell_below hO3 (by show w.heap.size + 2 < w.heap.size + 3; omega) _
      clear ho hg hv7 hlt7 hgb hO3 hB3 HT HO HOb x1 t1 c0 c1 c2 c3 c4 c5 HKs hi hz0 hz1 hz2
      go_wp2
      go_roundw
      case rel => exact ⟨k + 1, _, by omega, by go_num, HN3⟩
      case measure => simp [intOf]; omega
    · have hki : ¬ (k : Int) < (N : Int) := by omega
      obtain rfl : k = N := by omega
      rw [List.take_of_length_le (by rw [HN.out]; exact Nat.le_refl _)] at hsl2
      have r0 : wr.cell? ⟨w.heap.size + 1, 0, none⟩ = some (.string ⟨#[]⟩) := HT.out.r.cell 0
      have r1 : wr.cell? ⟨w.heap.size + 1, 1, none⟩ = some (.slice none 0 0) := HT.out.r.cell 1
      have rf := HT.out.r.froz
      have t0 : wr.cell? ⟨w.heap.size + 2, 0, none⟩ = some (.string tn) := HT.out.t.cell 0
      have t1 : wr.cell? ⟨w.heap.size + 2, 1, none⟩ = some (.slice to k tc) := HT.out.t.cell 1
      have hne : ∀ b o, to = some ⟨b, o, none⟩ → b ≠ w.heap.size + 1 := fun b o e h => by
        subst e
        have := (HT.out.own.lt b rfl).1
        omega
      have HSe : Hid (IsTss ((wr.setCell ⟨w.heap.size + 1, 0, none⟩ (.string tn)).setCell ⟨w.heap.size + 1, 1, none⟩ (.slice to k tc)) to l) := (hsl2.set hne).set hne
      have HBe : Hid (Below w.heap.size w ((wr.setCell ⟨w.heap.size + 1, 0, none⟩ (.string tn)).setCell ⟨w.heap.size + 1, 1, none⟩ (.slice to k tc))) := set_bel (set_bel HT.out.bel (by omega)) (by omega)
      clear hsl2 HT hne hcap2
      go_wp2
      exact bodyPost_ret (v := .agg #[.string tn, .slice to k tc]) (by simp [results, Tryz.results27, go_sem, r0, r1]) rfl ⟨⟨to, ⟨tc, rfl⟩, HSe.out⟩, HBe.out⟩
set_option maxHeartbeats 16000000 in
set_option maxRecDepth 8000 in
theorem pof11_any (P : Ptn) (ao : Option Addr) (cap : Nat) (w : World) (hN : P.l.length ≤ 1000) (h : IsTss w ao P.l) :
    Calls Tryz.prog 16 #[ptV P ao cap] w fun e w' => (∃ ao' cap', e = .returned (ptV P ao' cap') ∧ IsTss w' ao' P.l) ∧ Below w.heap.size w w' := by
  obtain ⟨tn, l⟩ := P
  unfold ptV
  simp only at hN h ⊢
  obtain ⟨N, HN⟩ : ∃ N, Hid (l.length = N) := ⟨_, rfl⟩
  rw [HN.out]
  rw [HN.out] at hN
  have HI : Hid (IsTss w ao l) := h
  obtain ⟨W, HWe⟩ : ∃ W, Hid (((w.alloc (.cells #[.string tn, .slice ao N cap] 36)).alloc (.cells #[.string ⟨#[]⟩, .slice none 0 0] 49)).alloc (.cells #[.string tn, .slice none 0 0] 49) = W) := ⟨_, rfl⟩
  have HW : Hid (OtW 125 w W tn ao N cap (.slice none 0 0) (l.take 0)) := by
    refine ⟨?_, ?_, ?_, ?_, ?_⟩
    · rw [← HWe.out]; exact next_trans (next_trans (alloc_below _ _) (alloc_below _ _)) (alloc_below _ _)
    · rw [← HWe.out]; exact ((Bx.made _ _ _).alloc _).alloc _
    · rw [← HWe.out]; exact (Bx.made' rfl (by simp)).alloc _
    · exact Bx.made' HWe.out (by simp)
    · exact World.ownsRow_nil _ _ _ _
  clear h
  go_enter Tryz.func16, Tryz.ntmps16
  go_wp2
  rw [HWe.out]
  clear HWe
  go_loopw [4, 5] (fun q z wr => ∃ (k : Nat) (v : Value), k ≤ N ∧ q = .int .i64 k ∧ Hid (OtW 125 w wr tn ao N cap v (l.take k))) (fun q _ _ => N - (intOf q).toNat)
  case atStart => exact ⟨0, _, Nat.zero_le _, rfl, HW⟩
  case round =>
    obtain ⟨k, v, hk, rfl, HT⟩ := hrel
    clear HW
    have hlr : w.heap.size + 2 < wr.heap.size := HT.out.t.lt
    have x1 : wr.cell? ⟨w.heap.size, 1, none⟩ = some (.slice ao N cap) := HT.out.x.cell 1
    have hlk : (l.take k).length = k := by rw [List.length_take, HN.out]; omega
    obtain ⟨to, tc, hv, hsl2, hcap2⟩ := own_tss hlk (by have := HT.out.own; rw [hlk] at this; exact this)
    subst hv
    by_cases hlt : k < N
    · have hki : (k : Int) < (N : Int) := by omega
      have hk0 : (0 : Int) ≤ (k : Int) := by omega
      obtain ⟨s, hs⟩ : ∃ s, l[k]? = some s := ⟨_, List.getElem?_eq_getElem (by rw [HN.out]; exact hlt)⟩
      have HKs : Hid (tsC (l.take k) ++ tC s = tsC (l.take (k + 1))) := by
        obtain ⟨hk', e⟩ := List.getElem?_eq_some_iff.1 hs
        rw [Hid, tsC_snoc, List.take_succ_eq_append_getElem hk', e]
      obtain ⟨b, o, rfl, c0, c1, c2, c3, c4, c5⟩ := (HI.out.next HT.out.bel) k s hs
      obtain ⟨sp, sn, sv, sk, si, ss⟩ := s
      simp only at c0 c1 c2 c3 c4 c5
      have HO : Hid (wr.ownsRow (w.heap.size + 3) 125 6 (.slice to k tc) k (tsC (l.take k))) := by have := HT.out.own; rw [hlk] at this; exact this
      have HOb : Hid (∀ j, (Value.slice to k tc).ownBlock = some j → w.heap.size + 3 ≤ j ∧ j < wr.heap.size) := fun j hj => HO.out.lt j hj
      have hlb : b < wr.heap.size := World.block_lt_of_cell? wr _ c0
      have t1 : wr.cell? ⟨w.heap.size + 2, 1, none⟩ = some (.slice to k tc) := HT.out.t.cell 1
      obtain ⟨i0, hi, hz0, hz1, hz2⟩ := infoRTs'
      clear hs hsl2
      go_wp2_with (at_builtin; refine wpList_append_lies _ rfl _ _ 47 rfl (w.heap.size + 3) 125 i0 zeroTs 6 64 Tryz.underlying47 hi hz0 hz1 hz2 rfl (by decide) _ _ _ rfl ((HO.out.alloc _).alloc _) ⟨wr.heap.size + 1, 0, none⟩ 1 1 [.int .i64 (sp : Int), .bool sn, .string sv, .int .i64 sk, .int .i64 si, .string ss] rfl rfl ?e1 ?e2 (by decide) ?e3 ?e4 ?e5 _ rfl ?_)
      case e1 =>
        intro j u hj
        match j, hj with
        | 0, hj => simp at hj; subst hj; simp [Addr.add]
        | 1, hj => simp at hj; subst hj; simp [Addr.add]
        | 2, hj => simp at hj; subst hj; simp [Addr.add]
        | 3, hj => simp at hj; subst hj; simp [Addr.add]
        | 4, hj => simp at hj; subst hj; simp [Addr.add]
        | 5, hj => simp at hj; subst hj; simp [Addr.add]
      case e2 => intro u hu; simp at hu; rcases hu with rfl | rfl | rfl | rfl | rfl | rfl <;> rfl
      case e3 => unfold maxLen; omega
      case e4 => omega
      case e5 => simp; omega
      intro gk gcap w7 ho hg hv7 hlt7
      have hgb : ∀ j, j < w.heap.size + 3 → w7.heap[j]? = wr.heap[j]? := fun j hj => by
        rw [hg.block j (by simp; omega) (fun e => by have := (HOb.out j e.symm).1; omega), Below.heap_alloc _ _ _ (by simp; omega), Below.heap_alloc _ _ _ (by omega)]
      have hO3 : w7.ownsRow (w.heap.size + 3) 125 6 (.slice (some ⟨gk, 0, none⟩) (k + 1) gcap) (k + 1) (tsC (l.take (k + 1))) := by rw [← HKs.out]; exact ho
      have hB3 : Below w.heap.size w w7 := by
        have hs := HT.out.bel.size
        refine HT.out.bel.trans ((((Below.refl _ wr).alloc hs _).alloc (by simp; omega) _).grown hg (by simp; omega) (fun j hj => ?_))
        have := (HOb.out j hj).1
        omega
      have t7 : w7.cell? ⟨w.heap.size + 2, 1, none⟩ = some (.slice to k tc) := (HT.out.t.keep (hgb _ (by omega))).cell 1
      have tf := (HT.out.t.keep (hgb _ (by omega))).froz
      have HN3 : Hid (OtW 125 w (w7.setCell ⟨w.heap.size + 2, 1, none⟩ (.slice (some ⟨gk, 0, none⟩) (k + 1) gcap)) tn (some ⟨b, o, none⟩) N cap (.slice (some ⟨gk, 0, none⟩) (k + 1) gcap) (l.take (k + 1))) := by
        have hlk2 : (l.take (k + 1)).length = k + 1 := by rw [List.length_take, HN.out]; omega
        refine ⟨set_bel hB3 (by omega), (HT.out.x.keep (hgb _ (by omega))).off (by omega) _ _, (HT.out.r.keep (hgb _ (by omega))).off (by omega) _ _, (HT.out.t.keep (hgb _ (by omega))).set 1 _, ?_⟩
        rw [hlk2]
        exact ownsRow_setCell_below hO3 (by show w.heap.size + 2 < w.heap.size + 3; omega) _
      clear ho hg hv7 hlt7 hgb hO3 hB3 HT HO HOb x1 t1 c0 c1 c2 c3 c4 c5 HKs hi hz0 hz1 hz2
      go_wp2
      go_roundw
      case rel => exact ⟨k + 1, _, by omega, by go_num, HN3⟩
      case measure => simp [intOf]; omega
    · have hki : ¬ (k : Int) < (N : Int) := by omega
      obtain rfl : k = N := by omega
      rw [List.take_of_length_le (by rw [HN.out]; exact Nat.le_refl _)] at hsl2
      have r0 : wr.cell? ⟨w.heap.size + 1, 0, none⟩ = some (.string ⟨#[]⟩) := HT.out.r.cell 0
      have r1 : wr.cell? ⟨w.heap.size + 1, 1, none⟩ = some (.slice none 0 0) := HT.out.r.cell 1
      have rf := HT.out.r.froz
      have t0 : wr.cell? ⟨w.heap.size + 2, 0, none⟩ = some (.string tn) := HT.out.t.cell 0
      have t1 : wr.cell? ⟨w.heap.size + 2, 1, none⟩ = some (.slice to k tc) := HT.out.t.cell 1
      have hne : ∀ b o, to = some ⟨b, o, none⟩ → b ≠ w.heap.size + 1 := fun b o e h => by
        subst e
        have := (HT.out.own.lt b rfl).1
        omega
      have HSe : Hid (IsTss ((wr.setCell ⟨w.heap.size + 1, 0, none⟩ (.string tn)).setCell ⟨w.heap.size + 1, 1, none⟩ (.slice to k tc)) to l) := (hsl2.set hne).set hne
      have HBe : Hid (Below w.heap.size w ((wr.setCell ⟨w.heap.size + 1, 0, none⟩ (.string tn)).setCell ⟨w.heap.size + 1, 1, none⟩ (.slice to k tc))) := set_bel (set_bel HT.out.bel (by omega)) (by omega)
      clear hsl2 HT hne hcap2
      go_wp2
      exact bodyPost_ret (v := .agg #[.string tn, .slice to k tc]) (by simp [results, Tryz.results16, go_sem, r0, r1]) rfl ⟨⟨to, ⟨tc, rfl⟩, HSe.out⟩, HBe.out⟩
end Go.Proofs.YtnhbjhdkpbhioaaGreatDoor
