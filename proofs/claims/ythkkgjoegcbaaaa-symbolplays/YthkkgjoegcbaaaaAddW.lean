/- The walk of (*Table).add. -/
import Derived.Test.YthkkgjoegcbaaaaAdd
namespace Go.Proofs.Ythkkgjoegcbaaaa
open Go.RowKit Go.Maps

/-- What a call that adds to the table leaves. -/
def Left (w w' : World) (b : Nat) (v m : Value) (L' : List ByteArray) : Prop :=
  ∃ v' m', Tab w' b v' m' L' ∧ Touch w w' (Foot b v m) ∧ ∀ k, Foot b v' m' k → Foot b v m k ∨ w.heap.size ≤ k

theorem left_add {w w1 w2 w4 : World} {b bm g cap : Nat} {v m : Value} {L L' : List ByteArray} {o : Obj} {n : Nat} (TW : Touch w w1 (Foot b v m)) (hF : ∀ k, Foot b v (.map (some bm)) k → Foot b v m k ∨ w.heap.size ≤ k) (HW : w.heap.size ≤ w1.heap.size)
    (T1 : Tab w1 b v (.map (some bm)) L) (hg2 : (w1.alloc o).grownBy w2 v.ownBlock) (hgb : v.ownBlock = some g ∨ (w1.alloc o).heap.size ≤ g) (TW4 : Touch w2 w4 (Foot b v (.map (some bm)))) (T4 : Tab w4 b (.slice (some ⟨g, 0, none⟩) n cap) (.map (some bm)) L') :
    Left w w4 b v m L' := by
  have hal : Touch w1 (w1.alloc o) (Foot b v m) := Touch.ofGrown (World.grownBy_alloc w1 o none) (fun k e => by cases e)
  have t2 : Touch w (w1.alloc o) (Foot b v m) := TW.trans hal (fun j hj => .inl hj)
  have t3 : Touch w w2 (Foot b v m) := t2.trans (Touch.ofGrown (F := Foot b v m) hg2 (fun k e => .inr (.inl e))) (fun j hj => .inl hj)
  have _h := T1.lt
  refine ⟨_, _, T4, t3.trans TW4 hF, ?_⟩
  rintro k (h | h | h)
  · exact .inl (.inl h)
  · have hk : k = g := by simp [Value.ownBlock] at h; exact h.symm
    rcases hgb with e | e
    · exact .inl (.inr (.inl (by rw [hk]; exact e)))
    · exact .inr (by simp at e; omega)
  · exact hF k (.inr (.inr h))
theorem eq_map_some (bm : Nat) (w : World) : (binOp .eql 38 (.map (some bm)) (.map none)).run Try.prog w = .ok (.bool false) w := by kernel_rfl
theorem eq_map_none (w : World) : (binOp .eql 38 (.map none) (.map none)).run Try.prog w = .ok (.bool true) w := by kernel_rfl

set_option maxHeartbeats 2000000 in
set_option maxRecDepth 100000 in
theorem add_any (w : World) (b : Nat) (v m : Value) (L : List ByteArray) (T : Tab w b v m L) (s : ByteArray) (hs : s.size ≤ 40) (hp : pos L s = 0) (hl : L.length < 4096) :
    Calls Try.prog 14 #[.pointer (some ⟨b, 0, none⟩), .string s] w fun e w' => e = .returned (.int .i64 ((L.length + 1 : Nat) : Int)) ∧ Left w w' b v m (L ++ [s]) := by
  have hkey : keyOf Try.prog 9 (.string s) = some (keyS s) := WideMaps.keyOf_string_mk Try.underlying9 (by unfold maxLen; omega)
  have HP : Hid (pos L s = 0) := hp
  have hwf : (Lit.int .i64 ((L.length + 1 : Nat) : Int)).wf = true := WalkArith.wf_i64 (by omega)
  have f0 := T.f0
  have f1 := T.f1
  have c0 := T.c0
  have c1 := T.c1
  have hmm := @run_makeMap Try.prog
  have q1 := eq_map_some
  have q2 := eq_map_none
  clear hp
  rcases T.map with ⟨hL, rfl⟩ | ⟨bm, rfl, hb, hM⟩
  · have hlt := T.lt
    have a1 : (w.alloc (.map #[] 0)).cell? ⟨b, 1, none⟩ = some (.map none) := by rw [World.cell?_alloc_past _ _ _ hlt]; exact T.c1
    have a2 : (w.alloc (.map #[] 0)).frozen? ⟨b, 1, none⟩ = false := by rw [World.frozen?_alloc_past _ _ _ hlt]; exact T.f1
    have HT : Hid (Tab ((w.alloc (.map #[] 0)).setCell ⟨b, 1, none⟩ (.map (some w.heap.size))) b v (.map (some w.heap.size)) L) := by
      have T' := T
      rw [hL] at T'
      rw [hL]
      exact T'.made
    clear hL
    go_enter Try.func14, Try.ntmps14
    go_wp2_with fail
    refine (clone_any s _ hs).mono ?_
    rintro e w1 ⟨rfl, hb1⟩
    obtain ⟨bm, hbm⟩ : ∃ bm, w.heap.size = bm := ⟨_, rfl⟩
    have T0 := HT.out
    have TM := Touch.made w b v (.map none) (.map (some w.heap.size))
    rw [World.setCell_alloc_past _ _ _ _ hlt] at T0 TM
    have T1 : Tab w1 b v (.map (some bm)) L := by
      rw [← hbm]
      exact T0.kept fun k hk => hb1.block k (T0.foot hk).2
    have hb : b < bm := by omega
    have hM1 : MapIs w1 bm L := by
      rcases T1.map with ⟨_, e⟩ | ⟨bm', e, _, h⟩
      · cases e
      · injection e with e
        injection e with e
        rw [e]
        exact h
    have TW : Touch w w1 (Foot b v (.map none)) := TM.trans (Touch.ofBelow hb1 (fun _ => False)) (fun _ hj => False.elim hj)
    have hF : ∀ k, Foot b v (.map (some bm)) k → Foot b v (.map none) k ∨ w.heap.size ≤ k := by
      rintro k (h | h | h)
      · exact .inl (.inl h)
      · exact .inl (.inr (.inl h))
      · injection h with h
        injection h with h
        exact .inr (by omega)
    have HW : w.heap.size ≤ w1.heap.size := TW.size
    have HB : Hid (w.heap.size = bm) := hbm
    clear c0 c1 f0 f1 hb1 T a1 a2 HT T0 TM hbm
    have c0 := T1.c0
    have c1 := T1.c1
    have f0 := T1.f0
    have f1 := T1.f1
    have hlt := T1.lt
    go_wp2_with (first
      | (at_builtin; refine wpList_append_str rfl _ _ rfl (b + 1) v L.length (L.map Value.string) rfl (T1.row.alloc _) ⟨w1.heap.size, 0, none⟩ 1 s rfl (by simp) (by omega) (by simp; omega) ?_; intro g cap w2 hr2 hg2 hgb; obtain ⟨k0, k1, e0, e1, hM2⟩ := T1.appended hM1 hg2; clear c0 c1 f0 f1)
      | go_in)
    have hM2' := hM2
    obtain ⟨D, hown2, hD⟩ := hM2
    have hown3 := (hown2.setCell (a := ⟨b, 0, none⟩) (Nat.ne_of_gt hb) (.slice (some ⟨g, 0, none⟩) (L.length + 1) cap)).drew
    obtain ⟨w4, hrun, hown4, hturn⟩ := hown3.store law9 Try.underlying38 (by unfold maxLen; omega) hkey (plainElem_int Try.underlying3 hwf)
    have hM4 := mapIs_put hD hown2.isMap HP.out hown4
    obtain ⟨T4, TW4⟩ := Tab.added hb k0 k1 e0 e1 hr2 hM2' hturn hM4 T1.one HP.out hl
    clear hown4 hown3 hM4 hD hM2' hown2
    have k4 := T4.c0
    rw [show ((L.length + 1 : Nat) : Int) = (L.length : Int) + 1 from rfl] at hrun
    go_region
    go_wp2
    go_ret
    exact ⟨rfl, left_add TW hF HW T1 hg2 hgb TW4 T4⟩
  · go_enter Try.func14, Try.ntmps14
    go_wp2_with fail
    refine (clone_any s _ hs).mono ?_
    rintro e w1 ⟨rfl, hb1⟩
    have T1 : Tab w1 b v (.map (some bm)) L := T.kept fun k hk => hb1.block k (T.foot hk).2
    have hM1 : MapIs w1 bm L := hM.same (hb1.block bm hM.lt)
    have TW : Touch w w1 (Foot b v (.map (some bm))) := Touch.ofBelow hb1 _
    have hF : ∀ k, Foot b v (.map (some bm)) k → Foot b v (.map (some bm)) k ∨ w.heap.size ≤ k := fun k hk => .inl hk
    have HW : w.heap.size ≤ w1.heap.size := TW.size
    clear c0 c1 f0 f1 hb1 hM T
    have c0 := T1.c0
    have c1 := T1.c1
    have f0 := T1.f0
    have f1 := T1.f1
    have hlt := T1.lt
    go_wp2_with (first
      | (at_builtin; refine wpList_append_str rfl _ _ rfl (b + 1) v L.length (L.map Value.string) rfl (T1.row.alloc _) ⟨w1.heap.size, 0, none⟩ 1 s rfl (by simp) (by omega) (by simp; omega) ?_; intro g cap w2 hr2 hg2 hgb; obtain ⟨k0, k1, e0, e1, hM2⟩ := T1.appended hM1 hg2; clear c0 c1 f0 f1)
      | go_in)
    have hM2' := hM2
    obtain ⟨D, hown2, hD⟩ := hM2
    have hown3 := (hown2.setCell (a := ⟨b, 0, none⟩) (Nat.ne_of_gt hb) (.slice (some ⟨g, 0, none⟩) (L.length + 1) cap)).drew
    obtain ⟨w4, hrun, hown4, hturn⟩ := hown3.store law9 Try.underlying38 (by unfold maxLen; omega) hkey (plainElem_int Try.underlying3 hwf)
    have hM4 := mapIs_put hD hown2.isMap HP.out hown4
    obtain ⟨T4, TW4⟩ := Tab.added hb k0 k1 e0 e1 hr2 hM2' hturn hM4 T1.one HP.out hl
    clear hown4 hown3 hM4 hD hM2' hown2
    have k4 := T4.c0
    rw [show ((L.length + 1 : Nat) : Int) = (L.length : Int) + 1 from rfl] at hrun
    go_region
    go_wp2
    go_ret
    exact ⟨rfl, left_add TW hF HW T1 hg2 hgb TW4 T4⟩

end Go.Proofs.Ythkkgjoegcbaaaa
