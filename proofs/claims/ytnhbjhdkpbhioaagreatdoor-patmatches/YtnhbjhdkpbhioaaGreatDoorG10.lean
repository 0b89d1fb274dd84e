import Derived.Test.YtnhbjhdkpbhioaaGreatDoorG9
namespace Go.Proofs.YtnhbjhdkpbhioaaGreatDoor
open Go.RowKit
def zeroNd : Value := .agg #[.int .i64 (0), .int .i64 (0), .int .i64 (0), .string (⟨#[]⟩), .slice none 0 0]
def RdRes (R : Nat) (w w' : World) (e : Ending) : NR → Prop
  | .error (a, f) => ∃ B, w.heap.size ≤ B ∧ e = .returned (.tuple #[zeroNd, .iface 133 (.pointer (some ⟨B, 0, none⟩))]) ∧ FaultAt w' B a f
  | .ok (x, n, r) => (∃ c : Nc, e = .returned (.tuple #[nodeV c, .nilIface]) ∧ NcIs w' (geB w.heap.size) c x) ∧ RdAt w' R r n
def NodeC (f : Nat) : Prop := ∀ (R d n : Nat) (l : List Tk) (w : World), l ≠ [] → l.length ≤ f → n ≤ 4096 → d ≤ 32 → RdAt w R l n →
  Calls Tryz.prog 76 #[.pointer (some ⟨R, 0, none⟩), .int .i64 (d : Int)] w fun e w' => RdRes R w w' e (rdN f d n l) ∧ Tch R w w'
def ListC (f : Nat) : Prop := ∀ (R d a n : Nat) (l : List Tk) (w : World), l.length + 1 ≤ f → n ≤ 4096 → d ≤ 32 → RdAt w R l n →
  Calls Tryz.prog 108 #[.pointer (some ⟨R, 0, none⟩), .int .i64 (a : Int), .int .i64 (d : Int)] w fun e w' => RdRes R w w' e (if d = 32 then .error (a, 4) else rdL f d a n l []) ∧ Tch R w w'
def NotC (f : Nat) : Prop := ∀ (R d n : Nat) (t : Tk) (l : List Tk) (w : World), l.length ≤ f → n ≤ 4096 → d ≤ 32 → RdAt w R l n →
  Calls Tryz.prog 109 #[.pointer (some ⟨R, 0, none⟩), .int .i64 (t.a : Int), .int .i64 (d : Int)] w fun e w' => RdRes R w w' e (notR t n l) ∧ Tch R w w'
theorem Tch.below_of {R : Nat} {w w1 w2 : World} (h : Tch R w w1) (hb : Below w1.heap.size w1 w2) : Tch R w w2 := h.trans (.of_below hb)
theorem Tch.set' {R b j : Nat} {w w1 : World} {v : Value} (h : Tch R w w1) (hb : w.heap.size ≤ b) : Tch R w (w1.setCell ⟨b, j, none⟩ v) :=
  ⟨h.os, h.tape, h.output, Nat.le_trans h.size (by simp [World.setCell]), fun k hk hn => (Below.heap_setCell w1 _ _ k (by show k ≠ b; omega)).trans (h.block k hk hn)⟩
theorem FaultAt.set {w : World} {B b j : Nat} {a e : Int} {v : Value} (h : FaultAt w B a e) (hb : B ≠ b) : FaultAt (w.setCell ⟨b, j, none⟩ v) B a e := by
  unfold FaultAt at h ⊢
  rw [Below.heap_setCell w _ _ B (by show B ≠ b; exact hb)]; exact h
def Box5 (w : World) (b : Nat) (v0 v1 v2 v3 v4 : Value) : Prop := ∃ T, w.heap[b]? = some (.cells #[v0, v1, v2, v3, v4] T (0, 0))
theorem Box5.tch {R b : Nat} {w w' : World} {v0 v1 v2 v3 v4 : Value} (h : Box5 w b v0 v1 v2 v3 v4) (ht : Tch R w w') (hb : b ≠ R) : Box5 w' b v0 v1 v2 v3 v4 := by
  obtain ⟨T, h⟩ := h
  have hl : b < w.heap.size := by
    rcases Nat.lt_or_ge b w.heap.size with h1 | h1
    · exact h1
    · rw [Array.getElem?_eq_none h1] at h; exact absurd h (by simp)
  exact ⟨T, by rw [ht.block b hl hb]; exact h⟩
theorem Box5.cells {b : Nat} {w : World} {v0 v1 v2 v3 v4 : Value} (h : Box5 w b v0 v1 v2 v3 v4) : w.cell? ⟨b, 0, none⟩ = some v0 ∧ w.cell? ⟨b, 1, none⟩ = some v1 ∧ w.cell? ⟨b, 2, none⟩ = some v2 ∧ w.cell? ⟨b, 3, none⟩ = some v3 ∧ w.cell? ⟨b, 4, none⟩ = some v4 ∧ ∀ j, w.frozen? ⟨b, j, none⟩ = false := by
  obtain ⟨T, h⟩ := h
  refine ⟨?_, ?_, ?_, ?_, ?_, fun j => Lib.frozen_of_heap h j⟩ <;> (unfold World.cell?; rw [h]; rfl)
theorem Box5.made (w : World) (T : Nat) (v0 v1 v2 v3 v4 : Value) : Box5 (w.alloc (.cells #[v0, v1, v2, v3, v4] T)) w.heap.size v0 v1 v2 v3 v4 := ⟨T, by show (w.heap.push _)[w.heap.size]? = _; rw [Array.getElem?_push_size]⟩
theorem Box5.next {b : Nat} {w w' : World} {v0 v1 v2 v3 v4 : Value} (h : Box5 w b v0 v1 v2 v3 v4) (hb : Below w.heap.size w w') : Box5 w' b v0 v1 v2 v3 v4 := by
  obtain ⟨T, h⟩ := h
  have hl : b < w.heap.size := by
    rcases Nat.lt_or_ge b w.heap.size with h1 | h1
    · exact h1
    · rw [Array.getElem?_eq_none h1] at h; exact absurd h (by simp)
  exact ⟨T, by rw [hb.block b hl]; exact h⟩
def set5 (w : World) (b : Nat) (v0 v1 v2 v3 v4 : Value) : World := ((((w.setCell ⟨b, 0, none⟩ v0).setCell ⟨b, 1, none⟩ v1).setCell ⟨b, 2, none⟩ v2).setCell ⟨b, 3, none⟩ v3).setCell ⟨b, 4, none⟩ v4
theorem set5_block {w : World} {b k : Nat} (v0 v1 v2 v3 v4 : Value) (h : k ≠ b) : (set5 w b v0 v1 v2 v3 v4).heap[k]? = w.heap[k]? := by
  unfold set5
  rw [Below.heap_setCell _ _ _ _ h, Below.heap_setCell _ _ _ _ h, Below.heap_setCell _ _ _ _ h, Below.heap_setCell _ _ _ _ h, Below.heap_setCell _ _ _ _ h]
theorem set5_size (w : World) (b : Nat) (v0 v1 v2 v3 v4 : Value) : (set5 w b v0 v1 v2 v3 v4).heap.size = w.heap.size := by simp [set5, World.setCell]
theorem set5_tch {R b : Nat} {w w1 : World} (v0 v1 v2 v3 v4 : Value) (h : Tch R w w1) (hb : w.heap.size ≤ b) : Tch R w (set5 w1 b v0 v1 v2 v3 v4) := ((((h.set' hb).set' hb).set' hb).set' hb).set' hb
theorem set5_fault {w : World} {B b : Nat} {a e : Int} (v0 v1 v2 v3 v4 : Value) (h : FaultAt w B a e) (hb : B ≠ b) : FaultAt (set5 w b v0 v1 v2 v3 v4) B a e := by
  unfold FaultAt at h ⊢
  rw [set5_block _ _ _ _ _ hb]; exact h
theorem RdRes.pass {R : Nat} {w w' : World} {e : Ending} {E : NR} (h : RdRes R w w' e E) : ∃ (k a i : Int) (s : ByteArray) (ao : Option Addr) (n cap : Nat) (v : Value),
    e = .returned (.tuple #[.agg #[.int .i64 (k), .int .i64 (a), .int .i64 (i), .string (s), .slice ao n cap], v]) ∧ ∀ (w0 w2 : World) (e2 : Ending), w0.heap.size ≤ w.heap.size → (∀ j, (j ≤ R ∨ w.heap.size ≤ j) → j < w'.heap.size → w2.heap[j]? = w'.heap[j]?) → R < w'.heap.size → e2 = .returned (.tuple #[.agg #[.int .i64 (k), .int .i64 (a), .int .i64 (i), .string (s), .slice ao n cap], v]) → RdRes R w0 w2 e2 E := by
  rcases E with ⟨a, f⟩ | ⟨x, n, r⟩
  · obtain ⟨B, h1, h2, h3⟩ := h
    refine ⟨0, 0, 0, ⟨#[]⟩, none, 0, 0, _, h2, fun w0 w2 e2 q1 q2 q3 q4 => ⟨B, by omega, q4, ?_⟩⟩
    have hl := fault_lt h3
    unfold FaultAt at h3 ⊢
    rw [q2 B (.inr h1) hl]; exact h3
  · obtain ⟨⟨c, h1, h2⟩, h3⟩ := h
    obtain ⟨ck, ca, ci, cs, cao, cn, ccap⟩ := c
    refine ⟨ck, (ca : Int), ci, baL cs, cao, cn, ccap, _, h1, fun w0 w2 e2 q1 q2 q3 q4 => ⟨⟨⟨ck, ca, ci, cs, cao, cn, ccap⟩, q4, ?_⟩, h3.keep fun j hj => q2 j (.inl hj) (by omega)⟩⟩
    exact h2.keep fun j hj hl => ⟨q2 j (.inr hj) hl, Nat.le_trans q1 hj⟩
set_option maxHeartbeats 4000000 in
set_option maxRecDepth 20000 in
theorem node_step (f : Nat) (hL : ListC f) (hN : ∀ g, g < f → NotC g) : NodeC f := by
  intro R d n l w hl0 hl hn hd hr
  cases l with
  | nil => exact absurd rfl hl0
  | cons t r =>
    rw [List.length_cons] at hl
    obtain ⟨E, HE⟩ : ∃ E, Hid (rdN f d n (t :: r) = E) := ⟨_, rfl⟩
    rw [HE.out]
    have HRw : R < w.heap.size := hr.lt
    have HR1 : Hid (RdAt w R (t :: r) n) := hr
    have HX := HE.out
    rw [rdN_cons] at HX
    have HTk : Hid (∀ w', RdAt w' R (t :: r) n → Calls Tryz.prog 106 #[.pointer (some ⟨R, 0, none⟩)] w' fun e w2 => e = .returned (.agg #[.int .i64 (t.k), .int .i64 ((t.a : Int)), .int .i64 (t.i), .string (baL t.s)]) ∧ RdAt w2 R r n ∧ Tch R w' w2) := fun w' h => take_any R n t r w' h
    have HLs : Hid (∀ w', RdAt w' R r (n + 1) → n ≠ 4096 → Calls Tryz.prog 108 #[.pointer (some ⟨R, 0, none⟩), .int .i64 (t.a : Int), .int .i64 (d : Int)] w' fun e w2 => RdRes R w' w2 e (if d = 32 then .error (t.a, 4) else rdL f d t.a (n + 1) r []) ∧ Tch R w' w2) := fun w' h h2 => hL R d t.a (n + 1) r w' (by omega) (by omega) hd h
    have HNs : Hid (∀ w', RdAt w' R r (n + 1) → n ≠ 4096 → Calls Tryz.prog 109 #[.pointer (some ⟨R, 0, none⟩), .int .i64 (t.a : Int), .int .i64 (d : Int)] w' fun e w2 => RdRes R w' w2 e (notR t (n + 1) r) ∧ Tch R w' w2) := fun w' h h2 => hN (f - 1) (by omega) R d (n + 1) t r w' (by omega) (by omega) hd h
    obtain ⟨tk, ta, ti, ts⟩ := t
    simp only at HX HTk HLs HNs
    obtain ⟨Y, HY⟩ : ∃ Y, Hid (baL ts = Y) := ⟨_, rfl⟩
    rw [HY.out] at HTk
    clear HE hl0 hr hL hN
    by_cases k5 : tk = 5
    · rw [if_pos k5] at HX
      have d5 : (tk == 5) = true := by simpa using k5
      have HX2 : Hid (E = .error (ta, 2)) := HX.symm
      clear HX k5 HLs HNs
      go_enter Tryz.func76, Tryz.ntmps76
      go_wp2_with fail
      refine (HTk.out _ (HR1.out.next (alloc_below _ _))).mono ?_
      rintro e w1 ⟨rfl, hr1, ht1⟩
      have HBx : Hid (Box5 w1 w.heap.size _ _ _ _ _) := (Box5.made w _ _ _ _ _ _).tch ht1 (by omega)
      have hz : w.heap.size + 1 ≤ w1.heap.size := by have := ht1.size; simpa using this
      have HT1 : Hid (Tch R w w1) := (Tch.alloc R w _).trans ht1
      clear hr1 ht1
      go_wp2_with fail
      refine (sfault_any _ _ _).mono ?_
      rintro e w2 ⟨rfl, hf, hb2⟩
      obtain ⟨e0, e1, e2, e3, e4, ef⟩ := ((HBx.out.next (alloc_below _ _)).next hb2).cells
      have HF : Hid (FaultAt w2 (w1.heap.size + 1) ta 2) := by rw [Hid]; simpa using hf
      have HT2 : Hid (Tch R w w2) := (HT1.out.below_of (alloc_below _ _)).below_of hb2
      clear hf hb2
      go_wp2
      refine bodyPost_ret (v := .tuple #[zeroNd, .iface 133 (.pointer (some ⟨w1.heap.size + 1, 0, none⟩))]) (by simp [results, Tryz.results76, go_sem, zeroNd, e0, e1, e2, e3, e4]) rfl ⟨?_, ?_⟩
      · rw [HX2.out]
        exact ⟨w1.heap.size + 1, by omega, rfl, set5_fault _ _ _ _ _ HF.out (by omega)⟩
      · exact set5_tch _ _ _ _ _ HT2.out (Nat.le_refl _)
    have d5 : (tk == 5) = false := by simpa using k5
    rw [if_neg k5] at HX
    by_cases hn4 : n = 4096
    · rw [if_pos hn4] at HX
      have d4 : ((n : Int) == 4096) = true := by simp; omega
      have HX2 : Hid (E = .error (ta, 4)) := HX.symm
      clear HX k5 HLs HNs hn4
      go_enter Tryz.func76, Tryz.ntmps76
      go_wp2_with fail
      refine (HTk.out _ (HR1.out.next (alloc_below _ _))).mono ?_
      rintro e w1 ⟨rfl, hr1, ht1⟩
      have HBx : Hid (Box5 w1 w.heap.size _ _ _ _ _) := (Box5.made w _ _ _ _ _ _).tch ht1 (by omega)
      have hz : w.heap.size + 1 ≤ w1.heap.size := by have := ht1.size; simpa using this
      have HT1 : Hid (Tch R w w1) := (Tch.alloc R w _).trans ht1
      have hc1 := hr1.c1.1
      have hRl : R < w1.heap.size := by omega
      clear hr1 ht1
      go_wp2_with fail
      refine (sfault_any _ _ _).mono ?_
      rintro e w2 ⟨rfl, hf, hb2⟩
      obtain ⟨e0, e1, e2, e3, e4, ef⟩ := ((HBx.out.next (alloc_below _ _)).next hb2).cells
      have HF : Hid (FaultAt w2 (w1.heap.size + 1) ta 4) := by rw [Hid]; simpa using hf
      have HT2 : Hid (Tch R w w2) := (HT1.out.below_of (alloc_below _ _)).below_of hb2
      clear hf hb2 hc1
      go_wp2
      refine bodyPost_ret (v := .tuple #[zeroNd, .iface 133 (.pointer (some ⟨w1.heap.size + 1, 0, none⟩))]) (by simp [results, Tryz.results76, go_sem, zeroNd, e0, e1, e2, e3, e4]) rfl ⟨?_, ?_⟩
      · rw [HX2.out]
        exact ⟨w1.heap.size + 1, by omega, rfl, set5_fault _ _ _ _ _ HF.out (by omega)⟩
      · exact set5_tch _ _ _ _ _ HT2.out (Nat.le_refl _)
    have hn5 : ((n : Int) == 4096) = false := by simp; omega
    rw [if_neg hn4] at HX
    have hnb : (n : Int) < 4096 := by omega
    by_cases k4 : tk = 4
    · rw [if_pos k4] at HX
      have d4 : (tk == 4) = true := by simpa using k4
      have HLs2 : Hid (∀ w', RdAt w' R r (n + 1) → Calls Tryz.prog 108 #[.pointer (some ⟨R, 0, none⟩), .int .i64 (ta : Int), .int .i64 (d : Int)] w' fun e w2 => RdRes R w' w2 e E ∧ Tch R w' w2) := fun w' h => by rw [← HX]; exact HLs.out w' h hn4
      clear HX k5 HLs HNs hn4 k4
      go_enter Tryz.func76, Tryz.ntmps76
      go_wp2_with fail
      refine (HTk.out _ (HR1.out.next (alloc_below _ _))).mono ?_
      rintro e w1 ⟨rfl, hr1, ht1⟩
      have HBx : Hid (Box5 w1 w.heap.size _ _ _ _ _) := (Box5.made w _ _ _ _ _ _).tch ht1 (by omega)
      have hz : w.heap.size + 1 ≤ w1.heap.size := by have := ht1.size; simpa using this
      have HT1 : Hid (Tch R w w1) := (Tch.alloc R w _).trans ht1
      obtain ⟨hc1, hf1⟩ := hr1.c1
      have HR2 : Hid (RdAt w1 R r n) := hr1
      have hRl : R < w1.heap.size := by omega
      clear hr1 ht1
      go_wp2_with fail
      refine (HLs2.out _ (HR2.out.count1.next (alloc_below _ _))).mono ?_
      rintro e w2 ⟨hres, ht2⟩
      obtain ⟨k', a', i', s', ao', n', cap', v', rfl, hpass⟩ := hres.pass
      have HP : Hid _ := hpass
      obtain ⟨e0, e1, e2, e3, e4, ef⟩ := (((HBx.out.tch (Tch.set R w1 1 _) (by omega)).next (alloc_below _ _)).tch ht2 (by omega)).cells
      have HT2 : Hid (Tch R w w2) := ((HT1.out.trans (Tch.set R w1 1 _)).below_of (alloc_below _ _)).trans ht2
      have hz2 : R < w2.heap.size := by have := HT2.out.size; omega
      clear hres hpass ht2 hc1 hf1
      go_wp2
      refine bodyPost_ret (v := .tuple #[.agg #[.int .i64 (k'), .int .i64 (a'), .int .i64 (i'), .string (s'), .slice ao' n' cap'], v']) (by simp [results, Tryz.results76, go_sem, e0, e1, e2, e3, e4]) rfl ⟨?_, ?_⟩
      · refine HP.out _ _ _ ?_ (fun j hj _ => set5_block _ _ _ _ _ ?_) hz2 rfl
        · simp; omega
        · simp at hj; omega
      · exact set5_tch _ _ _ _ _ HT2.out (Nat.le_refl _)
    have d4 : (tk == 4) = false := by simpa using k4
    rw [if_neg k4] at HX
    by_cases k8 : tk = 8
    · rw [if_pos k8] at HX
      have d8 : (tk == 8) = true := by simpa using k8
      have HLs2 : Hid (∀ w', RdAt w' R r (n + 1) → Calls Tryz.prog 109 #[.pointer (some ⟨R, 0, none⟩), .int .i64 (ta : Int), .int .i64 (d : Int)] w' fun e w2 => RdRes R w' w2 e E ∧ Tch R w' w2) := fun w' h => by rw [← HX]; exact HNs.out w' h hn4
      clear HX k5 HLs HNs hn4 k4 k8
      go_enter Tryz.func76, Tryz.ntmps76
      go_wp2_with fail
      refine (HTk.out _ (HR1.out.next (alloc_below _ _))).mono ?_
      rintro e w1 ⟨rfl, hr1, ht1⟩
      have HBx : Hid (Box5 w1 w.heap.size _ _ _ _ _) := (Box5.made w _ _ _ _ _ _).tch ht1 (by omega)
      have hz : w.heap.size + 1 ≤ w1.heap.size := by have := ht1.size; simpa using this
      have HT1 : Hid (Tch R w w1) := (Tch.alloc R w _).trans ht1
      obtain ⟨hc1, hf1⟩ := hr1.c1
      have HR2 : Hid (RdAt w1 R r n) := hr1
      have hRl : R < w1.heap.size := by omega
      clear hr1 ht1
      go_wp2_with fail
      refine (HLs2.out _ (HR2.out.count1.next (alloc_below _ _))).mono ?_
      rintro e w2 ⟨hres, ht2⟩
      obtain ⟨k', a', i', s', ao', n', cap', v', rfl, hpass⟩ := hres.pass
      have HP : Hid _ := hpass
      obtain ⟨e0, e1, e2, e3, e4, ef⟩ := (((HBx.out.tch (Tch.set R w1 1 _) (by omega)).next (alloc_below _ _)).tch ht2 (by omega)).cells
      have HT2 : Hid (Tch R w w2) := ((HT1.out.trans (Tch.set R w1 1 _)).below_of (alloc_below _ _)).trans ht2
      have hz2 : R < w2.heap.size := by have := HT2.out.size; omega
      clear hres hpass ht2 hc1 hf1
      go_wp2
      refine bodyPost_ret (v := .tuple #[.agg #[.int .i64 (k'), .int .i64 (a'), .int .i64 (i'), .string (s'), .slice ao' n' cap'], v']) (by simp [results, Tryz.results76, go_sem, e0, e1, e2, e3, e4]) rfl ⟨?_, ?_⟩
      · refine HP.out _ _ _ ?_ (fun j hj _ => set5_block _ _ _ _ _ ?_) hz2 rfl
        · simp; omega
        · simp at hj; omega
      · exact set5_tch _ _ _ _ _ HT2.out (Nat.le_refl _)
    have d8 : (tk == 8) = false := by simpa using k8
    rw [if_neg k8] at HX
    have HX2 : Hid (E = .ok (leafN ⟨tk, ta, ti, ts⟩, n + 1, r)) := HX.symm
    clear HX k5 HLs HNs hn4 k4 k8
    go_enter Tryz.func76, Tryz.ntmps76
    go_wp2_with fail
    refine (HTk.out _ (HR1.out.next (alloc_below _ _))).mono ?_
    rintro e w1 ⟨rfl, hr1, ht1⟩
    have HBx : Hid (Box5 w1 w.heap.size _ _ _ _ _) := (Box5.made w _ _ _ _ _ _).tch ht1 (by omega)
    have hz : w.heap.size + 1 ≤ w1.heap.size := by have := ht1.size; simpa using this
    have HT1 : Hid (Tch R w w1) := (Tch.alloc R w _).trans ht1
    obtain ⟨hc1, hf1⟩ := hr1.c1
    have HR2 : Hid (RdAt w1 R r n) := hr1
    have hRl : R < w1.heap.size := by omega
    obtain ⟨e0, e1, e2, e3, e4, ef⟩ := HBx.out.cells
    have hq1 : w.heap.size ≠ R := by omega
    have hq2 : w.heap.size < w1.heap.size := by omega
    clear hr1 ht1
    go_wp2
    refine bodyPost_ret (v := .tuple #[.agg #[.int .i64 (tk), .int .i64 ((ta : Int)), .int .i64 (ti), .string (Y), .slice none 0 0], .nilIface]) (by simp [results, Tryz.results76, go_sem, e0, e1, e2, e3, e4, hq2]) rfl ⟨?_, ?_⟩
    · rw [HX2.out]
      refine ⟨⟨⟨tk, ta, ti, ts, none, 0, 0⟩, by rw [← HY.out]; rfl, NcIs.leaf _ _ _ _ _ _⟩, ?_⟩
      exact (HR2.out.count1.keep fun k hk => set5_block _ _ _ _ _ (by omega)).next (alloc_below _ _)
    · exact (set5_tch _ _ _ _ _ (HT1.out.trans (Tch.set R w1 1 _)) (Nat.le_refl _)).below_of (alloc_below _ _)
end Go.Proofs.YtnhbjhdkpbhioaaGreatDoor
namespace Go.Proofs.YtnhbjhdkpbhioaaGreatDoor
open Go.RowKit
theorem RdAt.first {w : World} {R c : Nat} {t : Tk} {r : List Tk} (h : RdAt w R (t :: r) c) : ∃ b o cap, w.cell? ⟨R, 0, none⟩ = some (.slice (some ⟨b, o, none⟩) (r.length + 1) cap) ∧ b < R ∧ w.cell? ⟨b, o, none⟩ = some (.int .i64 t.k) := by
  obtain ⟨ao, cap, h1, h2, h3, h4⟩ := h
  obtain ⟨b, o, rfl, c0, _⟩ := h3 0 t rfl
  rw [Nat.zero_mul, Nat.add_zero] at c0
  exact ⟨b, o, cap, h1.c0, h4 _ rfl, c0⟩
theorem RdAt.empty {w : World} {R c : Nat} (h : RdAt w R [] c) : ∃ ao cap, w.cell? ⟨R, 0, none⟩ = some (.slice ao 0 cap) := by
  obtain ⟨ao, cap, h1, _⟩ := h
  exact ⟨ao, cap, h1.c0⟩
set_option maxHeartbeats 4000000 in
set_option maxRecDepth 20000 in
theorem not_step (f : Nat) (hN : NodeC f) : NotC f := by
  intro R d n t l w hl hn hd hr
  obtain ⟨E, HE⟩ : ∃ E, Hid (notR t n l = E) := ⟨_, rfl⟩
  rw [HE.out]
  have HRw : R < w.heap.size := hr.lt
  have HR1 : Hid (RdAt w R l n) := hr
  obtain ⟨ta, HTa⟩ : ∃ ta : Int, Hid ((t.a : Int) = ta) := ⟨_, rfl⟩
  rw [HTa.out]
  cases l with
  | nil =>
    have HX2 : Hid (E = .error (t.a, 3)) := HE.out.symm
    obtain ⟨ao, cap, c0⟩ := hr.empty
    clear HE hr
    go_enter Tryz.func109, Tryz.ntmps109
    go_wp2_with fail
    refine (sfault_any _ _ _).mono ?_
    rintro e w2 ⟨rfl, hf, hb2⟩
    obtain ⟨e0, e1, e2, e3, e4, ef⟩ := ((Box5.made w 43 _ _ _ _ _).next hb2).cells
    have HF : Hid (FaultAt w2 (w.heap.size + 1) ta 3) := by rw [Hid]; simpa using hf
    have HT2 : Hid (Tch R w w2) := (Tch.alloc R w _).below_of hb2
    clear hf hb2 c0
    go_wp2
    refine bodyPost_ret (v := .tuple #[zeroNd, .iface 133 (.pointer (some ⟨w.heap.size + 1, 0, none⟩))]) (by simp [results, Tryz.results109, go_sem, zeroNd, e0, e1, e2, e3, e4]) rfl ⟨?_, ?_⟩
    · rw [HX2.out]
      exact ⟨w.heap.size + 1, by omega, rfl, set5_fault _ _ _ _ _ (by rw [HTa.out]; exact HF.out) (by omega)⟩
    · exact set5_tch _ _ _ _ _ HT2.out (Nat.le_refl _)
  | cons u q =>
    rw [List.length_cons] at hl
    have HNd : Hid (∀ w', RdAt w' R (u :: q) n → Calls Tryz.prog 76 #[.pointer (some ⟨R, 0, none⟩), .int .i64 (d : Int)] w' fun e w2 => RdRes R w' w2 e (rdN f d n (u :: q)) ∧ Tch R w' w2) := fun w' h => hN R d n (u :: q) w' (by simp) (by rw [List.length_cons]; omega) hn hd h
    obtain ⟨b, o, cap, c0, hbR, c2⟩ := hr.first
    obtain ⟨N, HNl⟩ : ∃ N, Hid (q.length = N) := ⟨_, rfl⟩
    rw [HNl.out] at c0
    have hbw : b < w.heap.size := by omega
    have hN0 : ((N : Int) + 1 == 0) = false := by simp; omega
    have HX : (if markT u.k = true then (.error (t.a, 2) : NR) else if n = 4096 then .error (u.a, 4) else .ok (.mk 8 t.a 0 [] [leafN u], n + 1, q)) = E := HE.out
    have HNx := rdN_cons f d n u q
    obtain ⟨uk, ua, ui, us⟩ := u
    simp only at c2 HX HNx
    clear HE hr hN
    by_cases hm : markT uk = true
    · rw [if_pos hm] at HX
      have HX2 : Hid (E = .error (t.a, 2)) := HX.symm
      clear HX HNd HNx
      have hk : uk = 4 ∨ uk = 5 ∨ uk = 8 := by unfold markT at hm; simpa using hm
      clear hm
      rcases hk with rfl | rfl | rfl
      all_goals
        go_enter Tryz.func109, Tryz.ntmps109
        go_wp2_with fail
        refine (sfault_any _ _ _).mono ?_
        rintro e w2 ⟨rfl, hf, hb2⟩
        obtain ⟨e0, e1, e2, e3, e4, ef⟩ := ((Box5.made w 43 _ _ _ _ _).next hb2).cells
        have HF : Hid (FaultAt w2 (w.heap.size + 1) ta 2) := by rw [Hid]; simpa using hf
        have HT2 : Hid (Tch R w w2) := (Tch.alloc R w _).below_of hb2
        clear hf hb2 c0 c2
        go_wp2
        refine bodyPost_ret (v := .tuple #[zeroNd, .iface 133 (.pointer (some ⟨w.heap.size + 1, 0, none⟩))]) (by simp [results, Tryz.results109, go_sem, zeroNd, e0, e1, e2, e3, e4]) rfl ⟨?_, ?_⟩
        · rw [HX2.out]
          exact ⟨w.heap.size + 1, by omega, rfl, set5_fault _ _ _ _ _ (by rw [HTa.out]; exact HF.out) (by omega)⟩
        · exact set5_tch _ _ _ _ _ HT2.out (Nat.le_refl _)
    · rw [if_neg hm] at HX
      have hk : ¬ (uk = 4 ∨ uk = 5 ∨ uk = 8) := by intro e; exact hm (by unfold markT; simpa using e)
      rw [if_neg (by omega)] at HNx
      have d4 : (uk == 4) = false := by simp; omega
      have d5 : (uk == 5) = false := by simp; omega
      have d8 : (uk == 8) = false := by simp; omega
      by_cases hn4 : n = 4096
      · rw [if_pos hn4] at HX HNx
        have HX2 : Hid (E = .error (ua, 4)) := HX.symm
        have HNd2 : Hid (∀ w', RdAt w' R (⟨uk, ua, ui, us⟩ :: q) n → Calls Tryz.prog 76 #[.pointer (some ⟨R, 0, none⟩), .int .i64 (d : Int)] w' fun e w2 => RdRes R w' w2 e (.error (ua, 4)) ∧ Tch R w' w2) := fun w' h => by rw [← HNx]; exact HNd.out w' h
        clear HX HNx HNd hk hm hn4
        go_enter Tryz.func109, Tryz.ntmps109
        go_wp2_with fail
        refine (HNd2.out _ (HR1.out.next (alloc_below _ _))).mono ?_
        rintro e w2 ⟨⟨B, hB, rfl, hf⟩, ht2⟩
        obtain ⟨e0, e1, e2, e3, e4, ef⟩ := ((Box5.made w 43 _ _ _ _ _).tch ht2 (by omega)).cells
        have HF : Hid (FaultAt w2 B ua 4) := hf
        have HT2 : Hid (Tch R w w2) := (Tch.alloc R w _).trans ht2
        have hB2 : w.heap.size + 1 ≤ B := by simpa using hB
        have hz : w.heap.size < w2.heap.size := by have := ht2.size; simp at this; omega
        clear hf ht2 c0 c2 hB
        unfold zeroNd
        go_wp2
        refine bodyPost_ret (v := .tuple #[zeroNd, .iface 133 (.pointer (some ⟨B, 0, none⟩))]) (by simp [results, Tryz.results109, go_sem, zeroNd, e0, e1, e2, e3, e4, hz]) rfl ⟨?_, ?_⟩
        · rw [HX2.out]
          exact ⟨B, by omega, rfl, (set5_fault _ _ _ _ _ HF.out (by omega)).next (alloc_below _ _)⟩
        · exact (set5_tch _ _ _ _ _ HT2.out (Nat.le_refl _)).below_of (alloc_below _ _)
      · rw [if_neg hn4] at HX HNx
        rw [if_neg (by omega), if_neg (by omega)] at HNx
        have HX2 : Hid (E = .ok (.mk 8 t.a 0 [] [leafN ⟨uk, ua, ui, us⟩], n + 1, q)) := HX.symm
        have HNd2 : Hid (∀ w', RdAt w' R (⟨uk, ua, ui, us⟩ :: q) n → Calls Tryz.prog 76 #[.pointer (some ⟨R, 0, none⟩), .int .i64 (d : Int)] w' fun e w2 => RdRes R w' w2 e (.ok (leafN ⟨uk, ua, ui, us⟩, n + 1, q)) ∧ Tch R w' w2) := fun w' h => by rw [← HNx]; exact HNd.out w' h
        clear HX HNx HNd hk hm hn4
        go_enter Tryz.func109, Tryz.ntmps109
        go_wp2_with fail
        refine (HNd2.out _ (HR1.out.next (alloc_below _ _))).mono ?_
        rintro e w2 ⟨⟨⟨c, rfl, hc⟩, hr2⟩, ht2⟩
        obtain ⟨e0, e1, e2, e3, e4, ef⟩ := ((Box5.made w 43 _ _ _ _ _).tch ht2 (by omega)).cells
        have HT2 : Hid (Tch R w w2) := (Tch.alloc R w _).trans ht2
        have HC : Hid (NcIs w2 (geB (w.alloc (.cells #[.int .i64 0, .int .i64 0, .int .i64 0, .string ⟨#[]⟩, .slice none 0 0] 43)).heap.size) c (leafN ⟨uk, ua, ui, us⟩)) := hc
        have HR2 : Hid (RdAt w2 R q (n + 1)) := hr2
        have hz : w.heap.size < w2.heap.size := by have := ht2.size; simp at this; omega
        clear ht2 c0 c2 hc hr2
        obtain ⟨ck, ca, ci, cs, cao, cn, ccap⟩ := c
        unfold nodeV
        simp only
        go_wp2
        refine bodyPost_ret (v := .tuple #[.agg #[.int .i64 (8), .int .i64 (ta), .int .i64 (0), .string (⟨#[]⟩), .slice (some ⟨w2.heap.size + 1, 0, none⟩) 1 1], .nilIface]) (by simp [results, Tryz.results109, go_sem, e0, e1, e2, e3, e4, hz]) rfl ⟨?_, ?_⟩
        · rw [HX2.out]
          refine ⟨⟨⟨8, t.a, 0, [], some ⟨w2.heap.size + 1, 0, none⟩, 1, 1⟩, by rw [← HTa.out]; rfl, rfl, rfl, rfl, rfl, rfl, Nat.le_refl _, ?_⟩, ((HR2.out.keep fun k hk => set5_block _ _ _ _ _ (by omega)).next (alloc_below _ _)).next (alloc_below _ _)⟩
          refine ⟨w2.heap.size + 1, 0, fun _ => rfl, ncs_at (by unfold geB; omega) [⟨ck, ca, ci, cs, cao, cn, ccap⟩] [leafN ⟨uk, ua, ui, us⟩] 0 ⟨((HC.out.keep (S' := geB w.heap.size) fun k hk hl => ⟨set5_block _ _ _ _ _ ?_, ?_⟩).next (alloc_below _ _)).next (alloc_below _ _), trivial⟩ fun j v hj => ?_⟩
          · unfold geB at hk; simp at hk; omega
          · unfold geB at hk ⊢; simp at hk; omega
          · rw [Nat.zero_add]
            refine box_cell (by rw [World.size_alloc]; exact congrArg (· + 1) (set5_size _ _ _ _ _ _ _).symm) ?_
            rw [← Array.getElem?_toList]
            exact hj
        · exact ((set5_tch _ _ _ _ _ HT2.out (Nat.le_refl _)).below_of (alloc_below _ _)).below_of (alloc_below _ _)
end Go.Proofs.YtnhbjhdkpbhioaaGreatDoor
namespace Go.Proofs.YtnhbjhdkpbhioaaGreatDoor
open Go.RowKit
theorem inN : (Tryz.prog.info? 43).map (fun i => (i.zero, i.size, i.bytes)) = some (some zeroNd, 5, 64) := by kernel_rfl
theorem inN' : ∃ i, Tryz.prog.info? 43 = some i ∧ i.zero = some zeroNd ∧ i.size = 5 ∧ i.bytes = 64 := by
  obtain ⟨i, h, e⟩ := Option.map_eq_some_iff.1 inN
  simp only [Prod.mk.injEq] at e
  exact ⟨i, h, e.1, e.2.1, e.2.2⟩
def restN (w : World) (R : Nat) : Nat := match w.cell? ⟨R, 0, none⟩ with
  | some (.slice _ n _) => n
  | _ => 0
theorem RdAt.rest {w : World} {R c : Nat} {l : List Tk} (h : RdAt w R l c) : restN w R = l.length := by
  obtain ⟨ao, cap, h1, _⟩ := h
  unfold restN
  rw [h1.c0]
theorem Box5.set4 {w : World} {b : Nat} {v0 v1 v2 v3 v4 : Value} (h : Box5 w b v0 v1 v2 v3 v4) (u : Value) : Box5 (w.setCell ⟨b, 4, none⟩ u) b v0 v1 v2 v3 u := by
  obtain ⟨T, h⟩ := h
  exact ⟨T, by simp [World.setCell, Array.getElem?_modify, h]⟩
theorem Box5.keep {w w' : World} {b : Nat} {v0 v1 v2 v3 v4 : Value} (h : Box5 w b v0 v1 v2 v3 v4) (hb : w'.heap[b]? = w.heap[b]?) : Box5 w' b v0 v1 v2 v3 v4 := by
  obtain ⟨T, h⟩ := h
  exact ⟨T, by rw [hb]; exact h⟩
theorem Box5.lt {w : World} {b : Nat} {v0 v1 v2 v3 v4 : Value} (h : Box5 w b v0 v1 v2 v3 v4) : b < w.heap.size := by
  obtain ⟨T, h⟩ := h
  rcases Nat.lt_or_ge b w.heap.size with h1 | h1
  · exact h1
  · rw [Array.getElem?_eq_none h1] at h; exact absurd h (by simp)
theorem Tch.grown {R : Nat} {w wa wb : World} {row : Option Nat} (h : Tch R w wa) (hg : wa.grownBy wb row) (hr : ∀ k, row = some k → w.heap.size ≤ k) : Tch R w wb :=
  ⟨hg.os.trans h.os, hg.tape.trans h.tape, hg.output.trans h.output, Nat.le_trans h.size hg.size, fun k hk hn => (hg.block k (Nat.lt_of_lt_of_le hk h.size) (fun e => by have := hr k e.symm; omega)).trans (h.block k hk hn)⟩
structure LsAt (f R d a : Nat) (E : NR) (w wr : World) (f' n : Nat) (l : List Tk) (acc : List Nd) (cs : List Nc) (v : Value) : Prop where
  rd : rdL f' d a n l acc = E
  len : l.length + 1 ≤ f'
  le : f' ≤ f
  cnt : n ≤ 4096
  acl : acc.length ≤ n
  at_ : RdAt wr R l n
  tch : Tch R w wr
  b0 : Box5 wr w.heap.size (.int .i64 0) (.int .i64 0) (.int .i64 0) (.string ⟨#[]⟩) (.slice none 0 0)
  b1 : Box5 wr (w.heap.size + 1) (.int .i64 0) (.int .i64 (a : Int)) (.int .i64 0) (.string ⟨#[]⟩) v
  own : wr.ownsRow (w.heap.size + 2) 43 5 v cs.length (ncsC cs)
  kids : NcsIs wr (offB (w.heap.size + 2) v) cs acc
set_option maxHeartbeats 8000000 in
set_option maxRecDepth 20000 in
theorem list_step (f : Nat) (hN : ∀ g, g < f → NodeC g) : ListC f := by
  intro R d a n l w hl hn hd hr
  obtain ⟨E, HE⟩ : ∃ E, Hid ((if d = 32 then (.error (a, 4) : NR) else rdL f d a n l []) = E) := ⟨_, rfl⟩
  rw [HE.out]
  have HX := HE.out
  have HRw : R < w.heap.size := hr.lt
  have HR1 : Hid (RdAt w R l n) := hr
  obtain ⟨ta, HTa⟩ : ∃ ta : Int, Hid ((a : Int) = ta) := ⟨_, rfl⟩
  rw [HTa.out]
  clear HE hr
  by_cases hd32 : d = 32
  · rw [if_pos hd32] at HX
    have d32 : ((d : Int) == 32) = true := by simp; omega
    have HX2 : Hid (E = .error (a, 4)) := HX.symm
    clear HX hN hd32
    go_enter Tryz.func108, Tryz.ntmps108
    go_wp2_with fail
    refine (sfault_any _ _ _).mono ?_
    rintro e w2 ⟨rfl, hf, hb2⟩
    obtain ⟨e0, e1, e2, e3, e4, ef⟩ := ((Box5.made w 43 _ _ _ _ _).next hb2).cells
    have HF : Hid (FaultAt w2 (w.heap.size + 1) ta 4) := by rw [Hid]; simpa using hf
    have HT2 : Hid (Tch R w w2) := (Tch.alloc R w _).below_of hb2
    clear hf hb2
    go_wp2
    refine bodyPost_ret (v := .tuple #[zeroNd, .iface 133 (.pointer (some ⟨w.heap.size + 1, 0, none⟩))]) (by simp [results, Tryz.results108, go_sem, zeroNd, e0, e1, e2, e3, e4]) rfl ⟨?_, ?_⟩
    · rw [HX2.out]
      exact ⟨w.heap.size + 1, by omega, rfl, set5_fault _ _ _ _ _ (by rw [HTa.out]; exact HF.out) (by omega)⟩
    · exact set5_tch _ _ _ _ _ HT2.out (Nat.le_refl _)
  · rw [if_neg hd32] at HX
    have d32 : ((d : Int) == 32) = false := by simp; omega
    have hdb : (d : Int) < 32 := by omega
    have HNd : Hid (∀ g, g < f → NodeC g) := hN
    obtain ⟨W0, HW0⟩ : ∃ W0, Hid (W0 = w.heap.size) := ⟨_, rfl⟩
    have HS : Hid (LsAt f R d a E w ((w.alloc (.cells #[.int .i64 0, .int .i64 0, .int .i64 0, .string ⟨#[]⟩, .slice none 0 0] 43)).alloc (.cells #[.int .i64 0, .int .i64 ta, .int .i64 0, .string ⟨#[]⟩, .slice none 0 0] 43)) f n l [] [] (.slice none 0 0)) := by
      refine ⟨HX, hl, Nat.le_refl _, hn, Nat.zero_le _, (HR1.out.next (alloc_below _ _)).next (alloc_below _ _), (Tch.alloc R w _).trans (Tch.alloc R _ _), (Box5.made w _ _ _ _ _ _).next (alloc_below _ _), ?_, World.ownsRow_nil _ _ _ _, trivial⟩
      rw [HTa.out]
      have := Box5.made (w.alloc (.cells #[.int .i64 0, .int .i64 0, .int .i64 0, .string ⟨#[]⟩, .slice none 0 0] 43)) 43 (.int .i64 0) (.int .i64 ta) (.int .i64 0) (.string ⟨#[]⟩) (.slice none 0 0)
      rw [World.size_alloc] at this
      exact this
    clear HX hN hd32
    go_enter Tryz.func108, Tryz.ntmps108
    go_wp2
    go_loopw [10] (fun _ wr => ∃ (f' n : Nat) (l : List Tk) (acc : List Nd) (cs : List Nc) (v : Value), Hid (LsAt f R d a E w wr f' n l acc cs v)) (fun _ wr => restN wr R)
    case atStart => exact ⟨f, n, l, [], [], _, HS⟩
    case round =>
      obtain ⟨f', n', l', acc, cs, v, HI⟩ := hrel
      clear HS
      cases l' with
      | nil =>
        obtain ⟨ao, cap, c0⟩ := HI.out.at_.empty
        have HX2 : Hid (E = .error (a, 3)) := by
          have h1 := HI.out.rd
          have h2 := HI.out.len
          obtain ⟨g, hg⟩ : ∃ g, f' = g + 1 := ⟨f' - 1, by omega⟩
          rw [hg, rdL_nil] at h1
          exact h1.symm
        have HT1 : Hid (Tch R w wr) := HI.out.tch
        have HB0 : Hid (Box5 wr w.heap.size (.int .i64 0) (.int .i64 0) (.int .i64 0) (.string ⟨#[]⟩) (.slice none 0 0)) := HI.out.b0
        have hz : w.heap.size + 1 < wr.heap.size := HI.out.b1.lt
        clear HI
        go_wp2_with fail
        refine (sfault_any _ _ _).mono ?_
        rintro e w2 ⟨rfl, hf, hb2⟩
        obtain ⟨e0, e1, e2, e3, e4, ef⟩ := (HB0.out.next hb2).cells
        have HF : Hid (FaultAt w2 wr.heap.size ta 3) := hf
        have HT2 : Hid (Tch R w w2) := HT1.out.below_of hb2
        clear hf hb2 c0
        go_wp2
        refine bodyPost_ret (v := .tuple #[zeroNd, .iface 133 (.pointer (some ⟨wr.heap.size, 0, none⟩))]) (by simp [results, Tryz.results108, go_sem, zeroNd, e0, e1, e2, e3, e4]) rfl ⟨?_, ?_⟩
        · rw [HX2.out]
          exact ⟨wr.heap.size, by omega, rfl, set5_fault _ _ _ _ _ (by rw [HTa.out]; exact HF.out) (by omega)⟩
        · exact set5_tch _ _ _ _ _ HT2.out (Nat.le_refl _)
      | cons t r =>
        obtain ⟨b, o, cap, c0, hbR, c2⟩ := HI.out.at_.first
        have hRr : R < wr.heap.size := HI.out.at_.lt
        have hbw : b < wr.heap.size := by omega
        obtain ⟨N, HNl⟩ : ∃ N, Hid (r.length = N) := ⟨_, rfl⟩
        rw [HNl.out] at c0
        have hz : w.heap.size + 1 < wr.heap.size := HI.out.b1.lt
        obtain ⟨g, hg⟩ : ∃ g, f' = g + 1 := ⟨f' - 1, by have := HI.out.len; omega⟩
        subst hg
        by_cases k5 : t.k = 5
        · have HX2 : Hid (E = .ok (.mk 0 a 0 [] acc, n', r)) := by
            have h1 := HI.out.rd
            rw [rdL_close _ _ _ _ _ _ _ k5] at h1
            exact h1.symm
          have d5 : (t.k == 5) = true := by simpa using k5
          obtain ⟨tk, htk⟩ : ∃ tk, t.k = tk := ⟨_, rfl⟩
          rw [htk] at d5 c2
          clear k5 htk
          go_wp2_with fail
          refine (take_any R n' t r _ HI.out.at_).mono ?_
          rintro e w2 ⟨rfl, hr2, ht2⟩
          obtain ⟨e0, e1, e2, e3, e4, ef⟩ := (HI.out.b0.tch ht2 (by omega)).cells
          obtain ⟨g0, g1, g2, g3, g4, gf⟩ := (HI.out.b1.tch ht2 (by omega)).cells
          have HT2 : Hid (Tch R w w2) := HI.out.tch.trans ht2
          have HR2 : Hid (RdAt w2 R r n') := hr2
          have HO2 := ht2.own (by omega) HI.out.own
          have HK2 : NcsIs w2 (offB (w.heap.size + 2) v) cs acc := HI.out.kids.keep fun k hk hl => ⟨ht2.block k hl (by have := hk.1; omega), hk⟩
          obtain ⟨vao, vcap, rfl, hvc, hnd⟩ := own_nds (S := geB (w.heap.size + 2)) HO2 (HK2.keep fun k hk _ => ⟨rfl, hk.1⟩) (fun k hk _ => hk)
          have HND : Hid (IsNds w2 (geB (w.heap.size + 2)) vao acc) := hnd
          obtain ⟨M, HM⟩ : ∃ M, Hid (acc.length = M) := ⟨_, rfl⟩
          rw [HM.out] at g4 hvc
          clear hr2 ht2 c0 c2 HI HO2 HK2 hnd
          go_wp2
          refine bodyPost_ret (v := .tuple #[.agg #[.int .i64 (0), .int .i64 ((a : Int)), .int .i64 (0), .string (⟨#[]⟩), .slice vao M vcap], .nilIface]) (by simp [results, Tryz.results108, go_sem, e0, e1, e2, e3, e4]) rfl ⟨?_, ?_⟩
          · rw [HX2.out]
            refine ⟨⟨⟨0, a, 0, [], vao, M, vcap⟩, rfl, rfl, rfl, rfl, rfl, HM.out.symm, hvc, ?_⟩, HR2.out.keep fun k hk => set5_block _ _ _ _ _ (by omega)⟩
            exact HND.out.keep fun k hk _ => ⟨set5_block _ _ _ _ _ (by unfold geB at hk; omega), by unfold geB at hk ⊢; omega⟩
          · exact set5_tch _ _ _ _ _ HT2.out (Nat.le_refl _)
        · have d5 : (t.k == 5) = false := by simpa using k5
          obtain ⟨tk, htk⟩ : ∃ tk, t.k = tk := ⟨_, rfl⟩
          rw [htk] at d5 c2
          obtain ⟨Q, HQ⟩ : ∃ Q, Hid (rdN g (d + 1) n' (t :: r) = Q) := ⟨_, rfl⟩
          have HCl : Hid (Calls Tryz.prog 76 #[.pointer (some ⟨R, 0, none⟩), .int .i64 ((d : Int) + 1)] wr fun e w2 => RdRes R wr w2 e Q ∧ Tch R wr w2) := by
            have h1 := HI.out.len
            have h2 := HI.out.le
            have := HNd.out g (by omega) R (d + 1) n' (t :: r) wr (by simp) (by omega) HI.out.cnt (by omega) HI.out.at_
            rw [HQ.out, Int.natCast_add] at this
            exact this
          have hz1 : w.heap.size < wr.heap.size := by omega
          rcases Q with ⟨qa, qe⟩ | ⟨x, m, q⟩
          · have HX2 : Hid (E = .error (qa, qe)) := by
              have h1 := HI.out.rd
              rw [rdL_bad _ _ _ _ _ _ _ _ _ k5 HQ.out] at h1
              exact h1.symm
            clear k5 htk
            go_wp2_with fail
            refine HCl.out.mono ?_
            rintro e w2 ⟨⟨B, hB, rfl, hf⟩, ht2⟩
            obtain ⟨e0, e1, e2, e3, e4, ef⟩ := (HI.out.b0.tch ht2 (by omega)).cells
            have HF : Hid (FaultAt w2 B qa qe) := hf
            have HT2 : Hid (Tch R w w2) := HI.out.tch.trans ht2
            have hz2 : w.heap.size < w2.heap.size := by have := ht2.size; omega
            clear hf ht2 c0 c2 HI HCl
            unfold zeroNd
            go_wp2
            refine bodyPost_ret (v := .tuple #[zeroNd, .iface 133 (.pointer (some ⟨B, 0, none⟩))]) (by simp [results, Tryz.results108, go_sem, zeroNd, e0, e1, e2, e3, e4, hz2]) rfl ⟨?_, ?_⟩
            · rw [HX2.out]
              exact ⟨B, by omega, rfl, (set5_fault _ _ _ _ _ HF.out (by omega)).next (alloc_below _ _)⟩
            · exact (set5_tch _ _ _ _ _ HT2.out (Nat.le_refl _)).below_of (alloc_below _ _)
          · have HX2 : Hid (rdL g d a m q (acc ++ [x]) = E) := by
              have h1 := HI.out.rd
              rw [rdL_ok _ _ _ _ _ _ _ _ _ _ k5 HQ.out] at h1
              exact h1
            have HLn : Hid _ := rd_len g (d + 1) n' (t :: r) x m q HI.out.cnt HQ.out
            clear k5 htk
            go_wp2_with fail
            refine HCl.out.mono ?_
            rintro e w2 ⟨⟨⟨c, rfl, hc⟩, hr2⟩, ht2⟩
            obtain ⟨g0, g1, g2, g3, g4, gf⟩ := (HI.out.b1.tch ht2 (by omega)).cells
            have HO2 := ht2.own (by omega) HI.out.own
            have HK2 : NcsIs w2 (offB (w.heap.size + 2) v) cs acc := HI.out.kids.keep fun k hk hl => ⟨ht2.block k hl (by have := hk.1; omega), hk⟩
            have hov : ∀ k, v.ownBlock = some k → k < wr.heap.size := fun k hk => (HI.out.own.lt k hk).2
            have HC : Hid (NcIs w2 (offB (w.heap.size + 2) v) c x) := hc.keep fun k hk _ => ⟨rfl, by unfold geB at hk; omega, fun e => by have := hov k e; unfold geB at hk; omega⟩
            have hz2 : w.heap.size + 1 < w2.heap.size := by have := ht2.size; omega
            have HT2 : Hid (Tch R w w2) := HI.out.tch.trans ht2
            have HR2 : Hid (RdAt w2 R q m) := hr2
            have HB0 := HI.out.b0.tch ht2 (by omega)
            have HB1 := HI.out.b1.tch ht2 (by omega)
            obtain ⟨vao, vn, vcap, hv⟩ : ∃ vao vn vcap, v = .slice vao vn vcap := by
              rcases HO2.2 with ⟨e, _⟩ | ⟨gg, cap, cur, e, _⟩
              · exact ⟨_, _, _, e⟩
              · exact ⟨_, _, _, e⟩
            obtain ⟨ck, ca, ci, css, cao, cn, ccap⟩ := c
            have HLs : Hid (LsAt f R d a E w wr (g + 1) n' (t :: r) acc cs v) := HI
            subst hv
            obtain ⟨i0, hi, hz0, hz1', hz2'⟩ := inN'
            have HOw : Hid (w2.ownsRow (w.heap.size + 2) 43 5 (.slice vao vn vcap) cs.length (ncsC cs)) := HO2
            have HKw : Hid (NcsIs w2 (offB (w.heap.size + 2) (.slice vao vn vcap)) cs acc) := HK2
            have HB0w : Hid (Box5 w2 w.heap.size (.int .i64 0) (.int .i64 0) (.int .i64 0) (.string ⟨#[]⟩) (.slice none 0 0)) := HB0
            have HB1w : Hid (Box5 w2 (w.heap.size + 1) (.int .i64 0) (.int .i64 (a : Int)) (.int .i64 0) (.string ⟨#[]⟩) (.slice vao vn vcap)) := HB1
            have hcl : cs.length ≤ 4096 := by have := HKw.out.len; have := HI.out.acl; have := HI.out.cnt; omega
            clear c0 c2 HI HCl hc hr2 ht2 HO2 HK2 HB0 HB1 hov
            unfold nodeV
            simp only
            go_wp2_with (at_builtin; refine wpList_append_lies _ rfl _ _ 41 rfl (w.heap.size + 2) 43 i0 zeroNd 5 64 Tryz.underlying41 hi hz0 hz1' hz2' rfl (by decide) _ _ _ rfl ((HOw.out.alloc _).alloc _) ⟨w2.heap.size + 1, 0, none⟩ 1 1 [.int .i64 ck, .int .i64 (ca : Int), .int .i64 ci, .string (baL css), .slice cao cn ccap] rfl rfl ?c1 ?c2 (by decide) ?c3 ?c4 ?c5 _ rfl ?_)
            case c1 =>
              intro j u hj
              match j, hj with
              | 0, hj => simp at hj; subst hj; simp [Addr.add]
              | 1, hj => simp at hj; subst hj; simp [Addr.add]
              | 2, hj => simp at hj; subst hj; simp [Addr.add]
              | 3, hj => simp at hj; subst hj; simp [Addr.add]
              | 4, hj => simp at hj; subst hj; simp [Addr.add]
            case c2 => intro u hu; simp at hu; rcases hu with rfl | rfl | rfl | rfl | rfl <;> rfl
            case c3 => unfold maxLen; omega
            case c4 => omega
            case c5 => simp; omega
            intro gk gcap w3 ho hg hv3 hlt3
            have hob : ∀ k, (Value.slice vao vn vcap).ownBlock = some k → w.heap.size + 2 ≤ k := fun k hk => (HOw.out.lt k hk).1
            have HO3 : Hid (w3.ownsRow (w.heap.size + 2) 43 5 (.slice (some ⟨gk, 0, none⟩) (cs.length + 1) gcap) (cs ++ [(⟨ck, ca, ci, css, cao, cn, ccap⟩ : Nc)]).length (ncsC (cs ++ [(⟨ck, ca, ci, css, cao, cn, ccap⟩ : Nc)]))) := by
              rw [← ncs_snoc, Hid, List.length_append]; exact ho
            have HK3 : Hid (NcsIs w3 (offB (w.heap.size + 2) (.slice (some ⟨gk, 0, none⟩) (cs.length + 1) gcap)) (cs ++ [(⟨ck, ca, ci, css, cao, cn, ccap⟩ : Nc)]) (acc ++ [x])) :=
              ncs_grow ((((NcsIs.snoc HC.out HKw.out).next (alloc_below _ _)).next (alloc_below _ _))) hg hv3 (by simp)
            have hgb : ∀ k, k < w.heap.size + 2 → w3.heap[k]? = w2.heap[k]? := fun k hk => by
              rw [hg.block k (by simp; omega) (fun e => by have := hob k e.symm; omega), Below.heap_alloc _ _ _ (by simp; omega), Below.heap_alloc _ _ _ (by omega)]
            have HB13 := HB1w.out.keep (hgb _ (by omega))
            obtain ⟨f0, f1, f2, f3, f4, ff⟩ := HB13.cells
            have HT3 : Hid (Tch R w w3) := ((HT2.out.below_of (alloc_below _ _)).below_of (alloc_below _ _)).grown hg fun k hk => by have := hob k hk; omega
            have HR3 : Hid (RdAt w3 R q m) := HR2.out.keep fun k hk => hgb k (by omega)
            have HB03 : Hid (Box5 w3 w.heap.size (.int .i64 0) (.int .i64 0) (.int .i64 0) (.string ⟨#[]⟩) (.slice none 0 0)) := HB0w.out.keep (hgb _ (by omega))
            have HB13w : Hid (Box5 w3 (w.heap.size + 1) (.int .i64 0) (.int .i64 (a : Int)) (.int .i64 0) (.string ⟨#[]⟩) (.slice vao vn vcap)) := HB13
            clear ho hg hv3 hob hgb HB13 g0 g1 g2 g3 g4 gf
            go_wp2
            go_roundw
            case rel =>
              refine ⟨g, m, q, acc ++ [x], cs ++ [(⟨ck, ca, ci, css, cao, cn, ccap⟩ : Nc)], .slice (some ⟨gk, 0, none⟩) (cs.length + 1) gcap, HX2.out, ?_, ?_, HLn.out.2.2.1, ?_, HR3.out.set (by omega), HT3.out.set' (by omega), ?_, HB13w.out.set4 _, ownsRow_setCell_below HO3.out (by show w.heap.size + 1 < w.heap.size + 2; omega) _, ?_⟩
              · have := HLs.out.len; have := HLn.out.1; omega
              · have := HLs.out.le; omega
              · have := HLs.out.acl; have := HLn.out.2.1; rw [List.length_append, List.length_singleton]; omega
              · exact HB03.out.keep (Below.heap_setCell _ _ _ _ (by show w.heap.size ≠ w.heap.size + 1; omega))
              · exact HK3.out.keep fun k hk _ => ⟨Below.heap_setCell _ _ _ _ (by show k ≠ w.heap.size + 1; have := hk.1; omega), hk⟩
            case measure =>
              rw [(HR3.out.set (by omega)).rest, HLs.out.at_.rest]
              exact HLn.out.1
theorem node_all (f : Nat) : NodeC f := by
  induction f using Nat.strongRecOn with
  | ind f ih => exact node_step f (list_step f ih) fun g hg => not_step g (ih g hg)
end Go.Proofs.YtnhbjhdkpbhioaaGreatDoor
namespace Go.Proofs.YtnhbjhdkpbhioaaGreatDoor
open Go.RowKit
structure ReadR (w w' : World) (e : Ending) (r : OutN) : Prop where
  bel : Below w.heap.size w w'
  res : (r.e = 0 ∧ ∃ ao cap, e = .returned (.tuple #[.slice ao r.l.length cap, .nilIface]) ∧ r.l.length ≤ cap ∧ IsNds w' (geB w.heap.size) ao r.l) ∨
    (r.e ≠ 0 ∧ ∃ B, w.heap.size ≤ B ∧ e = .returned (.tuple #[.slice none 0 0, .iface 133 (.pointer (some ⟨B, 0, none⟩))]) ∧ FaultAt w' B r.a r.e)
structure TpAt (R : Nat) (E : OutN) (w wr : World) (f' n : Nat) (l : List Tk) (acc : List Nd) (cs : List Nc) (v : Value) : Prop where
  rd : rdT f' n l acc = E
  len : l.length + 1 ≤ f'
  cnt : n ≤ 4096
  acl : acc.length ≤ n
  at_ : RdAt wr R l n
  tch : Tch R w wr
  own : wr.ownsRow (R + 1) 43 5 v cs.length (ncsC cs)
  kids : NcsIs wr (offB (R + 1) v) cs acc
set_option maxHeartbeats 8000000 in
set_option maxRecDepth 20000 in
theorem read_any (ao : Option Addr) (n cap : Nat) (l : List UInt8) (w : World) (hl : l.length = n) (h : IsB w ao l) (hn : n ≤ 65536) (hc : n ≤ cap) (hm : MaxW w) :
    Calls Tryz.prog 36 #[.slice ao n cap] w fun e w' => ReadR w w' e (readQ l) := by
  obtain ⟨R0, HR0⟩ : ∃ R0, Hid (scanQ l 0 [] = R0) := ⟨_, rfl⟩
  have HQ : Hid (readQ l = if R0.e = 0 then rdT (R0.l.length + 1) 0 R0.l [] else ⟨[], R0.a, R0.e⟩) := readQ_of HR0.out
  rw [HQ.out]
  by_cases he : R0.e = 0
  · rw [if_pos he]
    obtain ⟨E, HE⟩ : ∃ E, Hid (rdT (R0.l.length + 1) 0 R0.l [] = E) := ⟨_, rfl⟩
    rw [HE.out]
    have HSc : Hid (Calls Tryz.prog 75 #[.slice ao n cap] w fun e w' => ScanR w w' e R0) := by rw [← HR0.out]; exact scan_any ao n cap l w hl h hn hc hm
    have HEr : Hid _ := rdT_err (R0.l.length + 1) 0 R0.l [] (Nat.le_refl _) (by omega)
    clear h hl hm HQ HR0
    go_enter Tryz.func36, Tryz.ntmps36
    go_wp2_with fail
    refine HSc.out.mono ?_
    rintro e w1 ⟨hb1, hr1⟩
    rcases hr1 with ⟨_, v, rfl, ho1⟩ | ⟨hx, _⟩
    · obtain ⟨to, tc, hv, ht⟩ := own_toks ho1
      obtain ⟨htc, hto⟩ : R0.l.length ≤ tc ∧ ∀ a, to = some a → a.block < w1.heap.size := by
        have hlt := ho1.lt
        rcases ho1.2 with ⟨e, h0⟩ | ⟨g, cap, cur, e, _, _, hcap, _⟩
        · rw [hv] at e
          injection e with e1 _ e3
          exact ⟨by omega, fun a ha => by rw [e1] at ha; exact absurd ha (by simp)⟩
        · rw [e] at hlt
          rw [hv] at e
          injection e with e1 _ e3
          exact ⟨by omega, fun a ha => by rw [e1] at ha; rw [← Option.some.inj ha]; exact (hlt g rfl).2⟩
      subst hv
      have HB1 : Hid (Below w.heap.size w w1) := hb1
      obtain ⟨L, la, le⟩ := R0
      simp only at he HE HEr ht htc ⊢
      obtain ⟨N, HN⟩ : ∃ N, Hid (L.length = N) := ⟨_, rfl⟩
      have HS : Hid (TpAt w1.heap.size E w1 (w1.alloc (.cells #[.slice to N tc, .int .i64 0] 165)) (N + 1) 0 L [] [] (.slice none 0 0)) := by
        rw [← HN.out]
        have hA : RdAt (w1.alloc (.cells #[.slice to L.length tc, .int .i64 0] 165)) w1.heap.size L 0 := by
          refine ⟨to, tc, ?_, htc, ht.next (alloc_below _ _), hto⟩
          show (w1.heap.push _)[w1.heap.size]? = _
          rw [Array.getElem?_push_size]; rfl
        exact ⟨HE.out, Nat.le_refl _, Nat.zero_le _, Nat.zero_le _, hA, Tch.alloc _ _ _, World.ownsRow_nil _ _ _ _, trivial⟩
      rw [HN.out]
      have hsz : w.heap.size ≤ w1.heap.size := hb1.size
      clear ho1 hb1 ht hto htc HSc HE
      go_wp2
      go_loopw [7] (fun v wr => ∃ (f' n : Nat) (l : List Tk) (acc : List Nd) (cs : List Nc), Hid (TpAt w1.heap.size E w1 wr f' n l acc cs v)) (fun _ wr => restN wr w1.heap.size)
      case atStart => exact ⟨N + 1, 0, L, [], [], HS⟩
      case round =>
        obtain ⟨f', n', l', acc, cs, HI⟩ := hrel
        clear HS
        cases l' with
        | nil =>
          obtain ⟨ao, cap, c0⟩ := HI.out.at_.empty
          have HX2 : Hid (E = ⟨acc, 0, 0⟩) := by
            have h1 := HI.out.rd
            have h2 := HI.out.len
            obtain ⟨g, hg⟩ : ∃ g, f' = g + 1 := ⟨f' - 1, by omega⟩
            rw [hg, rdT_nil] at h1
            exact h1.symm
          obtain ⟨vao, vcap, hv, hvc, hnd⟩ := own_nds (S := geB w.heap.size) HI.out.own (HI.out.kids.keep fun k hk _ => ⟨rfl, by have := hk.1; unfold geB; omega⟩) (fun k hk _ => by unfold geB; omega)
          subst hv
          have HND : Hid (IsNds wr (geB w.heap.size) vao acc) := hnd
          have HT1 : Hid (Below w.heap.size w wr) := HB1.out.trans (HI.out.tch.below hsz hsz)
          clear HI hnd
          go_wp2
          go_ret2
          rw [HX2.out]
          exact ⟨HT1.out, .inl ⟨rfl, _, _, rfl, hvc, HND.out⟩⟩
        | cons t r =>
          obtain ⟨b, o, cap, c0, hbR, c2⟩ := HI.out.at_.first
          have hRr : w1.heap.size < wr.heap.size := HI.out.at_.lt
          obtain ⟨M, HM⟩ : ∃ M, Hid (r.length = M) := ⟨_, rfl⟩
          rw [HM.out] at c0
          obtain ⟨g, hg⟩ : ∃ g, f' = g + 1 := ⟨f' - 1, by have := HI.out.len; omega⟩
          subst hg
          obtain ⟨Q, HQ⟩ : ∃ Q, Hid (rdN g 0 n' (t :: r) = Q) := ⟨_, rfl⟩
          have HCl : Hid (Calls Tryz.prog 76 #[.pointer (some ⟨w1.heap.size, 0, none⟩), .int .i64 0] wr fun e w2 => RdRes w1.heap.size wr w2 e Q ∧ Tch w1.heap.size wr w2) := by
            have h1 := HI.out.len
            have := node_all g w1.heap.size 0 n' (t :: r) wr (by simp) (by omega) HI.out.cnt (by omega) HI.out.at_
            rw [HQ.out] at this
            exact this
          rcases Q with ⟨qa, qe⟩ | ⟨x, m, q⟩
          · have HX2 : Hid (E = ⟨[], qa, qe⟩) := by
              have h1 := HI.out.rd
              rw [rdT_bad _ _ _ _ _ _ _ HQ.out] at h1
              exact h1.symm
            have HNz : Hid (qe ≠ 0) := by
              have := ((rd_errs g).2 0 n' (t :: r) qa qe (by have := HI.out.len; omega) (by simp) HI.out.cnt HQ.out).1
              rw [Hid]; omega
            go_wp2_with fail
            refine HCl.out.mono ?_
            rintro e w2 ⟨⟨B, hB, rfl, hf⟩, ht2⟩
            have HF : Hid (FaultAt w2 B qa qe) := hf
            have HT2 : Hid (Below w.heap.size w w2) := HB1.out.trans ((HI.out.tch.trans ht2).below hsz hsz)
            clear hf ht2 c0 c2 HI HCl
            unfold zeroNd
            go_wp2
            go_ret2
            rw [HX2.out]
            refine ⟨HT2.out.trans (((Below.refl _ _).alloc ?_ _)), .inr ⟨HNz.out, B, by omega, rfl, HF.out.next (alloc_below _ _)⟩⟩
            exact HT2.out.size
          · have HX2 : Hid (rdT g m q (acc ++ [x]) = E) := by
              have h1 := HI.out.rd
              rw [rdT_ok _ _ _ _ _ _ _ _ HQ.out] at h1
              exact h1
            have HLn : Hid _ := rd_len g 0 n' (t :: r) x m q HI.out.cnt HQ.out
            go_wp2_with fail
            refine HCl.out.mono ?_
            rintro e w2 ⟨⟨⟨c, rfl, hc⟩, hr2⟩, ht2⟩
            have HO2 := ht2.own (by omega) HI.out.own
            have HK2 : NcsIs w2 (offB (w1.heap.size + 1) u7) cs acc := HI.out.kids.keep fun k hk hl => ⟨ht2.block k hl (by have := hk.1; omega), hk⟩
            have hov : ∀ k, u7.ownBlock = some k → k < wr.heap.size := fun k hk => (HI.out.own.lt k hk).2
            have HC : Hid (NcIs w2 (offB (w1.heap.size + 1) u7) c x) := hc.keep fun k hk _ => ⟨rfl, by unfold geB at hk; omega, fun e => by have := hov k e; unfold geB at hk; omega⟩
            have hz2 : w1.heap.size + 1 ≤ w2.heap.size := by have := ht2.size; omega
            have HT2 : Hid (Tch w1.heap.size w1 w2) := HI.out.tch.trans ht2
            have HR2 : Hid (RdAt w2 w1.heap.size q m) := hr2
            obtain ⟨ck, ca, ci, css, cao, cn, ccap⟩ := c
            have HLs : Hid (TpAt w1.heap.size E w1 wr (g + 1) n' (t :: r) acc cs u7) := HI
            obtain ⟨i0, hi, hz0, hz1', hz2'⟩ := inN'
            have HOw : Hid (w2.ownsRow (w1.heap.size + 1) 43 5 u7 cs.length (ncsC cs)) := HO2
            have HKw : Hid (NcsIs w2 (offB (w1.heap.size + 1) u7) cs acc) := HK2
            have hcl : cs.length ≤ 4096 := by have := HKw.out.len; have := HI.out.acl; have := HI.out.cnt; omega
            clear c0 c2 HI HCl hc hr2 ht2 HO2 HK2 hov
            unfold nodeV
            simp only
            go_wp2_with (at_builtin; refine wpList_append_lies _ rfl _ _ 41 rfl (w1.heap.size + 1) 43 i0 zeroNd 5 64 Tryz.underlying41 hi hz0 hz1' hz2' rfl (by decide) _ _ _ rfl ((HOw.out.alloc _).alloc _) ⟨w2.heap.size + 1, 0, none⟩ 1 1 [.int .i64 ck, .int .i64 (ca : Int), .int .i64 ci, .string (baL css), .slice cao cn ccap] rfl rfl ?c1 ?c2 (by decide) ?c3 ?c4 ?c5 _ rfl ?_)
            case c1 =>
              intro j u hj
              match j, hj with
              | 0, hj => simp at hj; subst hj; simp [Addr.add]
              | 1, hj => simp at hj; subst hj; simp [Addr.add]
              | 2, hj => simp at hj; subst hj; simp [Addr.add]
              | 3, hj => simp at hj; subst hj; simp [Addr.add]
              | 4, hj => simp at hj; subst hj; simp [Addr.add]
            case c2 => intro u hu; simp at hu; rcases hu with rfl | rfl | rfl | rfl | rfl <;> rfl
            case c3 => unfold maxLen; omega
            case c4 => omega
            case c5 => simp; omega
            intro gk gcap w3 ho hg hv3 hlt3
            have hob : ∀ k, u7.ownBlock = some k → w1.heap.size + 1 ≤ k := fun k hk => (HOw.out.lt k hk).1
            have HO3 : Hid (w3.ownsRow (w1.heap.size + 1) 43 5 (.slice (some ⟨gk, 0, none⟩) (cs.length + 1) gcap) (cs ++ [(⟨ck, ca, ci, css, cao, cn, ccap⟩ : Nc)]).length (ncsC (cs ++ [(⟨ck, ca, ci, css, cao, cn, ccap⟩ : Nc)]))) := by
              rw [← ncs_snoc, Hid, List.length_append]; exact ho
            have HK3 : Hid (NcsIs w3 (offB (w1.heap.size + 1) (.slice (some ⟨gk, 0, none⟩) (cs.length + 1) gcap)) (cs ++ [(⟨ck, ca, ci, css, cao, cn, ccap⟩ : Nc)]) (acc ++ [x])) :=
              ncs_grow ((((NcsIs.snoc HC.out HKw.out).next (alloc_below _ _)).next (alloc_below _ _))) hg hv3 (by simp)
            have hgb : ∀ k, k < w1.heap.size + 1 → w3.heap[k]? = w2.heap[k]? := fun k hk => by
              rw [hg.block k (by simp; omega) (fun e => by have := hob k e.symm; omega), Below.heap_alloc _ _ _ (by simp; omega), Below.heap_alloc _ _ _ (by omega)]
            have HT3 : Hid (Tch w1.heap.size w1 w3) := ((HT2.out.below_of (alloc_below _ _)).below_of (alloc_below _ _)).grown hg fun k hk => by have := hob k hk; omega
            have HR3 : Hid (RdAt w3 w1.heap.size q m) := HR2.out.keep fun k hk => hgb k (by omega)
            clear ho hg hv3 hob hgb
            go_wp2
            go_roundw
            case rel =>
              refine ⟨g, m, q, acc ++ [x], cs ++ [(⟨ck, ca, ci, css, cao, cn, ccap⟩ : Nc)], HX2.out, ?_, HLn.out.2.2.1, ?_, HR3.out, HT3.out, HO3.out, HK3.out⟩
              · have := HLs.out.len; have := HLn.out.1; omega
              · have := HLs.out.acl; have := HLn.out.2.1; rw [List.length_append, List.length_singleton]; omega
            case measure =>
              rw [HR3.out.rest, HLs.out.at_.rest]
              exact HLn.out.1
    · exact absurd he hx
  · rw [if_neg he]
    have HSc : Hid (Calls Tryz.prog 75 #[.slice ao n cap] w fun e w' => (∃ B, w.heap.size ≤ B ∧ e = .returned (.tuple #[.slice none 0 0, .iface 133 (.pointer (some ⟨B, 0, none⟩))]) ∧ FaultAt w' B R0.a R0.e) ∧ Below w.heap.size w w') := by
      refine (scan_any ao n cap l w hl h hn hc hm).mono ?_
      rintro e w1 ⟨hb1, hr1⟩
      rw [HR0.out] at hr1
      rcases hr1 with ⟨hx, _⟩ | ⟨_, B, h1, h2, h3⟩
      · exact absurd hx he
      · exact ⟨⟨B, h1, h2, h3⟩, hb1⟩
    have HNz : Hid (R0.e ≠ 0) := he
    clear h hl hm HQ HR0 he
    go_enter Tryz.func36, Tryz.ntmps36
    go_wp2_with fail
    refine HSc.out.mono ?_
    rintro e w1 ⟨⟨B, hB, rfl, hf⟩, hb1⟩
    have HF : Hid (FaultAt w1 B R0.a R0.e) := hf
    have HB1 : Hid (Below w.heap.size w w1) := hb1
    clear hf hb1 HSc
    go_wp2
    go_ret2
    exact ⟨HB1.out, .inr ⟨HNz.out, B, hB, rfl, HF.out⟩⟩
end Go.Proofs.YtnhbjhdkpbhioaaGreatDoor
