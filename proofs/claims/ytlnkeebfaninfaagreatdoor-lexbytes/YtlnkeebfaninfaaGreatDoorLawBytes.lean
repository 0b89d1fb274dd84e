/- The walk of LexBytes. -/
import Derived.Test.YtlnkeebfaninfaaGreatDoorLexToks
import Derived.Test.YtlnkeebfaninfaaGreatDoorRlexScan
import Derived.Deep.RegionHeld3
namespace Go.Proofs.YtlnkeebfaninfaaGreatDoor
open Go.RowKit

theorem rscan_is (ao : Option Addr) (n cap : Nat) (l : List UInt8) (R : Out) (w : World) (hl : l.length = n) (h : IsB w ao l) (hn : n ≤ 65536) (hc : n ≤ cap) (hs : scanQ l 0 [] = R) :
    Calls Tryz.prog 8 #[.slice ao n cap] w fun e w' => (∃ to tc, e = .returned (.tuple #[.slice to R.l.length tc, .int .i64 (R.a : Int), .int .i64 R.e]) ∧ IsToks w' to R.l) ∧ Below w.heap.size w w' := by
  refine (rscan_any ao n cap l w hl h hn hc).mono ?_
  rintro e w1 ⟨hb1, v, rfl, ho⟩
  rw [hs] at ho ⊢
  obtain ⟨to, tc, rfl, ht⟩ := own_toks ho
  exact ⟨⟨to, tc, rfl, ht⟩, hb1⟩

set_option maxHeartbeats 16000000 in
set_option maxRecDepth 8000 in
theorem bytes_walk (ao : Option Addr) (n cap : Nat) (l : List UInt8) (w : World) (hl : l.length = n) (h : IsB w ao l) (hc : n ≤ cap) (h4 : Lib4 w) :
    Calls Tryz.prog 3 #[.slice ao n cap] w fun e w' => e = .returned (.bool true) ∧ Below w.heap.size w w' := by
  have H4 : Hid (Lib4 w) := h4
  have HI : Hid (IsB w ao l) := h
  have HL : Hid (l.length = n) := hl
  clear h hl h4
  go_enter Tryz.func3, Tryz.ntmps3
  go_wp2_with fail
  refine (known_any w H4.out).mono ?_
  rintro e w1 ⟨rfl, hb1⟩
  have HB1 : Hid (Below w.heap.size w w1) := hb1
  clear hb1
  by_cases hn : 3000 < n
  · have hni : (3000 : Int) < (n : Int) := by omega
    go_wp2
    go_ret
    exact ⟨rfl, HB1.out⟩
  have hni : ¬ (3000 : Int) < (n : Int) := by omega
  obtain ⟨R, HR⟩ : ∃ R, Hid (scanQ l 0 [] = R) := ⟨_, rfl⟩
  have HRl : Hid (R.l.length ≤ 3000) := by have := scanQ_len l; have := HL.out; rw [HR.out] at *; rw [Hid]; omega
  have HWf : Hid (∀ t ∈ R.l, WfT t.k t.i t.s) := by have := scanQ_wf l; rw [HR.out] at this; exact this
  by_cases he : R.e = 0
  · go_wp2_with fail
    refine (scan_yes ao n cap l R _ HL.out (HI.out.next HB1.out) (by omega) hc (H4.out.next HB1.out).max HR.out he).mono ?_
    rintro e w2 ⟨⟨to1, tc1, rfl, ht1⟩, hb2⟩
    have HB2 : Hid (Below w.heap.size w w2) := next_trans HB1.out hb2
    clear hb2
    go_wp2_with fail
    refine (rscan_is ao n cap l R _ HL.out (HI.out.next HB2.out) (by omega) hc HR.out).mono ?_
    rintro e w3 ⟨⟨to2, tc2, rfl, ht2⟩, hb3⟩
    have HB3 : Hid (Below w.heap.size w w3) := next_trans HB2.out hb3
    have HT1 : Hid (IsToks w3 to1 R.l) := ht1.next hb3
    have HT2 : Hid (IsToks w3 to2 R.l) := ht2
    clear ht1 ht2 hb3
    obtain ⟨L, a, f⟩ := R
    simp only at he HRl HWf HT1 HT2 ⊢
    subst he
    obtain ⟨N, HN⟩ : ∃ N, Hid (L.length = N) := ⟨_, rfl⟩
    rw [HN.out] at HRl ⊢
    have hNb := HRl.out
    obtain ⟨B, HB⟩ : ∃ B, Hid (w.heap.size = B) := ⟨_, rfl⟩
    go_wp2
    go_loopw [9] (fun i wr => ∃ k : Nat, k ≤ N ∧ i = .int .i64 k ∧ Hid (Below w3.heap.size w3 wr)) (fun i _ => N - (intOf i).toNat)
    case atStart => exact ⟨0, Nat.zero_le _, rfl, Below.refl _ _⟩
    case round =>
      obtain ⟨k, hk, rfl, HW⟩ := hrel
      have HW0 : Hid (Below w.heap.size w wr) := next_trans HB3.out HW.out
      by_cases hlt : k < N
      · have hli : (k : Int) < (N : Int) := by omega
        have hl0 : (0 : Int) ≤ (k : Int) := by omega
        obtain ⟨t, HG⟩ : ∃ t, Hid (L[k]? = some t) := ⟨_, List.getElem?_eq_getElem (by rw [HN.out]; exact hlt)⟩
        obtain ⟨b1, o1, rfl, c0, c1, c2, c3⟩ := (HT1.out.next HW.out) k t HG.out
        obtain ⟨b2, o2, rfl, e0, e1, e2, e3⟩ := (HT2.out.next HW.out) k t HG.out
        have hwf := HWf.out t (List.mem_of_getElem? HG.out)
        obtain ⟨hs1, hs2⟩ := wf_bd hwf
        have hkd := wf_kind hwf
        have H1 : Hid (∀ w', TabW w' → Calls Tryz.prog 11 #[.agg #[.int .i64 (t.k), .int .i64 ((t.a : Int)), .int .i64 (t.i), .string (baL t.s)]] w' fun e w2 => e = .returned (.string (tokS t.k t.i (baL t.s))) ∧ Below w'.heap.size w' w2) :=
          fun w' h => lex_text t.k _ t.i _ w' hkd (by rw [baL_size]; omega) hs2 h
        have H2 : Hid (∀ w', Calls Tryz.prog 12 #[.agg #[.int .i64 (t.k), .int .i64 ((t.a : Int)), .int .i64 (t.i), .string (baL t.s)]] w' fun e w2 => e = .returned (.string (tokS t.k t.i (baL t.s))) ∧ Below w'.heap.size w' w2) :=
          fun w' => rlex_text t.k _ t.i _ w' hkd (by rw [baL_size]; omega) hs2
        clear hwf hs1 hs2 hkd HG
        obtain ⟨tk, ta, ti, ts⟩ := t
        simp only at c0 c1 c2 c3 e0 e1 e2 e3 H1 H2
        obtain ⟨X, HX⟩ : ∃ X, Hid (tokS tk ti (baL ts) = X) := ⟨_, rfl⟩
        rw [HX.out] at H1 H2
        obtain ⟨Y, HY⟩ : ∃ Y, Hid (baL ts = Y) := ⟨_, rfl⟩
        rw [HY.out] at H1 H2 c3 e3
        obtain ⟨ta', HTa⟩ : ∃ ta' : Int, Hid ((ta : Int) = ta') := ⟨_, rfl⟩
        rw [HTa.out] at H1 H2 c1 e1
        have s0 : Below w3.heap.size w3 wr.drew := HW.out.drew
        have s1 : w3.heap.size ≤ wr.drew.heap.size := s0.size
        have s2 : TabW wr.drew := tab_from H4.out.tab (next_trans HB3.out s0) (Nat.le_refl _)
        go_wp2
        go_region_held3 (fun w' => w'.cell? ⟨b1, o1 + k * 4, none⟩ = some (.int .i64 tk) ∧ w'.cell? ⟨b1, o1 + k * 4 + 1, none⟩ = some (.int .i64 ta') ∧ w'.cell? ⟨b1, o1 + k * 4 + 2, none⟩ = some (.int .i64 ti) ∧ w'.cell? ⟨b1, o1 + k * 4 + 3, none⟩ = some (.string Y) ∧ w'.cell? ⟨b2, o2 + k * 4, none⟩ = some (.int .i64 tk) ∧ w'.cell? ⟨b2, o2 + k * 4 + 1, none⟩ = some (.int .i64 ta') ∧ w'.cell? ⟨b2, o2 + k * 4 + 2, none⟩ = some (.int .i64 ti) ∧ w'.cell? ⟨b2, o2 + k * 4 + 3, none⟩ = some (.string Y) ∧ Below w3.heap.size w3 w' ∧ w3.heap.size ≤ w'.heap.size ∧ TabW w')
          (((try dsimp only); go_split_ands; refine ⟨?_, ?_, ?_, ?_, ?_, ?_, ?_, ?_, ?_, ?_, ?_⟩ <;> first | assumption | exact keep_cell (by assumption) (by assumption) | exact below_next (by assumption) (by assumption) (by assumption) | exact le_next (by assumption) (by assumption) | exact tab_next (by assumption) (by assumption)))
          (first
            | (go_at_call 11; refine (H1.out _ (by assumption)).mono ?_; rintro e w' ⟨rfl, hb⟩)
            | (go_at_call 12; refine (H2.out _).mono ?_; rintro e w' ⟨rfl, hb⟩))
        all_goals
          go_split_ands
          go_wp2
          go_roundw
          case rel => exact ⟨k + 1, by omega, by go_num, by rw [Hid]; assumption⟩
          case measure => simp [intOf]; omega
      · have hli : ¬ (k : Int) < (N : Int) := by omega
        go_wp2
        go_ret
        exact ⟨rfl, HW0.out⟩
  · have hei : (R.e == 0) = false := by simpa using he
    go_wp2_with fail
    refine (scan_fault ao n cap l R _ HL.out (HI.out.next HB1.out) (by omega) hc (H4.out.next HB1.out).max HR.out he).mono ?_
    rintro e w2 ⟨⟨F, rfl, hF2⟩, hb2⟩
    have HB2 : Hid (Below w.heap.size w w2) := next_trans HB1.out hb2
    clear hb2
    go_wp2_with fail
    refine (rscan_is ao n cap l R _ HL.out (HI.out.next HB2.out) (by omega) hc HR.out).mono ?_
    rintro e w3 ⟨⟨to2, tc2, rfl, ht2⟩, hb3⟩
    have HB3 : Hid (Below w.heap.size w w3) := next_trans HB2.out hb3
    have HF3 : Hid (FaultAt w3 F R.a R.e) := hF2.next hb3
    clear ht2 hb3 hF2 he
    obtain ⟨L, a, f⟩ := R
    simp only at hei HF3 ⊢
    clear HR HRl HWf
    obtain ⟨a', HA⟩ : ∃ a' : Int, Hid ((a : Int) = a') := ⟨_, rfl⟩
    rw [HA.out] at HF3 ⊢
    go_wp2_with fail
    have HF4 : Hid (FaultAt (w3.alloc (.cells #[.pointer none] 32)) F a' f) := HF3.out.next (alloc_below _ _)
    have HE : Hid (ErrW (w3.alloc (.cells #[.pointer none] 32))) := (H4.out.next (next_trans HB3.out (alloc_below _ _))).err
    refine (as_hit ⟨F, 0, none⟩ ⟨w3.heap.size, 0, none⟩ (.pointer none) _ HE.out (box0 rfl) ?_).mono ?_
    · simp
    rintro e w4 ⟨rfl, hw4⟩
    have hFl := fault_lt HF3.out
    obtain ⟨HB4, hp4, hf0, hf1, HF5⟩ : Hid (Below w.heap.size w w4) ∧ w4.cell? ⟨w3.heap.size, 0, none⟩ = some (.pointer (some ⟨F, 0, none⟩)) ∧ w4.cell? ⟨F, 0, none⟩ = some (.string ⟨#[99, 104, 97, 114]⟩) ∧ w4.cell? ⟨F, 1, none⟩ = some (.int .i64 a') ∧ Hid (FaultAt w4 F a' f) := by
      subst hw4
      have hFc := HF4.out.cells
      refine ⟨?_, as_self _ _ (.pointer none) _ (box0 rfl), ?_, ?_, ?_⟩
      · exact (next_trans HB3.out (alloc_below _ _)).trans (as_below _ _ _ _ (next_trans HB3.out (alloc_below _ _)).size HB3.out.size)
      · rw [as_cell _ _ _ _ (by simp; omega) (by simp; omega)]; exact hFc.1
      · rw [as_cell _ _ _ _ (by simp; omega) (by simp; omega)]; exact hFc.2.1
      · have := HF4.out
        unfold FaultAt at this ⊢
        rw [Hid, ← this]
        unfold asW
        rw [Below.heap_setCell _ _ _ _ (by simp; omega), Below.heap_alloc _ _ _ (by simp; omega), Below.heap_alloc _ _ _ (by simp; omega), Below.heap_alloc _ _ _ (by simp; omega), Below.heap_alloc _ _ _ (by simp; omega)]
    clear hw4 hFl
    go_wp2_with (go_at_call 10; refine (is_hit F a' f _ HF5.out).mono ?_; rintro e w5 ⟨rfl, rfl⟩)
    go_ret
    exact ⟨rfl, HB4.out⟩
end Go.Proofs.YtlnkeebfaninfaaGreatDoor
