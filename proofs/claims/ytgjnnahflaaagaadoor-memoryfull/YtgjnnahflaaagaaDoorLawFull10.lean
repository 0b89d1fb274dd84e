/- The walk of the law MemoryFull. -/
import Derived.Test.YtgjnnahflaaagaaDoorFullM
namespace Go.Proofs.YtgjnnahflaaagaaDoor
open Go.RowKit Go.Maps

set_option maxHeartbeats 16000000 in
set_option maxRecDepth 8000 in
theorem full_walk (over gone : Int) (w : World) (_ho : inB over = true) (_hg : inB gone = true) (ht : TabW w) : Calls Tryd.prog 4 #[.int .i64 over, .int .i64 gone] w fun e w' => e = .returned (.bool true) ∧ Below w.heap.size w w' := by
  have hk := known_yes w ht
  by_cases h1 : over < 1
  · have d1 : decide (over < 1) = true := decide_eq_true h1
    go_enter Tryd.func4, Tryd.ntmps4
    go_wp2_with (go_at_call 7; refine hk.mono ?_; rintro e w0 ⟨rfl, hb0⟩)
    go_ret
    exact ⟨rfl, hb0⟩
  have d1 : decide (over < 1) = false := decide_eq_false h1
  by_cases h2 : 20 < over
  · have d2 : decide (20 < over) = true := decide_eq_true h2
    go_enter Tryd.func4, Tryd.ntmps4
    go_wp2_with (go_at_call 7; refine hk.mono ?_; rintro e w0 ⟨rfl, hb0⟩)
    go_ret
    exact ⟨rfl, hb0⟩
  have d2 : decide (20 < over) = false := decide_eq_false h2
  by_cases h3 : gone < 1
  · have d3 : decide (gone < 1) = true := decide_eq_true h3
    go_enter Tryd.func4, Tryd.ntmps4
    go_wp2_with (go_at_call 7; refine hk.mono ?_; rintro e w0 ⟨rfl, hb0⟩)
    go_ret
    exact ⟨rfl, hb0⟩
  have d3 : decide (gone < 1) = false := decide_eq_false h3
  by_cases h4 : 1000 < gone
  · have d4 : decide (1000 < gone) = true := decide_eq_true h4
    go_enter Tryd.func4, Tryd.ntmps4
    go_wp2_with (go_at_call 7; refine hk.mono ?_; rintro e w0 ⟨rfl, hb0⟩)
    go_ret
    exact ⟨rfl, hb0⟩
  have d4 : decide (1000 < gone) = false := decide_eq_false h4
  obtain ⟨ov, rfl⟩ : ∃ ov : Nat, over = (ov : Int) := ⟨over.toNat, by omega⟩
  obtain ⟨x, rfl⟩ : ∃ x : Nat, gone = (x : Int) := ⟨gone.toNat, by omega⟩
  have hov : ov ≤ 20 := by omega
  have hx : 1 ≤ x ∧ x ≤ 1000 := by omega
  clear h1 h2 h3 h4
  go_enter Tryd.func4, Tryd.ntmps4
  go_wp2_with fail
  refine hk.mono ?_
  rintro e w0 ⟨rfl, hb0⟩
  have hnew := lw_new w w0 hb0 ht
  clear hb0 hk
  go_wp2_with fail
  refine hnew.mono ?_
  rintro e w1 ⟨b, v1, m1, rfl, H1, _⟩
  clear hnew
  have HL1 : Hid (LW w w1 b v1 m1 0 []) := H1
  clear H1
  go_wp2_with fail
  go_loopw [6] (fun i wr => ∃ (k : Nat) (v m : Value) (F : List Ft), k ≤ 1000 ∧ i = .int .i64 ((k + 1 : Nat) : Int) ∧ Hid (LW w wr b v m k F) ∧ Hid (FullP F k)) (fun i _ => 1001 - (intOf i).toNat)
  case atStart => exact ⟨0, v1, m1, [], Nat.zero_le _, rfl, HL1, full_nil⟩
  case round =>
    obtain ⟨k, v, m, F, hk, rfl, HL, HF⟩ := hrel
    clear HL1
    obtain ⟨q, hq⟩ : ∃ q, k + 1 = q := ⟨_, rfl⟩
    have HQ : Hid (k + 1 = q) := hq
    by_cases hlt : q ≤ 1000
    · rw [hq]
      have hki : (q : Int) ≤ 1000 := by omega
      clear hq
      go_wp2_with fail
      refine (rint_any (q : Int) _).mono ?_
      rintro e w2 ⟨rfl, hb2⟩
      obtain ⟨H3, A3⟩ := (HL.out.next hb2).lit ⟨#[116]⟩ (q : Int) (by rw [inB_iff]; omega) (by decide)
      have h3 := H3.assert_new A3 (full_no HF.out (.inr (by have := HQ.out; omega))) (by rw [HF.out.1]; have := HQ.out; omega) (by have := HQ.out; omega)
      have HF2 : Hid (∀ a c, FullP (F ++ [⟨k + 1, ⟨#[116]⟩, [⟨1, (q : Int), ⟨#[]⟩⟩], a, c⟩]) (k + 1)) := by
        intro a c
        rw [← HQ.out]
        exact full_snoc HF.out a c
      rw [HQ.out] at h3 HF2
      clear hb2 A3 H3 HL HF
      go_wp2_with fail
      refine h3.mono ?_
      rintro e w4 ⟨rfl, v4, m4, a4, c4, H4, _, _⟩
      have HL4 : Hid (LW w w4 b v4 m4 q (F ++ [⟨q, ⟨#[116]⟩, [⟨1, (q : Int), ⟨#[]⟩⟩], a4, c4⟩])) := H4
      clear h3 H4
      go_wp2_with fail
      go_roundw
      case rel => exact ⟨q, v4, m4, _, by omega, by go_num, HL4, HF2.out a4 c4⟩
      case measure => simp [intOf]; omega
    · obtain rfl : k = 1000 := by omega
      subst hq
      clear hlt hk
      go_wp2_with fail
      go_loopw [10] (fun i wr => ∃ (k : Nat) (v m : Value), k ≤ ov ∧ i = .int .i64 k ∧ Hid (LW w wr b v m 1000 F)) (fun i _ => ov - (intOf i).toNat)
      case atStart => exact ⟨0, v, m, Nat.zero_le _, rfl, HL⟩
      case round =>
        obtain ⟨k, v, m, hk, rfl, HL⟩ := hrel
        by_cases hlt : k < ov
        · have hki : (k : Int) < (ov : Int) := by omega
          go_wp2_with fail
          refine (rint_any (2000 + (k : Int)) _).mono ?_
          rintro e w2 ⟨rfl, hb2⟩
          obtain ⟨H3, A3⟩ := (HL.out.next hb2).lit ⟨#[116]⟩ (2000 + (k : Int)) (by rw [inB_iff]; omega) (by decide)
          have h3 := H3.assert_full A3 (full_no HF.out (.inr (by omega))) HF.out.1
          clear hb2 A3 H3 HL
          go_wp2_with fail
          refine h3.mono ?_
          rintro e w4 ⟨rfl, H4, _⟩
          have HL4 : Hid (LW w w4 b v m 1000 F) := H4
          clear h3 H4
          go_wp2_with fail
          go_roundw
          case rel => exact ⟨k + 1, v, m, by omega, by go_num, HL4⟩
          case measure => simp [intOf]; omega
        · have hki : ¬ (k : Int) < (ov : Int) := by omega
          obtain ⟨f, hf1, hf2, hf3⟩ := full_yes HF.out HL.out.mem.good hx.1 hx.2
          have HFa : Hid (F[x - 1]? = some f ∧ f.id = x ∧ idOf F (keyB ⟨#[116]⟩ [⟨1, (x : Int), ⟨#[]⟩⟩]) = x) := ⟨hf1, hf2, hf3⟩
          clear hf1 hf2 hf3
          go_wp2_with fail
          refine (rint_any (x : Int) _).mono ?_
          rintro e w2 ⟨rfl, hb2⟩
          obtain ⟨H3, A3⟩ := (HL.out.next hb2).lit ⟨#[116]⟩ (x : Int) (by rw [inB_iff]; omega) (by decide)
          have h3 := H3.assert_has A3 x HFa.out.2.2 (by omega)
          clear hb2 A3 H3 HL
          go_wp2_with fail
          refine h3.mono ?_
          rintro e w4 ⟨rfl, H4, _⟩
          have h4 := H4.retract_yes HFa.out.1 (x : Int) (by rw [HFa.out.2.1])
          have HG : Hid (Good F 1000) := H4.mem.good
          clear h3 H4
          go_wp2_with fail
          refine h4.mono ?_
          rintro e w5 ⟨rfl, v5, H5, _, _⟩
          have HL5 : Hid (LW w w5 b v5 m 1000 (F.eraseIdx (x - 1))) := H5
          clear h4 H5
          go_wp2_with fail
          refine (rint_any 0 _).mono ?_
          rintro e w6 ⟨rfl, hb6⟩
          obtain ⟨H6, A6⟩ := (HL5.out.next hb6).lit ⟨#[116]⟩ 0 (by decide) (by decide)
          have hln : (F.eraseIdx (x - 1)).length = 999 := by
            rw [List.length_eraseIdx, HF.out.1, if_pos (by omega)]
          have h6 := H6.assert_new A6 (full_gone HF.out HG.out HFa.out.1) (by rw [hln]; omega) (by omega)
          have HLn : Hid ((F.eraseIdx (x - 1)).length = 999) := hln
          clear hb6 A6 H6 HL5 hln
          go_wp2_with fail
          refine h6.mono ?_
          rintro e w7 ⟨rfl, v7, m7, a7, c7, H7, _, _⟩
          have h7 := H7.len_is 1000 (by rw [List.length_append, HLn.out]; rfl)
          have HB7 : Hid (Below w.heap.size w w7) := H7.bel
          clear h6 H7
          go_wp2_with (go_at_call 19; refine h7.mono ?_; rintro e w7 ⟨rfl, rfl⟩)
          go_ret
          exact ⟨rfl, HB7.out⟩
end Go.Proofs.YtgjnnahflaaagaaDoor
