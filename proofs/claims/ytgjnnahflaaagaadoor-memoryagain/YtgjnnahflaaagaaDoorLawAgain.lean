/- The walk of the law MemoryAgain. -/
import Derived.Test.YtgjnnahflaaagaaDoorWmKnown
namespace Go.Proofs.YtgjnnahflaaagaaDoor
open Go.RowKit Go.Maps

set_option maxHeartbeats 8000000 in
set_option maxRecDepth 8000 in
theorem again_walk (n : Int) (w : World) (hn : 0 ≤ n ∧ n < 256) (ht : TabW w) : Calls Tryd.prog 6 #[.int .u8 n] w fun e w' => e = .returned (.bool true) ∧ Below w.heap.size w w' := by
  obtain ⟨h0, h1⟩ := hn
  obtain ⟨K, hK⟩ : ∃ K : Nat, n % 100 = (K : Int) := ⟨(n % 100).toNat, by omega⟩
  have hKb : K ≤ 99 := by omega
  go_enter Tryd.func6, Tryd.ntmps6
  go_wp2_with fail
  refine (known_yes w ht).mono ?_
  rintro e w0 ⟨rfl, hb0⟩
  have hnew := lw_new w w0 hb0 ht
  clear hb0
  go_wp2_with fail
  refine hnew.mono ?_
  rintro e w1 ⟨b, v1, m1, rfl, H1, _⟩
  clear hnew
  have HL1 : Hid (LW w w1 b v1 m1 0 []) := H1
  clear H1
  go_wp2_with fail
  go_loopw [4] (fun i wr => ∃ (k : Nat) (v m : Value), k ≤ K ∧ i = .int .i64 ((k + 1 : Nat) : Int) ∧ Hid (LW w wr b v m k [])) (fun i _ => K + 1 - (intOf i).toNat)
  case atStart => exact ⟨0, v1, m1, Nat.zero_le _, rfl, HL1⟩
  case round =>
    obtain ⟨k, v, m, hk, rfl, HL⟩ := hrel
    clear HL1
    by_cases hlt : k + 1 ≤ K
    · obtain ⟨q, hq⟩ : ∃ q, k + 1 = q := ⟨_, rfl⟩
      have HQ : Hid (k + 1 = q) := hq
      rw [hq]
      have hki : (q : Int) ≤ (K : Int) := by omega
      have hqb : q ≤ 99 := by omega
      clear hq
      go_wp2_with fail
      refine (rint_any 1 _).mono ?_
      rintro e w2 ⟨rfl, hb2⟩
      obtain ⟨H3, A3⟩ := (HL.out.next hb2).lit ⟨#[116]⟩ 1 (by decide) (by decide)
      have h3 := H3.assert_new A3 rfl (by simp) (by omega)
      rw [HQ.out] at h3
      clear hb2 A3 H3 HL
      go_wp2_with fail
      refine h3.mono ?_
      rintro e w4 ⟨rfl, v4, m4, a4, c4, H4, _, _⟩
      clear h3
      have hnx := H4.next_is (q + 1) rfl
      have hry := H4.retract_yes (p := 0) rfl (q : Int) rfl
      have HH4 : Hid (TabW w) := H4.tab
      clear H4
      go_wp2_with (first
        | (go_at_call 20; refine hnx.mono ?_; rintro e w4 ⟨rfl, rfl⟩)
        | (go_at_call 13; refine hry.mono ?_; rintro e w5 ⟨rfl, v5, H5, _, _⟩; have hrn := H5.retract_no (q : Int) (by intro f hf; simp at hf))
        | (go_at_call 13; refine hrn.mono ?_; rintro e w6 ⟨rfl, H6, _⟩))
      have HL6 : Hid (LW w w6 b v5 m4 q []) := H6
      clear H5 H6 hnx hry hrn
      go_roundw
      case rel => exact ⟨q, v5, m4, by omega, by go_num, HL6⟩
      case measure => simp [intOf]; omega
    · have hki : ¬ ((k + 1 : Nat) : Int) ≤ (K : Int) := by omega
      have hki2 : ¬ ((k : Int) + 1) ≤ (K : Int) := by omega
      have hln := HL.out.len_is 0 rfl
      go_wp2_with (go_at_call 19; refine hln.mono ?_; rintro e w4 ⟨rfl, rfl⟩)
      go_ret
      exact ⟨rfl, HL.out.bel⟩
end Go.Proofs.YtgjnnahflaaagaaDoor
