/- Contracts of both Names, of the reference's Known, Fits and Plain. -/
import Derived.Test.YtfglmfldpmpofaaDoorBtApply
namespace Go.Proofs.YtfglmfldpmpofaaDoor
open Go.RowKit

/-- The names lie in a block. -/
def NamesAt (w : World) (b : Nat) : Prop := ∀ j, j < 21 → w.cell? ⟨b, j, none⟩ = some (.string (nameAt j))
theorem NamesAt.next {w w' : World} {b : Nat} (h : NamesAt w b) (hb : Below w.heap.size w w') : NamesAt w' b := fun j hj => keep_cell hb (h j hj)
theorem lt21 {j : Nat} (h : j < 21) : j = 0 ∨ j = 1 ∨ j = 2 ∨ j = 3 ∨ j = 4 ∨ j = 5 ∨ j = 6 ∨ j = 7 ∨ j = 8 ∨ j = 9 ∨ j = 10 ∨ j = 11 ∨ j = 12 ∨ j = 13 ∨ j = 14 ∨ j = 15 ∨ j = 16 ∨ j = 17 ∨ j = 18 ∨ j = 19 ∨ j = 20 := by omega
theorem names_made (w : World) (b : Nat) (hb : b = w.heap.size) : NamesAt (w.alloc (.cells #[.string ⟨#[42]⟩, .string ⟨#[43]⟩, .string ⟨#[45]⟩, .string ⟨#[60]⟩, .string ⟨#[60, 61]⟩, .string ⟨#[60, 62]⟩, .string ⟨#[61]⟩, .string ⟨#[62]⟩, .string ⟨#[62, 61]⟩, .string ⟨#[97, 98, 115]⟩, .string ⟨#[100, 105, 118]⟩, .string ⟨#[101, 113]⟩, .string ⟨#[108, 101, 110, 103, 116, 104]⟩, .string ⟨#[109, 97, 120]⟩, .string ⟨#[109, 105, 110]⟩, .string ⟨#[109, 111, 100]⟩, .string ⟨#[110, 101, 113]⟩, .string ⟨#[110, 111, 116]⟩, .string ⟨#[115, 116, 114, 45, 99, 97, 116]⟩, .string ⟨#[115, 121, 109, 45, 99, 97, 116]⟩, .string ⟨#[116, 121, 112, 101]⟩] 9)) b := by
  intro j hj
  refine box_cell hb ?_
  rcases lt21 hj with rfl | rfl | rfl | rfl | rfl | rfl | rfl | rfl | rfl | rfl | rfl | rfl | rfl | rfl | rfl | rfl | rfl | rfl | rfl | rfl | rfl
  all_goals rfl
theorem code_at {j : Nat} (h : j < 21) : code (nameAt j) = j := by
  rcases lt21 h with rfl | rfl | rfl | rfl | rfl | rfl | rfl | rfl | rfl | rfl | rfl | rfl | rfl | rfl | rfl | rfl | rfl | rfl | rfl | rfl | rfl
  all_goals decide
set_option maxRecDepth 4000 in
theorem names_any (w : World) :
    Calls Tryd.prog 18 #[] w fun e w' => e = .returned (.slice (some ⟨w.heap.size, 0, none⟩) 21 21) ∧ NamesAt w' w.heap.size ∧ Below w.heap.size w w' := by
  go_enter Tryd.func18, Tryd.ntmps18
  go_wp2
  go_ret
  exact ⟨rfl, names_made w _ rfl, alloc_below' _ _⟩
set_option maxRecDepth 4000 in
theorem rnames_any (w : World) :
    Calls Tryd.prog 19 #[] w fun e w' => e = .returned (.slice (some ⟨w.heap.size, 0, none⟩) 21 21) ∧ NamesAt w' w.heap.size ∧ Below w.heap.size w w' := by
  go_enter Tryd.func19, Tryd.ntmps19
  go_wp2
  go_ret
  exact ⟨rfl, names_made w _ rfl, alloc_below' _ _⟩
theorem known_found {s : ByteArray} {j : Nat} (h : j < 21) (e : nameAt j = s) : knownB s = true := by
  refine known_is ?_
  rw [← e, code_at h]
  omega
theorem known_lost {s : ByteArray} (h : ∀ j, j < 21 → nameAt j ≠ s) : knownB s = false := by
  refine known_not ?_
  by_cases c : code s = 21
  · exact c
  · obtain ⟨h1, h2⟩ := code_lt c
    exact absurd h1.symm (h _ h2)
set_option maxHeartbeats 1000000 in
set_option maxRecDepth 4000 in
theorem rknown_any (s : ByteArray) (r : Bool) (w : World) (hr : knownB s = r) :
    Calls Tryd.prog 17 #[.string s] w fun e w' => e = .returned (.bool r) ∧ Below w.heap.size w w' := by
  have HR : Hid (knownB s = r) := hr
  obtain ⟨B, HB⟩ : ∃ B, Hid (w.heap.size = B) := ⟨_, rfl⟩
  clear hr
  go_enter Tryd.func17, Tryd.ntmps17
  go_wp2_with fail
  refine (rnames_any _).mono ?_
  rintro e w1 ⟨rfl, hn, hb1⟩
  have HN : Hid (NamesAt w1 B) := by rw [← HB.out]; exact hn
  have b1 : Hid (Below w.heap.size w w1) := hb1
  clear hn hb1
  rw [HB.out]
  go_wp2
  go_loop [4] (fun i => ∃ k : Nat, k ≤ 21 ∧ i = .int .i64 k ∧ Hid (∀ j, j < k → nameAt j ≠ s)) (fun i => 21 - (intOf i).toNat)
  case atStart => exact ⟨0, Nat.zero_le _, rfl, fun j hj => absurd hj (Nat.not_lt_zero _)⟩
  case round =>
    obtain ⟨k, hk, rfl, HA⟩ := hrel
    by_cases hlt : k < 21
    · have hki : (k : Int) < 21 := by omega
      obtain ⟨X, HX⟩ : ∃ X, Hid (nameAt k = X) := ⟨_, rfl⟩
      have hc := HN.out k hlt
      rw [HX.out] at hc
      by_cases he : X = s
      · have HE : Hid (true = r) := by rw [Hid, ← HR.out, known_found hlt (HX.out.trans he)]
        have d : (X.toList == s.toList) = true := by rw [beq_ba]; exact decide_eq_true he
        clear he
        go_wp2
        go_ret
        exact ⟨ret_b HE.out, b1.out⟩
      · have d : (X.toList == s.toList) = false := by rw [beq_ba]; exact decide_eq_false he
        have HA2 : Hid (∀ j, j < k + 1 → nameAt j ≠ s) := by
          intro j hj
          by_cases e : j = k
          · subst e; rw [HX.out]; exact he
          · exact HA.out j (by omega)
        clear he
        go_wp2
        go_round
        case rel => exact ⟨k + 1, by omega, by go_num, HA2⟩
        case measure => simp [intOf]; omega
    · have hki : ¬ (k : Int) < 21 := by omega
      have HE : Hid (false = r) := by rw [Hid, ← HR.out, known_lost (fun j hj => HA.out j (by omega))]
      go_wp2
      go_ret
      exact ⟨ret_b HE.out, b1.out⟩

set_option maxRecDepth 4000 in
theorem fits6_any (s : ByteArray) (n : Nat) (r : Bool) (w : World) (hr : fitC (code s) n = r) :
    Calls Tryd.prog 28 #[.string s, .int .i64 (n : Int)] w fun e w' => e = .returned (.bool r) ∧ w' = w := by
  obtain ⟨lo, HL⟩ : ∃ lo, Hid (loC (code s) = lo) := ⟨_, rfl⟩
  obtain ⟨hi, HH⟩ : ∃ hi, Hid (hiC (code s) = hi) := ⟨_, rfl⟩
  rw [fit_is _ _ lo hi HL.out HH.out] at hr
  by_cases h1 : lo ≤ (n : Int)
  · by_cases h2 : hi < 0
    · have HE : Hid (true = r) := by rw [← hr, Hid, decide_eq_true ⟨h1, .inl h2⟩]
      clear hr
      go_enter Tryd.func28, Tryd.ntmps28
      go_wp2_with (go_at_call 14; refine (rarity_any s lo hi _ HL.out HH.out).mono ?_; rintro e w1 ⟨rfl, rfl⟩)
      go_ret
      exact ⟨ret_b HE.out, rfl⟩
    · by_cases h3 : (n : Int) ≤ hi
      · have HE : Hid (true = r) := by rw [← hr, Hid, decide_eq_true ⟨h1, .inr h3⟩]
        clear hr
        go_enter Tryd.func28, Tryd.ntmps28
        go_wp2_with (go_at_call 14; refine (rarity_any s lo hi _ HL.out HH.out).mono ?_; rintro e w1 ⟨rfl, rfl⟩)
        go_ret
        exact ⟨ret_b HE.out, rfl⟩
      · have HE : Hid (false = r) := by rw [← hr, Hid, decide_eq_false (fun h => by omega)]
        have d3 : decide ((n : Int) ≤ hi) = false := decide_eq_false h3
        have d2 : decide (hi < 0) = false := decide_eq_false h2
        clear hr h3 h2
        go_enter Tryd.func28, Tryd.ntmps28
        go_wp2_with (go_at_call 14; refine (rarity_any s lo hi _ HL.out HH.out).mono ?_; rintro e w1 ⟨rfl, rfl⟩)
        go_ret
        exact ⟨ret_b HE.out, rfl⟩
  · have HE : Hid (false = r) := by rw [← hr, Hid, decide_eq_false (fun h => h1 h.1)]
    have d1 : decide (lo ≤ (n : Int)) = false := decide_eq_false h1
    clear hr h1
    go_enter Tryd.func28, Tryd.ntmps28
    go_wp2_with (go_at_call 14; refine (rarity_any s lo hi _ HL.out HH.out).mono ?_; rintro e w1 ⟨rfl, rfl⟩)
    go_ret
    exact ⟨ret_b HE.out, rfl⟩

theorem rplain_text {k i : Int} {s : ByteArray} (h3 : k ≠ 3) (hk : k = 1 ∨ k = 2 ∨ k = 3) : rtextS k i s = ⟨(plainL ⟨k, i, s⟩).toArray⟩ := by
  rcases hk with rfl | rfl | rfl
  · rfl
  · rfl
  · exact absurd rfl h3
set_option maxRecDepth 4000 in
theorem rplain_any (k i : Int) (s X : ByteArray) (w : World) (hk : k = 1 ∨ k = 2 ∨ k = 3) (hs : s.size ≤ 1000) (hi : inB i = true) (hX : X = ⟨(plainL ⟨k, i, s⟩).toArray⟩) :
    Calls Tryd.prog 22 #[.agg #[.int .i64 (k), .int .i64 (i), .string (s)]] w fun e w' => e = .returned (.string X) ∧ Below w.heap.size w w' := by
  by_cases h3 : k = 3
  · subst h3
    rw [hX, plain_3]
    clear hX hk hi
    go_enter Tryd.func22, Tryd.ntmps22
    go_wp2
    go_ret
    exact ⟨rfl, alloc_below' _ _⟩
  · rw [hX, ← rplain_text h3 hk]
    have d3 : (k == 3) = false := by simpa using h3
    have HI : Hid (inB i = true) := hi
    clear hX h3 hk hi
    go_enter Tryd.func22, Tryd.ntmps22
    go_wp2_with fail
    refine (rtext_val k i s _ (by omega) HI.out).mono ?_
    rintro e w1 ⟨rfl, hb⟩
    go_wp2
    go_ret
    exact ⟨rfl, next_trans' (alloc_below' _ _) hb⟩
end Go.Proofs.YtfglmfldpmpofaaDoor
