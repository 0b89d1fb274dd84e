/- The contracts of the reference's Sub, Div and Mod. -/
import Derived.Test.YtfglmfldpmpofaaDoorNumOps
import Derived.Test.YtfglmfldpmpofaaDoorRefMul
namespace Go.Proofs.YtfglmfldpmpofaaDoor
open Go.RowKit

theorem rsub_any (a b : Int) (w : World) (ha : inB a = true) (hb : inB b = true) :
    Calls Tryd.prog 56 #[.int .i64 a, .int .i64 b] w fun e w' => e = .returned (.tuple #[.int .i64 (resV (a - b)), .int .i64 (resE (a - b))]) ∧ w' = w := by
  rw [inB_iff] at ha hb
  obtain ⟨ha1, ha2⟩ := ha
  obtain ⟨hb1, hb2⟩ := hb
  by_cases c : b < 0
  · by_cases c2 : 9223372036854775807 + b < a
    · have h : inB (a - b) = false := by rw [inB_not]; omega
      rw [resV_out h, resE_out h]; clear h
      go_enter Tryd.func56, Tryd.ntmps56
      go_wp2
      go_ret2
      exact ⟨rfl, rfl⟩
    · have h : inB (a - b) = true := by rw [inB_iff]; omega
      rw [resV_in h, resE_in h]; clear h
      go_enter Tryd.func56, Tryd.ntmps56
      go_wp2
      go_ret2
      exact ⟨rfl, rfl⟩
  · by_cases d : 0 < b
    · by_cases c2 : a < -9223372036854775808 + b
      · have h : inB (a - b) = false := by rw [inB_not]; omega
        rw [resV_out h, resE_out h]; clear h
        go_enter Tryd.func56, Tryd.ntmps56
        go_wp2
        go_ret2
        exact ⟨rfl, rfl⟩
      · have h : inB (a - b) = true := by rw [inB_iff]; omega
        rw [resV_in h, resE_in h]; clear h
        go_enter Tryd.func56, Tryd.ntmps56
        go_wp2
        go_ret2
        exact ⟨rfl, rfl⟩
    · have h : inB (a - b) = true := by rw [inB_iff]; omega
      rw [resV_in h, resE_in h]; clear h
      go_enter Tryd.func56, Tryd.ntmps56
      go_wp2
      go_ret2
      exact ⟨rfl, rfl⟩

theorem rdiv_any (a b : Int) (w : World) (ha : inB a = true) :
    Calls Tryd.prog 54 #[.int .i64 a, .int .i64 b] w fun e w' => e = .returned (.tuple #[.int .i64 (divV a b), .int .i64 (divE a b)]) ∧ w' = w := by
  rw [inB_iff] at ha
  by_cases b0 : b = 0
  · subst b0
    rw [divV_no (Or.inl rfl), divE_no (Or.inl rfl)]
    go_enter Tryd.func54, Tryd.ntmps54
    go_wp2
    go_ret2
    exact ⟨rfl, rfl⟩
  have hb0 : (b == 0) = false := by simpa using b0
  cases hl : least1 a b
  · rw [divV_yes b0 hl, divE_yes b0 hl]
    have hq := tdiv_bd a b b0 ha.1 ha.2 (least1_no hl)
    have hn := least1_no hl
    have q1 := hq.1
    have q2 := hq.2
    clear hq ha hl
    by_cases h1 : a = -9223372036854775808
    · have h2 : (b == -1) = false := by simp; intro h2; exact hn ⟨h1, h2⟩
      subst h1
      have E : Hid (wrap64 (-Int.tdiv 9223372036854775808 b) = Int.tdiv (-9223372036854775808) b) := by rw [Hid, ← Int.neg_tdiv]; exact IntWalk.wrap64_in _ ⟨q1, q2⟩
      clear hn q1 q2
      go_enter Tryd.func54, Tryd.ntmps54
      go_wp2
      go_ret2
      exact ⟨ret_two E.out, rfl⟩
    · have h1 : (a == -9223372036854775808) = false := by simpa using h1
      clear hn
      go_enter Tryd.func54, Tryd.ntmps54
      go_wp2
      go_ret2
      exact ⟨rfl, rfl⟩
  · rw [divV_no (Or.inr hl), divE_no (Or.inr hl)]
    obtain ⟨rfl, rfl⟩ := least1_yes hl
    clear ha hl
    go_enter Tryd.func54, Tryd.ntmps54
    go_wp2
    go_ret2
    exact ⟨rfl, rfl⟩

theorem rmod_any (a b : Int) (w : World) (ha : inB a = true) :
    Calls Tryd.prog 55 #[.int .i64 a, .int .i64 b] w fun e w' => e = .returned (.tuple #[.int .i64 (modV a b), .int .i64 (modE b)]) ∧ w' = w := by
  rw [inB_iff] at ha
  by_cases b0 : b = 0
  · subst b0
    rw [modV_no, modE_no]
    go_enter Tryd.func55, Tryd.ntmps55
    go_wp2
    go_ret2
    exact ⟨rfl, rfl⟩
  have hb0 : (b == 0) = false := by simpa using b0
  rw [modV_yes b0, modE_yes b0]
  by_cases b1 : b = -1
  · subst b1
    have e : a.tmod (-1) = 0 := by rw [Int.tmod_neg, Int.tmod_one]
    rw [e]; clear e
    go_enter Tryd.func55, Tryd.ntmps55
    go_wp2
    go_ret2
    exact ⟨rfl, rfl⟩
  have hb1 : (b == -1) = false := by simpa using b1
  have hq := tmod_bd a b ha.1 ha.2
  have q1 := hq.1
  have q2 := hq.2
  clear hq ha
  go_enter Tryd.func55, Tryd.ntmps55
  go_wp2
  go_ret2
  exact ⟨rfl, rfl⟩

end Go.Proofs.YtfglmfldpmpofaaDoor
