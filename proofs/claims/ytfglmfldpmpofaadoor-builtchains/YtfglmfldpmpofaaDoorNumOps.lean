/- Contracts of package num's Add, Sub, Mul, Div and Mod, and of the reference's: what they answer at any two int64 numbers. -/
import Derived.Test.YtfglmfldpmpofaaDoorProg
import Derived.Test.YtfglmfldpmpofaaDoorNumMath
import Derived.WalkLawsBesides
import Derived.WalkSpells
import Derived.Outline
namespace Go.Proofs.YtfglmfldpmpofaaDoor
open Go.RowKit

theorem add_in (a b : Int) (w : World) (ha : inB a = true) (hb : inB b = true) (h : inB (a + b) = true) :
    Calls Tryd.prog 65 #[.int .i64 a, .int .i64 b] w fun e w' => e = .returned (.tuple #[.int .i64 (a + b), .int .i64 0]) ∧ w' = w := by
  rw [inB_iff] at ha hb h
  obtain ⟨ha1, ha2⟩ := ha
  obtain ⟨hb1, hb2⟩ := hb
  obtain ⟨h1, h2⟩ := h
  by_cases c : b < 0
  · have c2 : a + b < a := by omega
    go_enter Tryd.func65, Tryd.ntmps65
    go_wp2
    go_ret2
    exact ⟨rfl, rfl⟩
  · have c2 : ¬ a + b < a := by omega
    go_enter Tryd.func65, Tryd.ntmps65
    go_wp2
    go_ret2
    exact ⟨rfl, rfl⟩

theorem add_out (a b : Int) (w : World) (ha : inB a = true) (hb : inB b = true) (h : inB (a + b) = false) :
    Calls Tryd.prog 65 #[.int .i64 a, .int .i64 b] w fun e w' => e = .returned (.tuple #[.int .i64 0, .int .i64 11]) ∧ w' = w := by
  rw [inB_iff] at ha hb
  rw [inB_not] at h
  have hx : (¬ b < 0 ∧ wrap64 (a + b) < a) ∨ (b < 0 ∧ ¬ wrap64 (a + b) < a) := by
    rcases h with h | h
    · right; rw [wrap_lo _ h (by omega)]; omega
    · left; rw [wrap_hi _ h (by omega)]; omega
  clear ha hb h
  rcases hx with ⟨c, c2⟩ | ⟨c, c2⟩
  · go_enter Tryd.func65, Tryd.ntmps65
    go_wp2
    go_ret2
    exact ⟨rfl, rfl⟩
  · go_enter Tryd.func65, Tryd.ntmps65
    go_wp2
    go_ret2
    exact ⟨rfl, rfl⟩

theorem add_any (a b : Int) (w : World) (ha : inB a = true) (hb : inB b = true) :
    Calls Tryd.prog 65 #[.int .i64 a, .int .i64 b] w fun e w' => e = .returned (.tuple #[.int .i64 (resV (a + b)), .int .i64 (resE (a + b))]) ∧ w' = w := by
  cases h : inB (a + b)
  · rw [resV_out h, resE_out h]; exact add_out a b w ha hb h
  · rw [resV_in h, resE_in h]; exact add_in a b w ha hb h

theorem sub_in (a b : Int) (w : World) (ha : inB a = true) (hb : inB b = true) (h : inB (a - b) = true) :
    Calls Tryd.prog 71 #[.int .i64 a, .int .i64 b] w fun e w' => e = .returned (.tuple #[.int .i64 (a - b), .int .i64 0]) ∧ w' = w := by
  rw [inB_iff] at ha hb h
  obtain ⟨ha1, ha2⟩ := ha
  obtain ⟨hb1, hb2⟩ := hb
  obtain ⟨h1, h2⟩ := h
  by_cases c : b < 0
  · have c2 : a < a - b := by omega
    go_enter Tryd.func71, Tryd.ntmps71
    go_wp2
    go_ret2
    exact ⟨rfl, rfl⟩
  · have c2 : ¬ a < a - b := by omega
    go_enter Tryd.func71, Tryd.ntmps71
    go_wp2
    go_ret2
    exact ⟨rfl, rfl⟩

theorem sub_out (a b : Int) (w : World) (ha : inB a = true) (hb : inB b = true) (h : inB (a - b) = false) :
    Calls Tryd.prog 71 #[.int .i64 a, .int .i64 b] w fun e w' => e = .returned (.tuple #[.int .i64 0, .int .i64 11]) ∧ w' = w := by
  rw [inB_iff] at ha hb
  rw [inB_not] at h
  have hx : (¬ b < 0 ∧ a < wrap64 (a - b)) ∨ (b < 0 ∧ ¬ a < wrap64 (a - b)) := by
    rcases h with h | h
    · left; rw [wrap_lo _ h (by omega)]; omega
    · right; rw [wrap_hi _ h (by omega)]; omega
  clear ha hb h
  rcases hx with ⟨c, c2⟩ | ⟨c, c2⟩
  · go_enter Tryd.func71, Tryd.ntmps71
    go_wp2
    go_ret2
    exact ⟨rfl, rfl⟩
  · go_enter Tryd.func71, Tryd.ntmps71
    go_wp2
    go_ret2
    exact ⟨rfl, rfl⟩

theorem sub_any (a b : Int) (w : World) (ha : inB a = true) (hb : inB b = true) :
    Calls Tryd.prog 71 #[.int .i64 a, .int .i64 b] w fun e w' => e = .returned (.tuple #[.int .i64 (resV (a - b)), .int .i64 (resE (a - b))]) ∧ w' = w := by
  cases h : inB (a - b)
  · rw [resV_out h, resE_out h]; exact sub_out a b w ha hb h
  · rw [resV_in h, resE_in h]; exact sub_in a b w ha hb h

/-- Is it the one pair whose quotient is no int64? -/
def least1 (a b : Int) : Bool := decide (a = -9223372036854775808 ∧ b = -1)
theorem least1_yes {a b : Int} (h : least1 a b = true) : a = -9223372036854775808 ∧ b = -1 := by unfold least1 at h; simpa using h
theorem least1_no {a b : Int} (h : least1 a b = false) : ¬ (a = -9223372036854775808 ∧ b = -1) := by unfold least1 at h; simpa using h

theorem least_any (a b : Int) (w : World) :
    Calls Tryd.prog 76 #[.int .i64 a, .int .i64 b] w fun e w' => e = .returned (.bool (least1 a b)) ∧ w' = w := by
  by_cases h1 : (a == -9223372036854775808) = true
  · by_cases h2 : (b == -1) = true
    · have e : least1 a b = true := by unfold least1; simp at h1 h2 ⊢; exact ⟨h1, h2⟩
      rw [e]; clear e
      go_enter Tryd.func76, Tryd.ntmps76
      go_wp2
      go_ret
      exact ⟨rfl, rfl⟩
    · have h2 : (b == -1) = false := by simpa using h2
      have e : least1 a b = false := by unfold least1; simp at h1 h2 ⊢; intro _; exact h2
      rw [e]; clear e
      go_enter Tryd.func76, Tryd.ntmps76
      go_wp2
      go_ret
      exact ⟨rfl, rfl⟩
  · have h1 : (a == -9223372036854775808) = false := by simpa using h1
    have e : least1 a b = false := by unfold least1; simp at h1 ⊢; intro h; exact absurd h h1
    rw [e]; clear e
    go_enter Tryd.func76, Tryd.ntmps76
    go_wp2
    go_ret
    exact ⟨rfl, rfl⟩

theorem mul_any (a b : Int) (w : World) (ha : inB a = true) (hb : inB b = true) :
    Calls Tryd.prog 66 #[.int .i64 a, .int .i64 b] w fun e w' => e = .returned (.tuple #[.int .i64 (resV (a * b)), .int .i64 (resE (a * b))]) ∧ w' = w := by
  rw [inB_iff] at ha hb
  by_cases b0 : b = 0
  · subst b0
    have e : inB (a * 0) = true := by rw [Int.mul_zero]; decide
    rw [resV_in e, resE_in e, Int.mul_zero]
    go_enter Tryd.func66, Tryd.ntmps66
    go_wp2
    go_ret2
    exact ⟨rfl, rfl⟩
  have hb0 : (b == 0) = false := by simpa using b0
  cases hl : least1 a b
  · cases h : inB (a * b)
    · rw [resV_out h, resE_out h]
      have hne := mul_out_ne a b b0 hb.1 hb.2 h
      have hx : ¬ (wrap64 (a * b) = -9223372036854775808 ∧ b = -1) := by
        rintro ⟨e1, rfl⟩
        have := least1_no hl
        rw [inB_not] at h
        omega
      have hw := wrap_bd (a * b)
      have hq := tdiv_bd (wrap64 (a * b)) b b0 hw.1 hw.2 hx
      have hq2 : wrap64 ((wrap64 (a * b)).tdiv b) = (wrap64 (a * b)).tdiv b := IntWalk.wrap64_in _ hq
      have hne2 : (wrap64 ((wrap64 (a * b)).tdiv b) != a) = true := by rw [hq2]; simpa using hne
      clear hq2 hq hw hx hne h ha hb
      go_enter Tryd.func66, Tryd.ntmps66
      go_wp2_with (go_at_call 76; refine (least_any a b _).mono ?_; rintro e w' ⟨rfl, rfl⟩)
      go_ret2
      exact ⟨rfl, rfl⟩
    · rw [resV_in h, resE_in h]
      rw [inB_iff] at h
      have h1 := h.1
      have h2 := h.2
      have hne2 : (wrap64 a != a) = false := by rw [IntWalk.wrap64_in _ ha]; simp
      clear h ha hb
      go_enter Tryd.func66, Tryd.ntmps66
      go_wp2_with (go_at_call 76; refine (least_any a b _).mono ?_; rintro e w' ⟨rfl, rfl⟩)
      go_ret2
      exact ⟨rfl, rfl⟩
  · have h : inB (a * b) = false := by obtain ⟨rfl, rfl⟩ := least1_yes hl; decide
    rw [resV_out h, resE_out h]
    clear h ha hb
    go_enter Tryd.func66, Tryd.ntmps66
    go_wp2_with (go_at_call 76; refine (least_any a b _).mono ?_; rintro e w' ⟨rfl, rfl⟩)
    go_ret2
    exact ⟨rfl, rfl⟩

/-- What Div answers: the quotient, cut off towards nought, or that there is none. -/
def divV (a b : Int) : Int := if b = 0 ∨ least1 a b = true then 0 else a.tdiv b
def divE (a b : Int) : Int := if b = 0 ∨ least1 a b = true then 11 else 0
theorem divE_bd (a b : Int) : 0 ≤ divE a b ∧ divE a b ≤ 11 := by unfold divE; split <;> omega
theorem divV_no {a b : Int} (h : b = 0 ∨ least1 a b = true) : divV a b = 0 := by unfold divV; rw [if_pos h]
theorem divE_no {a b : Int} (h : b = 0 ∨ least1 a b = true) : divE a b = 11 := by unfold divE; rw [if_pos h]
theorem divV_yes {a b : Int} (h : ¬ b = 0) (hl : least1 a b = false) : divV a b = a.tdiv b := by unfold divV; rw [if_neg (by rw [hl]; simpa using h)]
theorem divE_yes {a b : Int} (h : ¬ b = 0) (hl : least1 a b = false) : divE a b = 0 := by unfold divE; rw [if_neg (by rw [hl]; simpa using h)]

theorem div_any (a b : Int) (w : World) (ha : inB a = true) :
    Calls Tryd.prog 67 #[.int .i64 a, .int .i64 b] w fun e w' => e = .returned (.tuple #[.int .i64 (divV a b), .int .i64 (divE a b)]) ∧ w' = w := by
  rw [inB_iff] at ha
  by_cases b0 : b = 0
  · subst b0
    rw [divV_no (Or.inl rfl), divE_no (Or.inl rfl)]
    go_enter Tryd.func67, Tryd.ntmps67
    go_wp2
    go_ret2
    exact ⟨rfl, rfl⟩
  have hb0 : (b == 0) = false := by simpa using b0
  cases hl : least1 a b
  · rw [divV_yes b0 hl, divE_yes b0 hl]
    have hq := tdiv_bd a b b0 ha.1 ha.2 (least1_no hl)
    have q1 := hq.1
    have q2 := hq.2
    clear hq ha
    go_enter Tryd.func67, Tryd.ntmps67
    go_wp2_with (go_at_call 76; refine (least_any a b _).mono ?_; rintro e w' ⟨rfl, rfl⟩)
    go_ret2
    exact ⟨rfl, rfl⟩
  · rw [divV_no (Or.inr hl), divE_no (Or.inr hl)]
    clear ha
    go_enter Tryd.func67, Tryd.ntmps67
    go_wp2_with (go_at_call 76; refine (least_any a b _).mono ?_; rintro e w' ⟨rfl, rfl⟩)
    go_ret2
    exact ⟨rfl, rfl⟩

/-- What Mod answers: what is left, of the dividend's sign, or that there is none. -/
def modV (a b : Int) : Int := if b = 0 then 0 else a.tmod b
def modE (b : Int) : Int := if b = 0 then 11 else 0
theorem modE_bd (b : Int) : 0 ≤ modE b ∧ modE b ≤ 11 := by unfold modE; split <;> omega
theorem modV_no (a : Int) : modV a 0 = 0 := rfl
theorem modE_no : modE 0 = 11 := rfl
theorem modV_yes {a b : Int} (h : ¬ b = 0) : modV a b = a.tmod b := by unfold modV; rw [if_neg h]
theorem modE_yes {b : Int} (h : ¬ b = 0) : modE b = 0 := by unfold modE; rw [if_neg h]
theorem tmod_bd (p b : Int) (hp1 : -9223372036854775808 ≤ p) (hp2 : p ≤ 9223372036854775807) : -9223372036854775808 ≤ p.tmod b ∧ p.tmod b ≤ 9223372036854775807 := by
  have h1 : (p.tmod b).natAbs = p.natAbs % b.natAbs := Int.natAbs_tmod p b
  have h2 := Nat.mod_le p.natAbs b.natAbs
  by_cases c : 0 ≤ p
  · omega
  · have h3 := Int.tmod_nonneg (a := -p) b (by omega)
    rw [Int.neg_tmod] at h3
    omega

theorem mod_any (a b : Int) (w : World) (ha : inB a = true) :
    Calls Tryd.prog 68 #[.int .i64 a, .int .i64 b] w fun e w' => e = .returned (.tuple #[.int .i64 (modV a b), .int .i64 (modE b)]) ∧ w' = w := by
  rw [inB_iff] at ha
  by_cases b0 : b = 0
  · subst b0
    rw [modV_no, modE_no]
    go_enter Tryd.func68, Tryd.ntmps68
    go_wp2
    go_ret2
    exact ⟨rfl, rfl⟩
  have hb0 : (b == 0) = false := by simpa using b0
  rw [modV_yes b0, modE_yes b0]
  have hq := tmod_bd a b ha.1 ha.2
  have q1 := hq.1
  have q2 := hq.2
  clear hq ha
  go_enter Tryd.func68, Tryd.ntmps68
  go_wp2
  go_ret2
  exact ⟨rfl, rfl⟩
end Go.Proofs.YtfglmfldpmpofaaDoor
