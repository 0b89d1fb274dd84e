/- The contract of package built's reckon: what a name of sums makes of numbers. -/
import Derived.Test.YtfglmfldpmpofaaDoorBtNums
namespace Go.Proofs.YtfglmfldpmpofaaDoor
open Go.RowKit

theorem pair_fold {f : Int → Int → Int × Int} {a b v e : Int} (h : f a b = (v, e)) (h0 : e ≠ 0 → v = 0) : foldE f a [b] = (v, e) := by
  rw [foldE_cons, h]
  by_cases he : e = 0
  · subst he; rfl
  · rw [if_neg he, h0 he]
theorem res_none {n : Int} (h : resE n ≠ 0) : resV n = 0 := by
  cases e : inB n
  · exact resV_out e
  · exact absurd (resE_in e) h
theorem div_none {a b : Int} (h : divE a b ≠ 0) : divV a b = 0 := by
  unfold divE at h
  unfold divV
  split at h
  · rename_i h1; rw [if_pos h1]
  · exact absurd rfl h
theorem mod_none {a b : Int} (h : modE b ≠ 0) : modV a b = 0 := by
  unfold modE at h
  unfold modV
  split at h
  · rename_i h1; rw [if_pos h1]
  · exact absurd rfl h
theorem num_div (a b : Int) : numR 10 [a, b] = (divV a b, divE a b) := pair_fold (f := twoF 10) rfl div_none
theorem num_mod (a b : Int) : numR 15 [a, b] = (modV a b, modE b) := pair_fold (f := twoF 15) rfl mod_none
theorem num_neg (a : Int) : numR 2 [a] = twoF 2 0 a := pair_fold (f := twoF 2) rfl res_none
theorem num_abs1 {a : Int} (h : a < 0) : numR 9 [a] = twoF 2 0 a := by
  have e : numL 9 [a] = [0, a] := by
    unfold numL
    rw [if_neg (by decide), if_neg (by decide), if_neg (by omega), if_pos ⟨rfl, h⟩]
  unfold numR
  rw [e]
  exact pair_fold (f := twoF 9) rfl res_none
theorem num_abs2 {a : Int} (h : ¬ a < 0) : numR 9 [a] = (a, 0) := by
  have e : numL 9 [a] = [a] := by
    unfold numL
    rw [if_neg (by decide), if_neg (by decide), if_neg (by omega), if_neg (fun h2 => h h2.2)]
  unfold numR
  rw [e]
  rfl
theorem num_sub (a b : Int) (r : List Int) : numR 2 (a :: b :: r) = foldE (twoF 2) a (b :: r) := by
  have e : numL 2 (a :: b :: r) = a :: b :: r := by
    unfold numL
    rw [if_neg (by decide), if_neg (by decide), if_neg (by simp), if_neg (by omega)]
  unfold numR
  rw [e]
  rfl

theorem two_nums {w : World} {ao : Option Addr} {a b : Int} {r : List Int} (h : IntsW w ao (a :: b :: r)) : ∃ q o, ao = some ⟨q, o, none⟩ ∧ w.cell? ⟨q, o, none⟩ = some (.int .i64 a) ∧ w.cell? ⟨q, o + 1, none⟩ = some (.int .i64 b) := by
  obtain ⟨q, o, rfl, h1⟩ := h 0 a rfl
  obtain ⟨q', o', e, h2⟩ := h 1 b rfl
  obtain ⟨rfl, rfl⟩ : q' = q ∧ o' = o := by injection e with h; injection h with h1 h2; exact ⟨h1.symm, h2.symm⟩
  exact ⟨q', o', rfl, h1, h2⟩
theorem one_num {w : World} {ao : Option Addr} {a : Int} {r : List Int} (h : IntsW w ao (a :: r)) : ∃ q o, ao = some ⟨q, o, none⟩ ∧ w.cell? ⟨q, o, none⟩ = some (.int .i64 a) := by
  obtain ⟨q, o, rfl, h1⟩ := h 0 a rfl
  exact ⟨q, o, rfl, h1⟩
theorem tail_nums {w : World} {q o : Nat} {a : Int} {r : List Int} (h : IntsW w (some ⟨q, o, none⟩) (a :: r)) : IntsW w (some ⟨q, o + 1, none⟩) r := by
  intro j z hj
  obtain ⟨q', o', e, h2⟩ := h (j + 1) z hj
  obtain ⟨rfl, rfl⟩ : q' = q ∧ o' = o := by injection e with h; injection h with h1 h2; exact ⟨h1.symm, h2.symm⟩
  exact ⟨q', o' + 1, rfl, by rw [show o' + 1 + j = o' + (j + 1) by omega]; exact h2⟩

set_option maxRecDepth 4000 in
theorem reckon_1 (v e0 : Int) (ao : Option Addr) (cap N : Nat) (ns : List Int) (w : World) (hN : ns.length = N) (hv : IntsW w ao ns) (hl : ∀ x ∈ ns, inB x = true) (hm : N ≤ 1000) (hr : numR 1 ns = (v, e0)) :
    Calls Tryd.prog 51 #[.string ⟨#[43]⟩, .slice ao N cap] w fun e w' => e = .returned (.tuple #[.int .i64 v, .int .i64 e0]) ∧ SameW w w' := by
  have H : Hid (∀ w' : World, w' = w → Calls Tryd.prog 64 #[.func (.func 65) #[] #[], .int .i64 0, .slice ao N cap] w' fun e w' => e = .returned (.tuple #[.int .i64 v, .int .i64 e0]) ∧ w' = w) := by
    rintro w' rfl; exact fold_1 0 v e0 ao cap N ns w' hN hv (by decide) hl hm hr
  clear hN hv hl hr
  go_enter Tryd.func51, Tryd.ntmps51
  go_wp2_with (go_at_call 64; refine (H.out _ rfl).mono ?_; rintro e w1 ⟨rfl, rfl⟩)
  go_ret2
  exact ⟨rfl, SameW.refl _⟩
set_option maxRecDepth 4000 in
theorem reckon_0 (v e0 : Int) (ao : Option Addr) (cap N : Nat) (ns : List Int) (w : World) (hN : ns.length = N) (hv : IntsW w ao ns) (hl : ∀ x ∈ ns, inB x = true) (hm : N ≤ 1000) (hr : numR 0 ns = (v, e0)) :
    Calls Tryd.prog 51 #[.string ⟨#[42]⟩, .slice ao N cap] w fun e w' => e = .returned (.tuple #[.int .i64 v, .int .i64 e0]) ∧ SameW w w' := by
  have H : Hid (∀ w' : World, w' = w → Calls Tryd.prog 64 #[.func (.func 66) #[] #[], .int .i64 1, .slice ao N cap] w' fun e w' => e = .returned (.tuple #[.int .i64 v, .int .i64 e0]) ∧ w' = w) := by
    rintro w' rfl; exact fold_0 1 v e0 ao cap N ns w' hN hv (by decide) hl hm hr
  clear hN hv hl hr
  go_enter Tryd.func51, Tryd.ntmps51
  go_wp2_with (go_at_call 64; refine (H.out _ rfl).mono ?_; rintro e w1 ⟨rfl, rfl⟩)
  go_ret2
  exact ⟨rfl, SameW.refl _⟩
set_option maxRecDepth 4000 in
theorem reckon_10 (a b : Int) (ao : Option Addr) (cap : Nat) (w : World) (hv : IntsW w ao [a, b]) (ha : inB a = true) :
    Calls Tryd.prog 51 #[.string ⟨#[100, 105, 118]⟩, .slice ao 2 cap] w fun e w' => e = .returned (.tuple #[.int .i64 (divV a b), .int .i64 (divE a b)]) ∧ SameW w w' := by
  obtain ⟨q, o, rfl, h1, h2⟩ := two_nums hv
  clear hv
  go_enter Tryd.func51, Tryd.ntmps51
  go_wp2
  go_quiet ((go_at_call 67; exact Calls.quiet_of_same (div_any a b _ ha)))
  go_wp2
  go_ret2
  exact ⟨rfl, ⟨_, rfl⟩⟩
set_option maxRecDepth 4000 in
theorem reckon_15 (a b : Int) (ao : Option Addr) (cap : Nat) (w : World) (hv : IntsW w ao [a, b]) (ha : inB a = true) :
    Calls Tryd.prog 51 #[.string ⟨#[109, 111, 100]⟩, .slice ao 2 cap] w fun e w' => e = .returned (.tuple #[.int .i64 (modV a b), .int .i64 (modE b)]) ∧ SameW w w' := by
  obtain ⟨q, o, rfl, h1, h2⟩ := two_nums hv
  clear hv
  go_enter Tryd.func51, Tryd.ntmps51
  go_wp2
  go_quiet ((go_at_call 68; exact Calls.quiet_of_same (mod_any a b _ ha)))
  go_wp2
  go_ret2
  exact ⟨rfl, ⟨_, rfl⟩⟩
set_option maxRecDepth 4000 in
theorem reckon_14 (n v : Int) (ao : Option Addr) (cap N : Nat) (ns : List Int) (w : World) (hN : ns.length + 1 = N) (hv : IntsW w ao (n :: ns)) (hm : N ≤ 1000) (hr : foldE (twoF 14) n ns = (v, 0)) :
    Calls Tryd.prog 51 #[.string ⟨#[109, 105, 110]⟩, .slice ao N cap] w fun e w' => e = .returned (.tuple #[.int .i64 v, .int .i64 0]) ∧ SameW w w' := by
  have H : Hid (∀ w' : World, w' = w → Calls Tryd.prog 69 #[.slice ao N cap] w' fun e w' => e = .returned (.int .i64 v) ∧ w' = w) := by
    rintro w' rfl; exact slices_14 n v ao cap N ns w' hN hv hm hr
  clear hN hv hr
  go_enter Tryd.func51, Tryd.ntmps51
  go_wp2_with (go_at_call 69; refine (H.out _ rfl).mono ?_; rintro e w1 ⟨rfl, rfl⟩)
  go_ret2
  exact ⟨rfl, SameW.refl _⟩
set_option maxRecDepth 4000 in
theorem reckon_13 (n v : Int) (ao : Option Addr) (cap N : Nat) (ns : List Int) (w : World) (hN : ns.length + 1 = N) (hv : IntsW w ao (n :: ns)) (hm : N ≤ 1000) (hr : foldE (twoF 13) n ns = (v, 0)) :
    Calls Tryd.prog 51 #[.string ⟨#[109, 97, 120]⟩, .slice ao N cap] w fun e w' => e = .returned (.tuple #[.int .i64 v, .int .i64 0]) ∧ SameW w w' := by
  have H : Hid (∀ w' : World, w' = w → Calls Tryd.prog 70 #[.slice ao N cap] w' fun e w' => e = .returned (.int .i64 v) ∧ w' = w) := by
    rintro w' rfl; exact slices_13 n v ao cap N ns w' hN hv hm hr
  clear hN hv hr
  go_enter Tryd.func51, Tryd.ntmps51
  go_wp2_with (go_at_call 70; refine (H.out _ rfl).mono ?_; rintro e w1 ⟨rfl, rfl⟩)
  go_ret2
  exact ⟨rfl, SameW.refl _⟩
set_option maxRecDepth 4000 in
theorem reckon_9 (a v e0 : Int) (ao : Option Addr) (cap : Nat) (w : World) (hv : IntsW w ao [a]) (ha : inB a = true) (hr : numR 9 [a] = (v, e0)) :
    Calls Tryd.prog 51 #[.string ⟨#[97, 98, 115]⟩, .slice ao 1 cap] w fun e w' => e = .returned (.tuple #[.int .i64 v, .int .i64 e0]) ∧ SameW w w' := by
  obtain ⟨q, o, rfl, h1⟩ := one_num hv
  clear hv
  by_cases c : a < 0
  · rw [num_abs1 c] at hr
    have HR : Hid (twoF 2 0 a = (v, e0)) := hr
    have HA : Hid (inB a = true) := ha
    have hc : ¬ (0 : Int) ≤ a := by omega
    clear hr ha c
    go_enter Tryd.func51, Tryd.ntmps51
    go_wp2_with (go_at_call 71; refine (op_2 0 a v e0 _ (by decide) HA.out HR.out).mono ?_; rintro e w1 ⟨rfl, rfl⟩)
    go_ret2
    exact ⟨rfl, SameW.refl _⟩
  · rw [num_abs2 c] at hr
    obtain ⟨rfl, rfl⟩ := Prod.mk.inj hr
    have hc : (0 : Int) ≤ a := by omega
    clear hr ha c
    go_enter Tryd.func51, Tryd.ntmps51
    go_wp2
    go_ret2
    exact ⟨rfl, SameW.refl _⟩
set_option maxRecDepth 4000 in
theorem reckon_2a (a v e0 : Int) (ao : Option Addr) (cap : Nat) (w : World) (hv : IntsW w ao [a]) (ha : inB a = true) (hr : numR 2 [a] = (v, e0)) :
    Calls Tryd.prog 51 #[.string ⟨#[45]⟩, .slice ao 1 cap] w fun e w' => e = .returned (.tuple #[.int .i64 v, .int .i64 e0]) ∧ SameW w w' := by
  obtain ⟨q, o, rfl, h1⟩ := one_num hv
  rw [num_neg] at hr
  have HR : Hid (twoF 2 0 a = (v, e0)) := hr
  have HA : Hid (inB a = true) := ha
  clear hr ha hv
  go_enter Tryd.func51, Tryd.ntmps51
  go_wp2_with (go_at_call 71; refine (op_2 0 a v e0 _ (by decide) HA.out HR.out).mono ?_; rintro e w1 ⟨rfl, rfl⟩)
  go_ret2
  exact ⟨rfl, SameW.refl _⟩
set_option maxRecDepth 4000 in
theorem reckon_2b (a b v e0 : Int) (ao : Option Addr) (cap N : Nat) (r : List Int) (w : World) (hN : r.length + 2 = N) (hcap : N ≤ cap) (hv : IntsW w ao (a :: b :: r)) (hl : ∀ x ∈ a :: b :: r, inB x = true) (hm : N ≤ 1000) (hr : numR 2 (a :: b :: r) = (v, e0)) :
    Calls Tryd.prog 51 #[.string ⟨#[45]⟩, .slice ao N cap] w fun e w' => e = .returned (.tuple #[.int .i64 v, .int .i64 e0]) ∧ SameW w w' := by
  obtain ⟨q, o, rfl, h1, h2⟩ := two_nums hv
  rw [num_sub] at hr
  have h0 : ((N : Int) == 1) = false := by simp; omega
  have h3 : (1 : Int) ≤ (N : Int) := by omega
  have h4 : (0 : Int) < (N : Int) := by omega
  have h5 : ¬ cap = 1 := by omega
  have HF : Hid (∀ w' : World, SameW w w' → Calls Tryd.prog 64 #[.func (.func 71) #[] #[], .int .i64 a, .slice (some ⟨q, o + 1, none⟩) (N - 1) (cap - 1)] w' fun e w'' => e = .returned (.tuple #[.int .i64 v, .int .i64 e0]) ∧ w'' = w') := by
    intro w' hs
    exact fold_2 a v e0 (some ⟨q, o + 1, none⟩) (cap - 1) (N - 1) (b :: r) w' (by rw [List.length_cons]; omega) ((tail_nums hv).same hs) (hl a (by simp)) (fun x hx => hl x (by simp only [List.mem_cons] at hx ⊢; exact .inr hx)) (by omega) hr
  clear hv hl hr hN
  go_enter Tryd.func51, Tryd.ntmps51
  go_wp2
  go_quiet ((go_at_call 64; refine (HF.out _ ⟨_, rfl⟩).mono ?_; rintro e w1 ⟨rfl, rfl⟩; exact ⟨rfl, _, rfl⟩))
  go_wp2
  go_ret2
  exact ⟨rfl, ⟨_, rfl⟩⟩

/-- Any name of sums. -/
theorem reckon_any (s : ByteArray) (v e0 : Int) (ao : Option Addr) (cap N : Nat) (ns : List Int) (w : World) (hs : sumC (code s) = true) (hf : fitC (code s) N = true) (hN : ns.length = N) (hcap : N ≤ cap) (hv : IntsW w ao ns) (hl : ∀ x ∈ ns, inB x = true) (hm : N ≤ 1000) (hr : numR (code s) ns = (v, e0)) :
    Calls Tryd.prog 51 #[.string s, .slice ao N cap] w fun e w' => e = .returned (.tuple #[.int .i64 v, .int .i64 e0]) ∧ SameW w w' := by
  have pos : (1 : Int) ≤ loC (code s) → 1 ≤ N := fun h => by
    unfold fitC at hf; rw [decide_eq_true_eq] at hf; omega
  have two : loC (code s) = 2 → hiC (code s) = 2 → N = 2 := fun h1 h2 => by
    unfold fitC at hf; rw [decide_eq_true_eq] at hf; omega
  have one : loC (code s) = 1 → hiC (code s) = 1 → N = 1 := fun h1 h2 => by
    unfold fitC at hf; rw [decide_eq_true_eq] at hf; omega
  clear hf
  have e0c : ∀ (c : Nat) (n : Int) (l : List Int), (∀ a b, (twoF c a b).2 = 0) → (foldE (twoF c) n l).2 = 0 := by
    intro c n l h
    induction l generalizing n with
    | nil => rfl
    | cons x l ih => rw [foldE_cons, if_pos (h n x)]; exact ih _
  rcases code_cases s with rfl | rfl | rfl | rfl | rfl | rfl | rfl | rfl | rfl | rfl | rfl | rfl | rfl | rfl | rfl | rfl | rfl | rfl | rfl | rfl | rfl | hn
  all_goals first | exact absurd hs (by decide) | skip
  · exact reckon_0 v e0 ao cap N ns w hN hv hl hm hr
  · exact reckon_1 v e0 ao cap N ns w hN hv hl hm hr
  · have := pos (by decide)
    match ns, hN, hv, hl, hr with
    | [a], hN, hv, hl, hr => subst hN; exact reckon_2a a v e0 ao cap w hv (hl a (by simp)) hr
    | a :: b :: r, hN, hv, hl, hr => exact reckon_2b a b v e0 ao cap N r w hN hcap hv hl hm hr
    | [], hN, _, _, _ => simp at hN; omega
  · have := one (by decide) (by decide)
    match ns, hN, hv, hl, hr with
    | [a], hN, hv, hl, hr => subst hN; exact reckon_9 a v e0 ao cap w hv (hl a (by simp)) hr
    | a :: b :: r, hN, _, _, _ => simp at hN; omega
    | [], hN, _, _, _ => simp at hN; omega
  · have := two (by decide) (by decide)
    match ns, hN, hv, hl, hr with
    | [a, b], hN, hv, hl, hr =>
      subst hN
      have h2 : numR 10 [a, b] = (v, e0) := hr
      rw [num_div] at h2
      obtain ⟨rfl, rfl⟩ := Prod.mk.inj h2
      exact reckon_10 a b ao cap w hv (hl a (by simp))
    | [a], hN, _, _, _ => simp at hN; omega
    | a :: b :: c :: r, hN, _, _, _ => simp at hN; omega
    | [], hN, _, _, _ => simp at hN; omega
  · have := pos (by decide)
    match ns, hN, hv, hr with
    | [], hN, _, _ => simp at hN; omega
    | a :: r, hN, hv, hr =>
      have h2 : foldE (twoF 13) a r = (v, e0) := hr
      have h3 := e0c 13 a r (fun _ _ => rfl)
      rw [h2] at h3
      subst h3
      exact reckon_13 a v ao cap N r w hN hv hm h2
  · have := pos (by decide)
    match ns, hN, hv, hr with
    | [], hN, _, _ => simp at hN; omega
    | a :: r, hN, hv, hr =>
      have h2 : foldE (twoF 14) a r = (v, e0) := hr
      have h3 := e0c 14 a r (fun _ _ => rfl)
      rw [h2] at h3
      subst h3
      exact reckon_14 a v ao cap N r w hN hv hm h2
  · have := two (by decide) (by decide)
    match ns, hN, hv, hl, hr with
    | [a, b], hN, hv, hl, hr =>
      subst hN
      have h2 : numR 15 [a, b] = (v, e0) := hr
      rw [num_mod] at h2
      obtain ⟨rfl, rfl⟩ := Prod.mk.inj h2
      exact reckon_15 a b ao cap w hv (hl a (by simp))
    | [a], hN, _, _, _ => simp at hN; omega
    | a :: b :: c :: r, hN, _, _, _ => simp at hN; omega
    | [], hN, _, _, _ => simp at hN; omega
  · rw [code_none hn] at hs; exact absurd hs (by decide)
end Go.Proofs.YtfglmfldpmpofaaDoor
