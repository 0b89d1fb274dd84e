/- The contract of package built's Apply. -/
import Derived.Test.YtfglmfldpmpofaaDoorBtAns
namespace Go.Proofs.YtfglmfldpmpofaaDoor
open Go.RowKit

theorem len_one {L : List Val} (h : L.length = 1) : ∃ v, L = [v] := by
  match L, h with
  | [v], _ => exact ⟨v, rfl⟩
theorem len_two {L : List Val} (h : L.length = 2) : ∃ v u, L = [v, u] := by
  match L, h with
  | [v, u], _ => exact ⟨v, u, rfl⟩

/-- Any name that there is, with as many values as it takes. -/
theorem answer_any (s : ByteArray) (k i e0 : Int) (t : ByteArray) (ao : Option Addr) (cap N : Nat) (L : List Val) (w : World) (hN : L.length = N) (hn : N ≤ 100) (hv : IsVals w ao L) (hR : ∀ v ∈ L, rightV v) (ht : TabW w) (hc : code s ≠ 21) (hf : fitC (code s) N = true) (hr : answerR (code s) L = (⟨k, i, t⟩, e0)) :
    Calls Tryd.prog 27 #[.string s, .slice ao N cap] w fun e w' => e = .returned (.tuple #[.agg #[.int .i64 (k), .int .i64 (i), .string (t)], .int .i64 e0]) ∧ Below w.heap.size w w' := by
  have two : loC (code s) = 2 → hiC (code s) = 2 → N = 2 := fun h1 h2 => by
    unfold fitC at hf; rw [decide_eq_true_eq] at hf; omega
  have one : loC (code s) = 1 → hiC (code s) = 1 → N = 1 := fun h1 h2 => by
    unfold fitC at hf; rw [decide_eq_true_eq] at hf; omega
  have hw : ∀ v ∈ L, inB v.i = true := fun v h => (hR v h).2
  have num : (sumC (code s) = true ∨ cmpC (code s) = true) → numbersR (code s) L = (⟨k, i, t⟩, e0) → Calls Tryd.prog 27 #[.string s, .slice ao N cap] w fun e w' => e = .returned (.tuple #[.agg #[.int .i64 (k), .int .i64 (i), .string (t)], .int .i64 e0]) ∧ Below w.heap.size w w' :=
    fun h1 h2 => answer_num s k i e0 t ao cap N L w hN hv hw (by omega) h1 hf h2
  clear hf
  rcases code_cases s with rfl | rfl | rfl | rfl | rfl | rfl | rfl | rfl | rfl | rfl | rfl | rfl | rfl | rfl | rfl | rfl | rfl | rfl | rfl | rfl | rfl | hn
  · exact num (.inl rfl) hr
  · exact num (.inl rfl) hr
  · exact num (.inl rfl) hr
  · exact num (.inr rfl) hr
  · exact num (.inr rfl) hr
  · exact num (.inr rfl) hr
  · exact num (.inr rfl) hr
  · exact num (.inr rfl) hr
  · exact num (.inr rfl) hr
  · exact num (.inl rfl) hr
  · exact num (.inl rfl) hr
  · obtain ⟨v, u, rfl⟩ := len_two (hN.trans (two rfl rfl))
    subst hN
    have h : ((⟨2, 0, boolS (sameV v u)⟩ : Val), (0 : Int)) = (⟨k, i, t⟩, e0) := hr
    rw [← ret_ve h]
    exact answer_11 v u _ ao cap w hv rfl
  · obtain ⟨v, rfl⟩ := len_one (hN.trans (one rfl rfl))
    exact answer_12 v k i e0 t ao cap N [v] w hN hv rfl hr
  · exact num (.inl rfl) hr
  · exact num (.inl rfl) hr
  · exact num (.inl rfl) hr
  · obtain ⟨v, u, rfl⟩ := len_two (hN.trans (two rfl rfl))
    subst hN
    have h : ((⟨2, 0, boolS (!sameV v u)⟩ : Val), (0 : Int)) = (⟨k, i, t⟩, e0) := hr
    rw [← ret_ve h]
    exact answer_16 v u _ ao cap w hv rfl
  · obtain ⟨v, rfl⟩ := len_one (hN.trans (one rfl rfl))
    subst hN
    have h : ((⟨2, 0, boolS (!trueB v.k v.i v.s)⟩ : Val), (0 : Int)) = (⟨k, i, t⟩, e0) := hr
    rw [← ret_ve h]
    exact answer_17 v _ ao cap w hv rfl
  · exact answer_18 k i e0 t ao cap N L w hN hv hn hR ht hr
  · exact answer_19 k i e0 t ao cap N L w hN hv hn hR ht hr
  · obtain ⟨v, rfl⟩ := len_one (hN.trans (one rfl rfl))
    subst hN
    have h : ((⟨2, 0, typeS v.k⟩ : Val), (0 : Int)) = (⟨k, i, t⟩, e0) := hr
    rw [← ret_ve h]
    exact answer_20 v _ ao cap w hv (right_kind (hR v (by simp)).1) rfl
  · exact absurd (code_none hn) hc

theorem hi_neg (c : Nat) : hiC c < 0 ↔ hiC c = -1 := by
  unfold hiC
  split
  · simp
  split
  · simp
  split <;> simp
theorem known_is {s : ByteArray} (h : code s ≠ 21) : knownB s = true := by unfold knownB; exact decide_eq_true h
theorem known_not {s : ByteArray} (h : code s = 21) : knownB s = false := by unfold knownB; exact decide_eq_false (fun h2 => h2 h)

set_option maxHeartbeats 1000000 in
set_option maxRecDepth 4000 in
theorem apply_none (s : ByteArray) (ao : Option Addr) (cap N : Nat) (w : World) (hc : code s = 21) :
    Calls Tryd.prog 11 #[.string s, .slice ao N cap] w fun e w' => e = .returned (.tuple #[.agg #[.int .i64 (0), .int .i64 (0), .string (⟨#[]⟩)], .int .i64 5]) ∧ Below w.heap.size w w' := by
  have HK : Hid (knownB s = false) := known_not hc
  clear hc
  go_enter Tryd.func11, Tryd.ntmps11
  go_wp2_with (go_at_call 16; refine (bknown_any s false _ HK.out).mono ?_; rintro e w1 ⟨rfl, rfl⟩)
  refine bodyPost_ret (v := .tuple #[.agg #[.int .i64 (0), .int .i64 (0), .string (⟨#[]⟩)], .int .i64 5]) (by simp [results, Tryd.results11, go_sem, *]) rfl ⟨rfl, ?_⟩
  exact alloc_below' _ _
set_option maxHeartbeats 1000000 in
set_option maxRecDepth 4000 in
theorem apply_few (s : ByteArray) (lo hi : Int) (ao : Option Addr) (cap N : Nat) (w : World) (hc : code s ≠ 21) (hl : loC (code s) = lo) (hh : hiC (code s) = hi) (hf : (N : Int) < lo) :
    Calls Tryd.prog 11 #[.string s, .slice ao N cap] w fun e w' => e = .returned (.tuple #[.agg #[.int .i64 (0), .int .i64 (0), .string (⟨#[]⟩)], .int .i64 1]) ∧ Below w.heap.size w w' := by
  have HK : Hid (knownB s = true) := known_is hc
  have HL : Hid (loC (code s) = lo) := hl
  have HH : Hid (hiC (code s) = hi) := hh
  clear hc hl hh
  go_enter Tryd.func11, Tryd.ntmps11
  go_wp2_with (first
    | (go_at_call 16; refine (bknown_any s true _ HK.out).mono ?_; rintro e w1 ⟨rfl, rfl⟩)
    | (go_at_call 13; refine (arity_any s lo hi _ HL.out HH.out).mono ?_; rintro e w1 ⟨rfl, rfl⟩))
  refine bodyPost_ret (v := .tuple #[.agg #[.int .i64 (0), .int .i64 (0), .string (⟨#[]⟩)], .int .i64 1]) (by simp [results, Tryd.results11, go_sem, *]) rfl ⟨rfl, ?_⟩
  exact alloc_below' _ _
set_option maxHeartbeats 1000000 in
set_option maxRecDepth 4000 in
theorem apply_many (s : ByteArray) (lo hi : Int) (ao : Option Addr) (cap N : Nat) (w : World) (hc : code s ≠ 21) (hl : loC (code s) = lo) (hh : hiC (code s) = hi) (hf : ¬ (N : Int) < lo) (h1 : (hi != -1) = true) (h2 : hi < (N : Int)) :
    Calls Tryd.prog 11 #[.string s, .slice ao N cap] w fun e w' => e = .returned (.tuple #[.agg #[.int .i64 (0), .int .i64 (0), .string (⟨#[]⟩)], .int .i64 1]) ∧ Below w.heap.size w w' := by
  have HK : Hid (knownB s = true) := known_is hc
  have HL : Hid (loC (code s) = lo) := hl
  have HH : Hid (hiC (code s) = hi) := hh
  clear hc hl hh
  go_enter Tryd.func11, Tryd.ntmps11
  go_wp2_with (first
    | (go_at_call 16; refine (bknown_any s true _ HK.out).mono ?_; rintro e w1 ⟨rfl, rfl⟩)
    | (go_at_call 13; refine (arity_any s lo hi _ HL.out HH.out).mono ?_; rintro e w1 ⟨rfl, rfl⟩))
  refine bodyPost_ret (v := .tuple #[.agg #[.int .i64 (0), .int .i64 (0), .string (⟨#[]⟩)], .int .i64 1]) (by simp [results, Tryd.results11, go_sem, *]) rfl ⟨rfl, ?_⟩
  exact alloc_below' _ _
set_option maxHeartbeats 1000000 in
set_option maxRecDepth 4000 in
theorem apply_yes (s : ByteArray) (lo hi : Int) (k i e0 : Int) (t : ByteArray) (ao : Option Addr) (cap N : Nat) (L : List Val) (w : World) (hN : L.length = N) (hn : N ≤ 100) (hv : IsVals w ao L) (hR : ∀ v ∈ L, rightV v) (ht : TabW w) (hc : code s ≠ 21) (hl : loC (code s) = lo) (hh : hiC (code s) = hi) (hf : ¬ (N : Int) < lo) (h1 : hi = -1 ∨ (hi ≠ -1 ∧ ¬ hi < (N : Int))) (hfit : fitC (code s) N = true) (hr : answerR (code s) L = (⟨k, i, t⟩, e0)) :
    Calls Tryd.prog 11 #[.string s, .slice ao N cap] w fun e w' => e = .returned (.tuple #[.agg #[.int .i64 (k), .int .i64 (i), .string (t)], .int .i64 e0]) ∧ Below w.heap.size w w' := by
  obtain ⟨B, HB⟩ : ∃ B, Hid (w.heap.size = B) := ⟨_, rfl⟩
  have HK : Hid (knownB s = true) := known_is hc
  have HL : Hid (loC (code s) = lo) := hl
  have HH : Hid (hiC (code s) = hi) := hh
  have HV : IsVals (w.alloc (.cells #[.int .i64 0, .int .i64 0, .string ⟨#[]⟩] 26)) ao L := hv.next (alloc_below' _ _)
  have HC : Hid (∀ w1 : World, w1 = w.alloc (.cells #[.int .i64 0, .int .i64 0, .string ⟨#[]⟩] 26) → Calls Tryd.prog 27 #[.string s, .slice ao N cap] w1 fun e w' => e = .returned (.tuple #[.agg #[.int .i64 (k), .int .i64 (i), .string (t)], .int .i64 e0]) ∧ Below w1.heap.size w1 w') := by
    rintro w1 rfl
    exact answer_any s k i e0 t ao cap N L _ hN hn HV hR (tab_alloc ht) hc hfit hr
  clear hc hl hh HV hv hN hR ht hr hfit
  rcases h1 with h1 | ⟨h1, h2⟩
  · subst h1
    go_enter Tryd.func11, Tryd.ntmps11
    go_wp2_with (first
      | (go_at_call 16; refine (bknown_any s true _ HK.out).mono ?_; rintro e w1 ⟨rfl, rfl⟩)
      | (go_at_call 13; refine (arity_any s lo (-1) _ HL.out HH.out).mono ?_; rintro e w1 ⟨rfl, rfl⟩))
    refine (HC.out _ rfl).mono ?_
    rintro e w1 ⟨rfl, hb1⟩
    obtain ⟨⟨p0, p1, p2⟩, pf⟩ := box3 HB.out hb1
    have b1 : Hid (Below B w w1) := by rw [Hid, ← HB.out]; exact next_trans' (alloc_below' _ _) hb1
    clear hb1
    rw [HB.out]
    go_wp2
    refine bodyPost_ret (v := .tuple #[.agg #[.int .i64 (k), .int .i64 (i), .string (t)], .int .i64 e0]) (by simp [results, Tryd.results11, go_sem, *]) rfl ⟨rfl, ?_⟩
    rw [HB.out]; exact set3 b1.out _ _ _
  · have d1 : (hi != -1) = true := by simpa using h1
    clear h1
    go_enter Tryd.func11, Tryd.ntmps11
    go_wp2_with (first
      | (go_at_call 16; refine (bknown_any s true _ HK.out).mono ?_; rintro e w1 ⟨rfl, rfl⟩)
      | (go_at_call 13; refine (arity_any s lo hi _ HL.out HH.out).mono ?_; rintro e w1 ⟨rfl, rfl⟩))
    refine (HC.out _ rfl).mono ?_
    rintro e w1 ⟨rfl, hb1⟩
    obtain ⟨⟨p0, p1, p2⟩, pf⟩ := box3 HB.out hb1
    have b1 : Hid (Below B w w1) := by rw [Hid, ← HB.out]; exact next_trans' (alloc_below' _ _) hb1
    clear hb1
    rw [HB.out]
    go_wp2
    refine bodyPost_ret (v := .tuple #[.agg #[.int .i64 (k), .int .i64 (i), .string (t)], .int .i64 e0]) (by simp [results, Tryd.results11, go_sem, *]) rfl ⟨rfl, ?_⟩
    rw [HB.out]; exact set3 b1.out _ _ _

/-- Any name, with any right values. -/
theorem apply_any (s : ByteArray) (k i e0 : Int) (t : ByteArray) (ao : Option Addr) (cap N : Nat) (L : List Val) (w : World) (hN : L.length = N) (hn : N ≤ 100) (hv : IsVals w ao L) (hR : ∀ v ∈ L, rightV v) (ht : TabW w) (hr : applyR (code s) L = (⟨k, i, t⟩, e0)) :
    Calls Tryd.prog 11 #[.string s, .slice ao N cap] w fun e w' => e = .returned (.tuple #[.agg #[.int .i64 (k), .int .i64 (i), .string (t)], .int .i64 e0]) ∧ Below w.heap.size w w' := by
  unfold applyR at hr
  by_cases hc : code s = 21
  · rw [if_pos hc] at hr
    rw [← ret_ve hr]
    exact apply_none s ao cap N w hc
  rw [if_neg hc, hN] at hr
  cases hf : fitC (code s) N
  · rw [if_neg (by rw [hf]; decide)] at hr
    rw [← ret_ve hr]
    unfold fitC at hf
    rw [decide_eq_false_iff_not] at hf
    have hg := hi_neg (code s)
    by_cases h1 : (N : Int) < loC (code s)
    · exact apply_few s _ _ ao cap N w hc rfl rfl h1
    · exact apply_many s _ _ ao cap N w hc rfl rfl h1 (by simp; omega) (by omega)
  · rw [if_pos hf] at hr
    have hf2 := hf
    unfold fitC at hf
    rw [decide_eq_true_eq] at hf
    have hg := hi_neg (code s)
    exact apply_yes s _ _ k i e0 t ao cap N L w hN hn hv hR ht hc rfl rfl (by omega) (by omega) hf2 hr
end Go.Proofs.YtfglmfldpmpofaaDoor
