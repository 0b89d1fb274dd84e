/- Package pat: a template by its name; whether a slot stands already. -/
import Derived.Test.YtnhbjhdkpbhioaaGreatDoorPtSmall
namespace Go.Proofs.YtnhbjhdkpbhioaaGreatDoor
open Go.RowKit

/-- A row of templates. -/
def IsTps (w : World) (ao : Option Addr) (L : List Tp) : Prop :=
  ∀ (j : Nat) (t : Tp), L[j]? = some t → ∃ (b o : Nat) (to : Option Addr) (tc : Nat), ao = some ⟨b, o, none⟩ ∧ w.cell? ⟨b, o + j * 2, none⟩ = some (.string t.n) ∧ w.cell? ⟨b, o + j * 2 + 1, none⟩ = some (.slice to t.l.length tc) ∧ IsSls w to t.l
theorem IsTps.next {w w' : World} {ao : Option Addr} {L : List Tp} (h : IsTps w ao L) (hb : Below w.heap.size w w') : IsTps w' ao L := by
  intro j v hj
  obtain ⟨b, o, to, tc, h0, h1, h2, h3⟩ := h j v hj
  exact ⟨b, o, to, tc, h0, keep_cell hb h1, keep_cell hb h2, h3.next hb⟩
def plI (L : List Tp) (n : ByteArray) : Int := match plT L n with
  | some p => (p : Int)
  | none => -1
theorem plI_at {L : List Tp} {n : ByteArray} {p : Nat} (h : plT L n = some p) : plI L n = (p : Int) := by unfold plI; rw [h]
theorem plI_no {L : List Tp} {n : ByteArray} (h : plT L n = none) : plI L n = -1 := by unfold plI; rw [h]

set_option maxHeartbeats 2000000 in
set_option maxRecDepth 8000 in
theorem findfn_any (tn : ByteArray) (ao : Option Addr) (n cap b : Nat) (m : ByteArray) (w : World) (hm : w.cell? ⟨b, 0, none⟩ = some (.string m)) :
    Calls Tryz.prog 82 #[.agg #[.string tn, .slice ao n cap], .pointer (some ⟨b, 0, none⟩)] w fun e w' => e = .returned (.bool (decide (tn = m))) ∧ Below w.heap.size w w' := by
  have hm2 := alloc_cell (w := w) (o := .cells #[.string tn, .slice ao n cap] 108) hm
  by_cases he : tn = m
  · have hd : (tn.toList == m.toList) = true := by rw [beq_ba]; exact decide_eq_true he
    rw [decide_eq_true he]
    clear he
    go_enter Tryz.func82, Tryz.ntmps82
    go_wp2
    go_ret
    exact ⟨rfl, alloc_below _ _⟩
  · have hd : (tn.toList == m.toList) = false := by rw [beq_ba]; exact decide_eq_false he
    rw [decide_eq_false he]
    clear he
    go_enter Tryz.func82, Tryz.ntmps82
    go_wp2
    go_ret
    exact ⟨rfl, alloc_below _ _⟩

set_option maxHeartbeats 4000000 in
set_option maxRecDepth 8000 in
theorem indextp_any (L : List Tp) (N : Nat) (ao : Option Addr) (cap b : Nat) (m : ByteArray) (w : World) (hL : L.length = N) (hN : N ≤ 1000) (h : IsTps w ao L) (hm : w.cell? ⟨b, 0, none⟩ = some (.string m)) :
    Calls Tryz.prog 81 #[.slice ao N cap, .func (.func 82) #[] #[.pointer (some ⟨b, 0, none⟩)]] w fun e w' => e = .returned (.int .i64 (plI L m)) ∧ Below w.heap.size w w' := by
  have HL : Hid (L.length = N) := hL
  have HI : Hid (IsTps w ao L) := h
  have HM : Hid (w.cell? ⟨b, 0, none⟩ = some (.string m)) := hm
  obtain ⟨P, HP⟩ : ∃ P, Hid (plI L m = P) := ⟨_, rfl⟩
  rw [HP.out]
  clear hL h hm
  go_enter Tryz.func81, Tryz.ntmps81
  go_wp2
  go_loopw [8] (fun q wr => ∃ k : Nat, k ≤ N ∧ q = .int .i64 k ∧ Hid (Below w.heap.size w wr) ∧ Hid (∀ i s, i < k → L[i]? = some s → s.n ≠ m)) (fun q _ => N - (intOf q).toNat)
  case atStart => exact ⟨0, Nat.zero_le _, rfl, Below.refl _ _, fun m s hm => absurd hm (by omega)⟩
  case round =>
    obtain ⟨k, hk, rfl, HB, HA⟩ := hrel
    by_cases hlt : k < N
    · have hki : (k : Int) < (N : Int) := by omega
      have hk0 : (0 : Int) ≤ (k : Int) := by omega
      obtain ⟨s, hs⟩ : ∃ s, L[k]? = some s := ⟨_, List.getElem?_eq_getElem (by rw [HL.out]; exact hlt)⟩
      obtain ⟨bq, o, to, tc, rfl, c0, c1, _⟩ := (HI.out.next HB.out) k s hs
      have HS : Hid (L[k]? = some s) := hs
      have hm : wr.cell? ⟨b, 0, none⟩ = some (.string m) := keep_cell HB.out HM.out
      obtain ⟨sn, sl⟩ := s
      simp only at c0 c1
      obtain ⟨M, HMl⟩ : ∃ M, Hid (sl.length = M) := ⟨_, rfl⟩
      rw [HMl.out] at c1
      have HF : Hid (Calls Tryz.prog 82 #[.agg #[.string sn, .slice to M tc], .pointer (some ⟨b, 0, none⟩)] wr fun e w' => e = .returned (.bool (decide (sn = m))) ∧ Below wr.heap.size wr w') := findfn_any sn to M tc b m wr hm
      clear hs hm
      by_cases he : sn = m
      · have hq : plT L m = some k := plT_at L m k _ HS.out he HA.out
        obtain rfl : P = (k : Int) := by rw [← HP.out, plI_at hq]
        rw [decide_eq_true he] at HF
        clear HA HS he hq HP HI
        go_wp2_with (go_at_call 82; refine HF.out.mono ?_; rintro e w2 ⟨rfl, hb2⟩)
        go_ret
        exact ⟨rfl, next_trans HB.out hb2⟩
      · have HA2 : Hid (∀ i s, i < k + 1 → L[i]? = some s → s.n ≠ m) := fun i s hi his => by
          by_cases e : i = k
          · subst e; rw [HS.out] at his; cases his; exact he
          · exact HA.out i s (by omega) his
        rw [decide_eq_false he] at HF
        clear HA HS he
        go_wp2_with (go_at_call 82; refine HF.out.mono ?_; rintro e w2 ⟨rfl, hb2⟩)
        have HB2 : Hid (Below w.heap.size w w2) := next_trans HB.out hb2
        go_roundw
        case rel => exact ⟨k + 1, by omega, by go_num, HB2, HA2⟩
        case measure => simp [intOf]; omega
    · have hki : ¬ (k : Int) < (N : Int) := by omega
      have hq : plT L m = none := (plT_none L m).2 fun s hs => by
        obtain ⟨i, hi⟩ := List.getElem?_of_mem hs
        exact HA.out i s (by have := (List.getElem?_eq_some_iff.1 hi).1; rw [HL.out] at this; omega) hi
      obtain rfl : P = -1 := by rw [← HP.out, plI_no hq]
      clear HA hq HP HI
      go_wp2
      go_ret
      exact ⟨rfl, HB.out⟩
/-- The template of a name, or none. -/
def tpAt (L : List Tp) (n : ByteArray) : Tp := match plT L n with
  | none => ⟨noS, []⟩
  | some p => match L[p]? with
    | none => ⟨noS, []⟩
    | some t => t
theorem tpAt_no {L : List Tp} {n : ByteArray} (h : plT L n = none) : tpAt L n = ⟨noS, []⟩ := by unfold tpAt; rw [h]
theorem tpAt_at {L : List Tp} {n : ByteArray} {p : Nat} {t : Tp} (h : plT L n = some p) (h2 : L[p]? = some t) : tpAt L n = t := by unfold tpAt; rw [h]; simp only; rw [h2]
theorem tpAt_slots {L : List Tp} {n : ByteArray} {p : Nat} (h : plT L n = some p) : (tpAt L n).l = slotsAt L p ∧ (tpAt L n).n = n := by
  obtain ⟨s, h1, h2, _⟩ := plT_some L n p h
  rw [tpAt_at h h1]
  exact ⟨by unfold slotsAt; rw [h1], h2⟩

set_option maxHeartbeats 4000000 in
set_option maxRecDepth 8000 in
theorem pfind_any (L : List Tp) (N : Nat) (ao : Option Addr) (cap : Nat) (m : ByteArray) (w : World) (hL : L.length = N) (hN : N ≤ 1000) (h : IsTps w ao L) :
    Calls Tryz.prog 45 #[.slice ao N cap, .string m] w fun e w' => (∃ to tc, e = .returned (.tuple #[tmV (tpAt L m) to tc, .bool (plT L m).isSome]) ∧ IsSls w to (tpAt L m).l) ∧ Below w.heap.size w w' := by
  obtain ⟨W, HWe⟩ : ∃ W, Hid ((w.alloc (.cells #[.string m] 9)).alloc (.cells #[.string ⟨#[]⟩, .slice none 0 0] 108) = W) := ⟨_, rfl⟩
  have HB : Hid (Below w.heap.size w W) := by rw [← HWe.out]; exact next_trans (alloc_below _ _) (alloc_below _ _)
  have HX : Hid (Bx W w.heap.size #[.string m]) := by rw [← HWe.out]; exact (Bx.made _ _ _).alloc _
  have HY : Hid (Bx W (w.heap.size + 1) #[.string ⟨#[]⟩, .slice none 0 0]) := Bx.made' HWe.out (by simp)
  have HC : Hid (Calls Tryz.prog 81 #[.slice ao N cap, .func (.func 82) #[] #[.pointer (some ⟨w.heap.size, 0, none⟩)]] W fun e w' => e = .returned (.int .i64 (plI L m)) ∧ Below W.heap.size W w') :=
    indextp_any L N ao cap w.heap.size m W hL hN (h.next HB.out) (HX.out.cell 0)
  have HI : Hid (∀ w', Below w.heap.size w w' → IsTps w' ao L) := fun w' hb => h.next hb
  have HL : Hid (L.length = N) := hL
  clear h hL
  cases hq : plT L m with
  | none =>
    rw [plI_no hq] at HC
    rw [tpAt_no hq]
    go_enter Tryz.func45, Tryz.ntmps45
    go_wp2_with fail
    rw [HWe.out]
    clear HWe
    refine HC.out.mono ?_
    rintro e w1 ⟨rfl, hb1⟩
    have HB1 : Hid (Below w.heap.size w w1) := next_trans HB.out hb1
    have HY1 : Hid (Bx w1 (w.heap.size + 1) #[.string ⟨#[]⟩, .slice none 0 0]) := HY.out.next hb1
    have r0 : w1.cell? ⟨w.heap.size + 1, 0, none⟩ = some (.string ⟨#[]⟩) := HY1.out.cell 0
    have r1 : w1.cell? ⟨w.heap.size + 1, 1, none⟩ = some (.slice none 0 0) := HY1.out.cell 1
    have rf := HY1.out.froz
    have hl : w.heap.size + 1 < w1.heap.size := HY1.out.lt
    clear hb1 HC HX HY HB
    have HBe : Hid (Below w.heap.size w ((w1.setCell ⟨w.heap.size + 1, 0, none⟩ (.string ⟨#[]⟩)).setCell ⟨w.heap.size + 1, 1, none⟩ (.slice none 0 0))) := set_bel (set_bel HB1.out (by omega)) (by omega)
    clear hq HI HY1
    go_wp2
    exact bodyPost_ret (v := .tuple #[.agg #[.string ⟨#[]⟩, .slice none 0 0], .bool false]) (by simp [results, Tryz.results45, go_sem, r0, r1]) rfl ⟨⟨none, 0, rfl, IsSls.nil _ _⟩, HBe.out⟩
  | some p =>
    obtain ⟨t, ht, hx1, hx2⟩ := plT_some L m p hq
    clear hx1 hx2
    obtain ⟨b, o, to, tc, rfl, c0, c1, hs⟩ := HI.out w (Below.refl _ _) p t ht
    have hpl : p < N := by have := (List.getElem?_eq_some_iff.1 ht).1; rw [HL.out] at this; exact this
    have hpi : (p : Int) < (N : Int) := by omega
    have hp0 : (0 : Int) ≤ (p : Int) := by omega
    have hpn : ¬ (p : Int) < 0 := by omega
    rw [plI_at hq] at HC
    rw [tpAt_at hq ht]
    obtain ⟨tn, tl⟩ := t
    simp only at c0 c1 hs
    unfold tmV
    simp only
    obtain ⟨C, HCl⟩ : ∃ C, Hid (tl.length = C) := ⟨_, rfl⟩
    rw [HCl.out] at c1 ⊢
    go_enter Tryz.func45, Tryz.ntmps45
    go_wp2_with fail
    rw [HWe.out]
    clear HWe
    refine HC.out.mono ?_
    rintro e w1 ⟨rfl, hb1⟩
    have HB1 : Hid (Below w.heap.size w w1) := next_trans HB.out hb1
    have HY1 : Hid (Bx w1 (w.heap.size + 1) #[.string ⟨#[]⟩, .slice none 0 0]) := HY.out.next hb1
    have r0 : w1.cell? ⟨w.heap.size + 1, 0, none⟩ = some (.string ⟨#[]⟩) := HY1.out.cell 0
    have r1 : w1.cell? ⟨w.heap.size + 1, 1, none⟩ = some (.slice none 0 0) := HY1.out.cell 1
    have rf := HY1.out.froz
    have hl : w.heap.size + 1 < w1.heap.size := HY1.out.lt
    clear hb1 HC HX HY HB
    replace c0 := keep_cell HB1.out c0
    replace c1 := keep_cell HB1.out c1
    have HBe : Hid (Below w.heap.size w ((w1.setCell ⟨w.heap.size + 1, 0, none⟩ (.string tn)).setCell ⟨w.heap.size + 1, 1, none⟩ (.slice to C tc))) := set_bel (set_bel HB1.out (by omega)) (by omega)
    have HS : Hid (IsSls w to tl) := hs
    clear hq HI HY1 hs ht HL
    go_wp2
    exact bodyPost_ret (v := .tuple #[.agg #[.string tn, .slice to C tc], .bool true]) (by simp [results, Tryz.results45, go_sem, r0, r1]) rfl ⟨⟨to, tc, rfl, HS.out⟩, HBe.out⟩
/-- Whether a slot stands already. -/
theorem slotfn_any (t : Ts) (b p : Nat) (w : World) (hm : w.cell? ⟨b, 0, none⟩ = some (.int .i64 (p : Int))) :
    Calls Tryz.prog 85 #[tsV t, .pointer (some ⟨b, 0, none⟩)] w fun e w' => e = .returned (.bool (decide (t.p = p))) ∧ Below w.heap.size w w' := by
  obtain ⟨tp, tn, tv, tk, ti, ts⟩ := t
  unfold tsV
  simp only
  have hm2 := alloc_cell (w := w) (o := .cells #[.int .i64 (tp : Int), .bool tn, .string tv, .int .i64 tk, .int .i64 ti, .string ts] 88) hm
  by_cases he : tp = p
  · have hd : ((tp : Int) == (p : Int)) = true := by simp [he]
    rw [decide_eq_true he]
    clear he
    go_enter Tryz.func85, Tryz.ntmps85
    go_wp2
    go_ret
    exact ⟨rfl, alloc_below _ _⟩
  · have hd : ((tp : Int) == (p : Int)) = false := by simp; omega
    rw [decide_eq_false he]
    go_enter Tryz.func85, Tryz.ntmps85
    go_wp2
    go_ret
    exact ⟨rfl, alloc_below _ _⟩

set_option maxHeartbeats 4000000 in
set_option maxRecDepth 8000 in
theorem indexts_any (L : List Ts) (N : Nat) (ao : Option Addr) (cap b p : Nat) (w : World) (hL : L.length = N) (hN : N ≤ 100000) (h : IsTss w ao L) (hm : w.cell? ⟨b, 0, none⟩ = some (.int .i64 (p : Int))) :
    Calls Tryz.prog 115 #[.slice ao N cap, .func (.func 85) #[] #[.pointer (some ⟨b, 0, none⟩)]] w fun e w' => (∃ q : Int, e = .returned (.int .i64 q) ∧ hasP L p = decide (0 ≤ q)) ∧ Below w.heap.size w w' := by
  have HL : Hid (L.length = N) := hL
  have HI : Hid (IsTss w ao L) := h
  have HM : Hid (w.cell? ⟨b, 0, none⟩ = some (.int .i64 (p : Int))) := hm
  obtain ⟨P, HP⟩ : ∃ P, Hid (hasP L p = P) := ⟨_, rfl⟩
  rw [HP.out]
  clear hL h hm
  go_enter Tryz.func115, Tryz.ntmps115
  go_wp2
  go_loopw [8] (fun q wr => ∃ k : Nat, k ≤ N ∧ q = .int .i64 k ∧ Hid (Below w.heap.size w wr) ∧ Hid (∀ i s, i < k → L[i]? = some s → s.p ≠ p)) (fun q _ => N - (intOf q).toNat)
  case atStart => exact ⟨0, Nat.zero_le _, rfl, Below.refl _ _, fun m s hm => absurd hm (by omega)⟩
  case round =>
    obtain ⟨k, hk, rfl, HB, HA⟩ := hrel
    by_cases hlt : k < N
    · have hki : (k : Int) < (N : Int) := by omega
      have hk0 : (0 : Int) ≤ (k : Int) := by omega
      obtain ⟨s, hs⟩ : ∃ s, L[k]? = some s := ⟨_, List.getElem?_eq_getElem (by rw [HL.out]; exact hlt)⟩
      obtain ⟨bq, o, rfl, c0, c1, c2, c3, c4, c5⟩ := (HI.out.next HB.out) k s hs
      have HS : Hid (L[k]? = some s) := hs
      have hm : wr.cell? ⟨b, 0, none⟩ = some (.int .i64 (p : Int)) := keep_cell HB.out HM.out
      obtain ⟨tp, tn, tv, tk, ti, ts⟩ := s
      simp only at c0 c1 c2 c3 c4 c5
      have HF : Hid (Calls Tryz.prog 85 #[.agg #[.int .i64 (tp : Int), .bool tn, .string tv, .int .i64 tk, .int .i64 ti, .string ts], .pointer (some ⟨b, 0, none⟩)] wr fun e w' => e = .returned (.bool (decide (tp = p))) ∧ Below wr.heap.size wr w') := slotfn_any ⟨tp, tn, tv, tk, ti, ts⟩ b p wr hm
      clear hs hm
      by_cases he : tp = p
      · obtain rfl : P = true := by
          rw [← HP.out]; unfold hasP; rw [List.any_eq_true]; exact ⟨_, List.mem_of_getElem? HS.out, decide_eq_true he⟩
        rw [decide_eq_true he] at HF
        clear HA HS he HP HI
        go_wp2_with (go_at_call 85; refine HF.out.mono ?_; rintro e w2 ⟨rfl, hb2⟩)
        go_ret
        exact ⟨⟨_, rfl, (decide_eq_true hk0).symm⟩, next_trans HB.out hb2⟩
      · have HA2 : Hid (∀ i s, i < k + 1 → L[i]? = some s → s.p ≠ p) := fun i s hi his => by
          by_cases e : i = k
          · subst e; rw [HS.out] at his; cases his; exact he
          · exact HA.out i s (by omega) his
        rw [decide_eq_false he] at HF
        clear HA HS he
        go_wp2_with (go_at_call 85; refine HF.out.mono ?_; rintro e w2 ⟨rfl, hb2⟩)
        have HB2 : Hid (Below w.heap.size w w2) := next_trans HB.out hb2
        go_roundw
        case rel => exact ⟨k + 1, by omega, by go_num, HB2, HA2⟩
        case measure => simp [intOf]; omega
    · have hki : ¬ (k : Int) < (N : Int) := by omega
      obtain rfl : P = false := by
        rw [← HP.out, hasP_no]
        intro s hs
        obtain ⟨i, hi⟩ := List.getElem?_of_mem hs
        exact HA.out i s (by have := (List.getElem?_eq_some_iff.1 hi).1; rw [HL.out] at this; omega) hi
      clear HA HP HI
      go_wp2
      go_ret
      exact ⟨⟨_, rfl, by decide⟩, HB.out⟩

set_option maxHeartbeats 2000000 in
set_option maxRecDepth 8000 in
theorem hasts_any (L : List Ts) (N : Nat) (ao : Option Addr) (cap b p : Nat) (w : World) (hL : L.length = N) (hN : N ≤ 100000) (h : IsTss w ao L) (hm : w.cell? ⟨b, 0, none⟩ = some (.int .i64 (p : Int))) :
    Calls Tryz.prog 84 #[.slice ao N cap, .func (.func 85) #[] #[.pointer (some ⟨b, 0, none⟩)]] w fun e w' => e = .returned (.bool (hasP L p)) ∧ Below w.heap.size w w' := by
  obtain ⟨P, HP⟩ : ∃ P, Hid (hasP L p = P) := ⟨_, rfl⟩
  have HC : Hid (Calls Tryz.prog 115 #[.slice ao N cap, .func (.func 85) #[] #[.pointer (some ⟨b, 0, none⟩)]] w fun e w' => (∃ q : Int, e = .returned (.int .i64 q) ∧ P = decide (0 ≤ q)) ∧ Below w.heap.size w w') := by
    rw [← HP.out]; exact indexts_any L N ao cap b p w hL hN h hm
  rw [HP.out]
  clear hL h hm HP
  go_enter Tryz.func84, Tryz.ntmps84
  go_wp2_with fail
  refine HC.out.mono ?_
  rintro e w1 ⟨⟨q, rfl, hq⟩, hb1⟩
  clear HC
  by_cases h0 : 0 ≤ q
  · rw [decide_eq_true h0] at hq
    subst hq
    go_wp2
    go_ret
    exact ⟨rfl, hb1⟩
  · rw [decide_eq_false h0] at hq
    subst hq
    go_wp2
    go_ret
    exact ⟨by show Ending.returned (.bool (decide (0 ≤ q))) = _; rw [decide_eq_false (by omega)], hb1⟩
end Go.Proofs.YtnhbjhdkpbhioaaGreatDoor
