/- The reference's Name, Slot, slot. -/
import Derived.Deep.QuietTactic
import Derived.BigQuiet
import Derived.Deep.RegionWith
import Derived.Test.YtlniifheapoppaaGreatDoorG23
import Derived.Test.YtlniifheapoppaaGreatDoorG24
import Derived.Test.YtlniifheapoppaaGreatDoorG11
namespace Go.Proofs.YtlniifheapoppaaGreatDoor
open Go.RowKit

set_option maxHeartbeats 2000000 in
set_option maxRecDepth 4000 in
theorem rtname_any (x : Nd) (ao : Option Addr) (cap : Nat) (w : World) (hs : x.s.length ≤ 300000) :
    Calls Tryz.prog 39 #[ndV x ao cap] w fun e w' => e = .returned (.tuple #[.string (baL x.s), .bool (nameB x)]) ∧ Below w.heap.size w w' := by
  obtain ⟨K, A, I, Y, M, H, Hx⟩ := nd_open x ao cap
  have hy := good_lt Hx.out.2.2.2.1 hs
  obtain ⟨Q, HQ⟩ : ∃ Q, Hid (nameB x = Q) := ⟨_, rfl⟩
  rw [H.out, Hx.out.2.2.2.1, HQ.out]
  obtain ⟨W, hW⟩ : ∃ W, w.alloc (.cells #[.int .i64 K, .int .i64 A, .int .i64 I, .string Y, .slice ao M cap] 42) = W := ⟨_, rfl⟩
  have HB : Hid (Below w.heap.size w W) := by rw [← hW]; exact alloc_below _ _
  have hb := Bx.made w 42 #[.int .i64 K, .int .i64 A, .int .i64 I, .string Y, .slice ao M cap]
  rw [hW] at hb
  have n0 : W.cell? ⟨w.heap.size, 0, none⟩ = some (.int .i64 K) := hb.cell 0
  have n3 : W.cell? ⟨w.heap.size, 3, none⟩ = some (.string Y) := hb.cell 3
  by_cases hk : K = 2
  · obtain rfl : Q = goodB Y := by
      rw [← HQ.out]; unfold nameB; rw [Hx.out.1, Hx.out.2.2.2.1, decide_eq_true hk, Bool.true_and]
    subst hk
    clear Hx H hs hb HQ
    go_enter Tryz.func39, Tryz.ntmps39
    go_wp2
    go_quiet ((go_at_call 68; exact Calls.quiet_of_same (rgood_any Y _ hy)))
    all_goals
      go_wp2
      go_ret2
      exact ⟨rfl, below_drawn HB.out _⟩
  · have hd : (K == 2) = false := by simpa using hk
    obtain rfl : Q = false := by
      rw [← HQ.out]; unfold nameB; rw [Hx.out.1, decide_eq_false hk, Bool.false_and]
    clear Hx H hs hk hb HQ
    go_enter Tryz.func39, Tryz.ntmps39
    go_wp2
    go_quiet ((go_at_call 68; exact Calls.quiet_of_same (rgood_any Y _ hy)))
    all_goals
      go_wp2
      go_ret2
      exact ⟨rfl, below_drawn HB.out _⟩
def rplaceI (l : List Sl) (n : ByteArray) : Int := match placeS l n with
  | some p => (p : Int)
  | none => -1

set_option maxHeartbeats 2000000 in
set_option maxRecDepth 8000 in
theorem rtslot_any (t : Tp) (ao : Option Addr) (cap : Nat) (n : ByteArray) (w : World) (hN : t.l.length ≤ 1000) (h : IsSls w ao t.l) :
    Calls Tryz.prog 25 #[tmV t ao cap, .string n] w fun e w' => e = .returned (.int .i64 (rplaceI t.l n)) ∧ Below w.heap.size w w' := by
  unfold tmV
  obtain ⟨tn, l⟩ := t
  simp only at hN h ⊢
  obtain ⟨N, HN⟩ : ∃ N, Hid (l.length = N) := ⟨_, rfl⟩
  obtain ⟨P, HP⟩ : ∃ P, Hid (rplaceI l n = P) := ⟨_, rfl⟩
  rw [HN.out, HP.out]
  rw [HN.out] at hN
  have HI : Hid (IsSls w ao l) := h
  clear h
  go_enter Tryz.func25, Tryz.ntmps25
  go_wp2
  obtain ⟨W0, hW0⟩ : ∃ W0, w.alloc (.cells #[.string tn, .slice ao N cap] 45) = W0 := ⟨_, rfl⟩
  have HB0 : Hid (Below w.heap.size w W0) := by rw [← hW0]; exact alloc_below _ _
  have HX0 : Hid (Bx W0 w.heap.size #[.string tn, .slice ao N cap]) := Bx.made' hW0 rfl
  rw [hW0]
  clear hW0
  go_loopw [5] (fun q wr => ∃ k : Nat, k ≤ N ∧ q = .int .i64 k ∧ Hid (Below w.heap.size w wr) ∧ Hid (Bx wr w.heap.size #[.string tn, .slice ao N cap]) ∧ Hid (∀ m s, m < k → l[m]? = some s → s.n ≠ n)) (fun q _ => N - (intOf q).toNat)
  case atStart => exact ⟨0, Nat.zero_le _, rfl, HB0, HX0, fun m s hm => absurd hm (by omega)⟩
  case round =>
    obtain ⟨k, hk, rfl, HB, HX, HM⟩ := hrel
    clear HB0 HX0
    have x1 : wr.cell? ⟨w.heap.size, 1, none⟩ = some (.slice ao N cap) := HX.out.cell 1
    by_cases hlt : k < N
    · have hki : (k : Int) < (N : Int) := by omega
      have hk0 : (0 : Int) ≤ (k : Int) := by omega
      obtain ⟨s, hs⟩ : ∃ s, l[k]? = some s := ⟨_, List.getElem?_eq_getElem (by rw [HN.out]; exact hlt)⟩
      obtain ⟨b, o, rfl, c0, c1, c2, c3⟩ := (HI.out.next HB.out) k s hs
      have HS : Hid (l[k]? = some s) := hs
      obtain ⟨sn, sk, si, ss⟩ := s
      simp only at c0 c1 c2 c3
      clear hs
      by_cases he : sn = n
      · have hd : (sn.toList == n.toList) = true := by rw [beq_ba]; exact decide_eq_true he
        have hq : placeS l n = some k := place_at l n k _ HS.out he HM.out
        obtain rfl : P = (k : Int) := by rw [← HP.out]; unfold rplaceI; rw [hq]
        clear HM HS he hq HP HI
        go_wp2
        go_ret
        exact ⟨rfl, HB.out⟩
      · have hd : (sn.toList == n.toList) = false := by rw [beq_ba]; exact decide_eq_false he
        have HM2 : Hid (∀ m s, m < k + 1 → l[m]? = some s → s.n ≠ n) := fun m s hm hms => by
          by_cases e : m = k
          · subst e; rw [HS.out] at hms; cases hms; exact he
          · exact HM.out m s (by omega) hms
        clear HM HS he
        go_wp2
        go_roundw
        case rel => exact ⟨k + 1, by omega, by go_num, HB, HX, HM2⟩
        case measure => simp [intOf]; omega
    · have hki : ¬ (k : Int) < (N : Int) := by omega
      have hq : placeS l n = none := (place_none l n).2 fun s hs => by
        obtain ⟨m, hm⟩ := List.getElem?_of_mem hs
        exact HM.out m s (by have := (List.getElem?_eq_some_iff.1 hm).1; rw [HN.out] at this; omega) hm
      obtain rfl : P = -1 := by rw [← HP.out]; unfold rplaceI; rw [hq]
      clear HM hq HP HI
      go_wp2
      go_ret
      exact ⟨rfl, HB.out⟩

def RslR (Q : Sl × Bool) (e : Ending) : Prop := ∃ s, e = .returned (.tuple #[slV s, .bool Q.2]) ∧ (Q.2 = true → s = Q.1)

set_option maxHeartbeats 4000000 in
set_option maxRecDepth 8000 in
theorem rslot_any (x : Nd) (ao : Option Addr) (cap : Nat) (w : World) (hb : cntN x ≤ 100000) (hs : ∀ y ∈ x.l, y.s.length ≤ 300000) (hc : x.l.length ≤ cap) (hk : IsNds w anyB ao x.l) :
    Calls Tryz.prog 40 #[ndV x ao cap] w fun e w' => RslR (slotW x) e ∧ Below w.heap.size w w' := by
  have hcl : x.l.length ≤ 100000 := by have h1 := cntL_len x.l; unfold cntN at hb; omega
  have HKid : Hid (∀ y ∈ x.l, y.s.length ≤ 300000 ∧ y.l.length ≤ 300000) := fun y hy => ⟨hs y hy, by have h1 := cntL_mem x.l y hy; have h2 := cntL_len y.l; unfold cntN at hb h1; omega⟩
  obtain ⟨K, A, I, Y, M, H, Hx⟩ := nd_open x ao cap
  obtain ⟨X, HX⟩ : ∃ X, Hid (baL (headN x) = X) := ⟨_, rfl⟩
  have HHd : Hid (∀ w', Below w.heap.size w w' → Calls Tryz.prog 38 #[.agg #[.int .i64 (K), .int .i64 (A), .int .i64 (I), .string (Y), .slice ao M cap]] w' fun e w2 => e = .returned (.string X) ∧ Below w'.heap.size w' w2) := by
    rw [← H.out, ← HX.out]; exact fun w' h => rhead_any x ao cap w' (by omega) hc (hk.next h)
  have hML := Hx.out.2.2.2.2
  rw [hML] at hcl hc
  have HK : Hid (IsNds w anyB ao x.l) := hk
  rw [H.out]
  obtain ⟨Q, HQ⟩ : ∃ Q, Hid (slotW x = Q) := ⟨_, rfl⟩
  rw [HQ.out]
  obtain ⟨W, HWe⟩ : ∃ W, Hid ((w.alloc (.cells #[.int .i64 K, .int .i64 A, .int .i64 I, .string Y, .slice ao M cap] 42)).alloc (.cells #[.string ⟨#[]⟩, .int .i64 0, .int .i64 0, .string ⟨#[]⟩] 97) = W) := ⟨_, rfl⟩
  have HB : Hid (Below w.heap.size w W) := by rw [← HWe.out]; exact next_trans (alloc_below _ _) (alloc_below _ _)
  have HN : Hid (Bx W w.heap.size #[.int .i64 K, .int .i64 A, .int .i64 I, .string Y, .slice ao M cap]) := by rw [← HWe.out]; exact (Bx.made _ _ _).alloc _
  have HR : Hid (Bx W (w.heap.size + 1) #[.string ⟨#[]⟩, .int .i64 0, .int .i64 0, .string ⟨#[]⟩]) := Bx.made' HWe.out (by simp)
  clear hk hML hs hb
  go_enter Tryz.func40, Tryz.ntmps40
  go_wp2_with fail
  rw [HWe.out]
  clear HWe
  refine (HHd.out W HB.out).mono ?_
  rintro e w1 ⟨rfl, hb1⟩
  have HB1 : Hid (Below w.heap.size w w1) := next_trans HB.out hb1
  have HN1 : Hid (Bx w1 w.heap.size #[.int .i64 K, .int .i64 A, .int .i64 I, .string Y, .slice ao M cap]) := HN.out.next hb1
  have HR1 : Hid (Bx w1 (w.heap.size + 1) #[.string ⟨#[]⟩, .int .i64 0, .int .i64 0, .string ⟨#[]⟩]) := HR.out.next hb1
  have hlt : w.heap.size + 1 < w1.heap.size := HR1.out.lt
  have n4 : w1.cell? ⟨w.heap.size, 4, none⟩ = some (.slice ao M cap) := HN1.out.cell 4
  have r0 : w1.cell? ⟨w.heap.size + 1, 0, none⟩ = some (.string ⟨#[]⟩) := HR1.out.cell 0
  have r1 : w1.cell? ⟨w.heap.size + 1, 1, none⟩ = some (.int .i64 0) := HR1.out.cell 1
  have r2 : w1.cell? ⟨w.heap.size + 1, 2, none⟩ = some (.int .i64 0) := HR1.out.cell 2
  have r3 : w1.cell? ⟨w.heap.size + 1, 3, none⟩ = some (.string ⟨#[]⟩) := HR1.out.cell 3
  have rf := HR1.out.froz
  clear hb1 HHd HN HR HB
  by_cases hh : headN x = wSlot
  case neg =>
    have hx : (X.toList == [115, 108, 111, 116]) = false := s_ne HX hh
    obtain rfl : Q = (sl0, false) := by rw [← HQ.out]; exact slotW_head hh
    clear HQ H Hx HX hh HK HR1 HN1 HKid
    go_wp2
    refine bodyPost_ret (v := .tuple #[slV sl0, .bool false]) (by simp [results, Tryz.results40, go_sem, r0, r1, r2, r3, slV, sl0]) rfl ⟨⟨sl0, rfl, fun h => by cases h⟩, ?_⟩
    exact set_bel (set_bel (set_bel (set_bel HB1.out (by omega)) (by omega)) (by omega)) (by omega)
  have hx : (X.toList == [115, 108, 111, 116]) = true := s_eq HX hh
  by_cases hm : M < 2
  case pos =>
    have hmi : (M : Int) < 2 := by omega
    obtain rfl : Q = (sl0, false) := by rw [← HQ.out]; exact slotW_len (.inl (by rw [Hx.out.2.2.2.2]; exact hm))
    clear HQ H Hx HX hh HK HR1 HN1 HKid
    go_wp2
    refine bodyPost_ret (v := .tuple #[slV sl0, .bool false]) (by simp [results, Tryz.results40, go_sem, r0, r1, r2, r3, slV, sl0]) rfl ⟨⟨sl0, rfl, fun h => by cases h⟩, ?_⟩
    exact set_bel (set_bel (set_bel (set_bel HB1.out (by omega)) (by omega)) (by omega)) (by omega)
  have hmi : ¬ (M : Int) < 2 := by omega
  by_cases hm3 : 3 < M
  case pos =>
    have hmj : (3 : Int) < (M : Int) := by omega
    obtain rfl : Q = (sl0, false) := by rw [← HQ.out]; exact slotW_len (.inr (by rw [Hx.out.2.2.2.2]; exact hm3))
    clear HQ H Hx HX hh HK HR1 HN1 HKid
    go_wp2
    refine bodyPost_ret (v := .tuple #[slV sl0, .bool false]) (by simp [results, Tryz.results40, go_sem, r0, r1, r2, r3, slV, sl0]) rfl ⟨⟨sl0, rfl, fun h => by cases h⟩, ?_⟩
    exact set_bel (set_bel (set_bel (set_bel HB1.out (by omega)) (by omega)) (by omega)) (by omega)
  have hmj : ¬ (3 : Int) < (M : Int) := by omega
  obtain ⟨m, hm1⟩ := kid_at (l := x.l) (j := 1) (by rw [Hx.out.2.2.2.2]; omega)
  have HM1 : Hid (x.l[1]? = some m) := hm1
  obtain ⟨b, o, va, vc, K1, A1, I1, Y1, M1, rfl, H1, Hv, hw1, Hk1⟩ := kid_get (HK.out.next HB1.out) hm1
  have hm1s := (HKid.out m (List.mem_of_getElem? hm1)).1
  obtain ⟨N, HNm⟩ : ∃ N, Hid (nameB m = N) := ⟨_, rfl⟩
  have HY1 : Hid (baL m.s = Y1) := Hv.out.2.2.2.1
  have HV : Hid (∀ w', Calls Tryz.prog 39 #[.agg #[.int .i64 (K1), .int .i64 (A1), .int .i64 (I1), .string (Y1), .slice va M1 vc]] w' fun e w2 => e = .returned (.tuple #[.string Y1, .bool N]) ∧ Below w'.heap.size w' w2) := by
    rw [← H1.out, ← HNm.out, ← HY1.out]; exact fun w' => rtname_any m va vc w' hm1s
  have HW1 : Hid (KidW w1 b (o + 1 * 5) K1 A1 I1 Y1 va M1 vc) := hw1
  obtain ⟨c0, c1, c2, c3, c4⟩ := hw1
  clear H1 Hv Hk1 hm1 hm1s r0 r1 r2 r3 rf
  go_wp2_with fail
  refine (HV.out w1).mono ?_
  rintro e w2 ⟨rfl, hb2⟩
  have HB2 : Hid (Below w.heap.size w w2) := next_trans HB1.out hb2
  have HN2 : Hid (Bx w2 w.heap.size #[.int .i64 K, .int .i64 A, .int .i64 I, .string Y, .slice (some ⟨b, o, none⟩) M cap]) := HN1.out.next hb2
  have HR2 : Hid (Bx w2 (w.heap.size + 1) #[.string ⟨#[]⟩, .int .i64 0, .int .i64 0, .string ⟨#[]⟩]) := HR1.out.next hb2
  have hlt2 : w.heap.size + 1 < w2.heap.size := HR2.out.lt
  clear n4 c0 c1 c2 c3 c4 hb2 HN1 HR1 HW1 HB1 hlt HV hx HX
  cases N with
  | false =>
    obtain rfl : Q = (sl0, false) := by rw [← HQ.out]; exact slotW_name HM1.out HNm.out
    have r0 : w2.cell? ⟨w.heap.size + 1, 0, none⟩ = some (.string ⟨#[]⟩) := HR2.out.cell 0
    have r1 : w2.cell? ⟨w.heap.size + 1, 1, none⟩ = some (.int .i64 0) := HR2.out.cell 1
    have r2 : w2.cell? ⟨w.heap.size + 1, 2, none⟩ = some (.int .i64 0) := HR2.out.cell 2
    have r3 : w2.cell? ⟨w.heap.size + 1, 3, none⟩ = some (.string ⟨#[]⟩) := HR2.out.cell 3
    have rf := HR2.out.froz
    clear HQ H Hx hh HK HR2 HN2 HKid HNm HM1 HY1
    go_wp2
    refine bodyPost_ret (v := .tuple #[slV sl0, .bool false]) (by simp [results, Tryz.results40, go_sem, r0, r1, r2, r3, slV, sl0]) rfl ⟨⟨sl0, rfl, fun h => by cases h⟩, ?_⟩
    exact set_bel (set_bel (set_bel (set_bel HB2.out (by omega)) (by omega)) (by omega)) (by omega)
  | true =>
    go_wp2_with fail
    refine (rsym_any _ w2).mono ?_
    rintro e w3 ⟨rfl, hb3⟩
    have HB3 : Hid (Below w.heap.size w w3) := next_trans HB2.out hb3
    have HN3 : Hid (Bx w3 w.heap.size #[.int .i64 K, .int .i64 A, .int .i64 I, .string Y, .slice (some ⟨b, o, none⟩) M cap]) := HN2.out.next hb3
    have HR3 : Hid (Bx w3 (w.heap.size + 1) #[.string ⟨#[]⟩, .int .i64 0, .int .i64 0, .string ⟨#[]⟩]) := HR2.out.next hb3
    have hlt3 : w.heap.size + 1 < w3.heap.size := HR3.out.lt
    have hlt3a : w.heap.size < w3.heap.size := by omega
    have n4 : w3.cell? ⟨w.heap.size, 4, none⟩ = some (.slice (some ⟨b, o, none⟩) M cap) := HN3.out.cell 4
    clear hb3 HN2 HR2 HB2
    by_cases h2 : M = 2
    · subst h2
      obtain rfl : Q = (⟨Y1, 2, 0, baL wNil⟩, true) := by rw [← HQ.out, ← HY1.out]; exact slotW_two hh Hx.out.2.2.2.2 HM1.out HNm.out
      have r0 : w3.cell? ⟨w.heap.size + 1, 0, none⟩ = some (.string ⟨#[]⟩) := HR3.out.cell 0
      have r1 : w3.cell? ⟨w.heap.size + 1, 1, none⟩ = some (.int .i64 0) := HR3.out.cell 1
      have r2 : w3.cell? ⟨w.heap.size + 1, 2, none⟩ = some (.int .i64 0) := HR3.out.cell 2
      have r3 : w3.cell? ⟨w.heap.size + 1, 3, none⟩ = some (.string ⟨#[]⟩) := HR3.out.cell 3
      have rf := HR3.out.froz
      have F : Hid (Bx (((((w3.setCell ⟨w.heap.size + 1, 0, none⟩ (.string Y1)).setCell ⟨w.heap.size + 1, 1, none⟩ (.int .i64 2)).setCell ⟨w.heap.size + 1, 2, none⟩ (.int .i64 0)).setCell ⟨w.heap.size + 1, 3, none⟩ (.string ⟨#[110, 105, 108]⟩)).alloc (.cells #[.string Y1, .int .i64 2, .int .i64 0, .string ⟨#[110, 105, 108]⟩] 97)) (w.heap.size + 1) #[.string Y1, .int .i64 2, .int .i64 0, .string ⟨#[110, 105, 108]⟩]) := ((((HR3.out.set 0 _).set 1 _).set 2 _).set 3 _).alloc _
      clear HQ H Hx hh HK HN3 HR3 HKid HNm HM1 HY1
      go_wp2
      have f0 := F.out.cell 0
      have f1 := F.out.cell 1
      have f2 := F.out.cell 2
      have f3 := F.out.cell 3
      refine bodyPost_ret (v := .tuple #[slV ⟨Y1, 2, 0, baL wNil⟩, .bool true]) (by simp [results, Tryz.results40, go_sem, f0, f1, f2, f3, slV]; rfl) rfl ⟨⟨_, rfl, fun _ => rfl⟩, ?_⟩
      exact (set_bel (set_bel (set_bel (set_bel HB3.out (by omega)) (by omega)) (by omega)) (by omega)).alloc (by rw [set_size, set_size, set_size, set_size]; omega) _
    obtain rfl : M = 3 := by omega
    obtain ⟨d, hd1⟩ := kid_at (l := x.l) (j := 2) (by rw [Hx.out.2.2.2.2]; decide)
    obtain ⟨b', o', da, dc, K2, A2, I2, Y2, M2, heq, H2, Hv2, hw2, Hk2⟩ := kid_get (HK.out.next HB3.out) hd1
    obtain ⟨rfl, rfl⟩ : b' = b ∧ o' = o := by injection heq with h; injection h with h1 h2; exact ⟨h1.symm, h2.symm⟩
    have hd2 := (HKid.out d (List.mem_of_getElem? hd1)).2
    have HD1 : Hid (x.l[2]? = some d) := hd1
    have HQ3 : Hid (∀ v q, defW d = (v, q) → Q = if q = true then (⟨Y1, v.k, v.i, v.s⟩, true) else (sl0, false)) := fun v q hv => by
      rw [← HQ.out, ← HY1.out]; exact slotW_three hh Hx.out.2.2.2.2 HM1.out HD1.out HNm.out hv
    obtain ⟨Z, HZ⟩ : ∃ Z, Hid (baL (headN d) = Z) := ⟨_, rfl⟩
    have HHd2 : Hid (∀ w', Below w3.heap.size w3 w' → Calls Tryz.prog 38 #[.agg #[.int .i64 (K2), .int .i64 (A2), .int .i64 (I2), .string (Y2), .slice da M2 dc]] w' fun e w3 => e = .returned (.string Z) ∧ Below w'.heap.size w' w3) := by
      rw [← H2.out, ← HZ.out]; exact fun w' h => rhead_any d da dc w' hd2 Hk2.out.1 (Hk2.out.2.next h)
    have HKd : Hid (IsNds w3 anyB da d.l) := Hk2.out.2
    have HMd : Hid (d.l.length = M2 ∧ M2 ≤ dc ∧ M2 ≤ 300000) := ⟨Hv2.out.2.2.2.2, by rw [← Hv2.out.2.2.2.2]; exact Hk2.out.1, by rw [← Hv2.out.2.2.2.2]; exact hd2⟩
    obtain ⟨g0, g1, g2, g3, g4⟩ := hw2
    have hob : b' < w3.heap.size := World.block_lt_of_cell? w3 ⟨b', _, none⟩ g0
    obtain ⟨W5, HW5⟩ : ∃ W5, Hid ((w3.alloc (.cells #[.string Y1, .int .i64 2, .int .i64 0, .string ⟨#[110, 105, 108]⟩] 97)).alloc (.cells #[.int .i64 K2, .int .i64 A2, .int .i64 I2, .string Y2, .slice da M2 dc] 42) = W5) := ⟨_, rfl⟩
    obtain ⟨BX, HBX⟩ : ∃ BX, Hid (w3.heap.size = BX) := ⟨_, rfl⟩
    have HB45 : Hid (Below w3.heap.size w3 W5) := by rw [← HW5.out]; exact next_trans (alloc_below _ _) (alloc_below _ _)
    have HB5 : Hid (Below w.heap.size w W5) := next_trans HB3.out HB45.out
    have HR5 : Hid (Bx W5 (w.heap.size + 1) #[.string ⟨#[]⟩, .int .i64 0, .int .i64 0, .string ⟨#[]⟩]) := HR3.out.next HB45.out
    have HX5 : Hid (Bx W5 BX #[.string Y1, .int .i64 2, .int .i64 0, .string ⟨#[110, 105, 108]⟩]) := by rw [← HW5.out, ← HBX.out]; exact (Bx.made _ _ _).alloc _
    have HD5 : Hid (Bx W5 (BX + 1) #[.int .i64 K2, .int .i64 A2, .int .i64 I2, .string Y2, .slice da M2 dc]) := Bx.made' HW5.out (by rw [World.size_alloc, HBX.out])
    have HKd5 : Hid (IsNds W5 anyB da d.l) := HKd.out.next HB45.out
    have hbx : w.heap.size + 1 < BX := by rw [← HBX.out]; exact hlt3
    clear HQ H Hx hh HK HN3 HR3 HKid HNm HM1 HY1 H2 Hv2 Hk2 hd1 hd2 HD1 h2 HKd heq
    go_wp2_with fail
    rw [HW5.out, HBX.out]
    clear HW5 n4 g0 g1 g2 g3 g4
    refine (HHd2.out W5 HB45.out).mono ?_
    rintro e w6 ⟨rfl, hb6⟩
    have HB6 : Hid (Below w.heap.size w w6) := next_trans HB5.out hb6
    have HR6 : Hid (Bx w6 (w.heap.size + 1) #[.string ⟨#[]⟩, .int .i64 0, .int .i64 0, .string ⟨#[]⟩]) := HR5.out.next hb6
    have HX6 : Hid (Bx w6 BX #[.string Y1, .int .i64 2, .int .i64 0, .string ⟨#[110, 105, 108]⟩]) := HX5.out.next hb6
    have HD6 : Hid (Bx w6 (BX + 1) #[.int .i64 K2, .int .i64 A2, .int .i64 I2, .string Y2, .slice da M2 dc]) := HD5.out.next hb6
    have HKd6 : Hid (IsNds w6 anyB da d.l) := HKd5.out.next hb6
    clear hb6 HR5 HX5 HD5 HKd5 HB45 HHd2 HB5 HB3 HBX
    have d4 : w6.cell? ⟨BX + 1, 4, none⟩ = some (.slice da M2 dc) := HD6.out.cell 4
    by_cases hh2 : headN d = wDef
    case neg =>
      have hx2 : (Z.toList == [100, 101, 102, 97, 117, 108, 116]) = false := s_ne HZ hh2
      obtain rfl : Q = (sl0, false) := HQ3.out _ _ (defW_head hh2)
      have r0 : w6.cell? ⟨w.heap.size + 1, 0, none⟩ = some (.string ⟨#[]⟩) := HR6.out.cell 0
      have r1 : w6.cell? ⟨w.heap.size + 1, 1, none⟩ = some (.int .i64 0) := HR6.out.cell 1
      have r2 : w6.cell? ⟨w.heap.size + 1, 2, none⟩ = some (.int .i64 0) := HR6.out.cell 2
      have r3 : w6.cell? ⟨w.heap.size + 1, 3, none⟩ = some (.string ⟨#[]⟩) := HR6.out.cell 3
      have rf := HR6.out.froz
      clear HQ3 HR6 HX6 HD6 HKd6 hh2
      go_wp2
      refine bodyPost_ret (v := .tuple #[slV sl0, .bool false]) (by simp [results, Tryz.results40, go_sem, r0, r1, r2, r3, slV, sl0]) rfl ⟨⟨sl0, rfl, fun h => by cases h⟩, ?_⟩
      exact set_bel (set_bel (set_bel (set_bel HB6.out (by omega)) (by omega)) (by omega)) (by omega)
    have hx2 : (Z.toList == [100, 101, 102, 97, 117, 108, 116]) = true := s_eq HZ hh2
    by_cases hm2 : M2 = 2
    case neg =>
      have hd2 : ((M2 : Int) == 2) = false := by simp; omega
      obtain rfl : Q = (sl0, false) := HQ3.out _ _ (defW_len (by rw [HMd.out.1]; exact hm2))
      have r0 : w6.cell? ⟨w.heap.size + 1, 0, none⟩ = some (.string ⟨#[]⟩) := HR6.out.cell 0
      have r1 : w6.cell? ⟨w.heap.size + 1, 1, none⟩ = some (.int .i64 0) := HR6.out.cell 1
      have r2 : w6.cell? ⟨w.heap.size + 1, 2, none⟩ = some (.int .i64 0) := HR6.out.cell 2
      have r3 : w6.cell? ⟨w.heap.size + 1, 3, none⟩ = some (.string ⟨#[]⟩) := HR6.out.cell 3
      have rf := HR6.out.froz
      clear HQ3 HR6 HX6 HD6 HKd6 hh2 hm2
      go_wp2
      refine bodyPost_ret (v := .tuple #[slV sl0, .bool false]) (by simp [results, Tryz.results40, go_sem, r0, r1, r2, r3, slV, sl0]) rfl ⟨⟨sl0, rfl, fun h => by cases h⟩, ?_⟩
      exact set_bel (set_bel (set_bel (set_bel HB6.out (by omega)) (by omega)) (by omega)) (by omega)
    subst hm2
    obtain ⟨v, hv⟩ := kid_at (l := d.l) (j := 1) (by rw [HMd.out.1]; decide)
    obtain ⟨b3, o3, ea, ec, K3, A3, I3, Y3, M3, rfl, H3, Hv3, hw3, Hk3⟩ := kid_get HKd6.out hv
    obtain ⟨q1, q2, q3, q4, Hq⟩ : ∃ q1 q2 q3 q4, Hid ((valN v).1 = q1 ∧ (valN v).2.1 = q2 ∧ baL (valN v).2.2.1 = q3 ∧ (valN v).2.2.2 = q4) := ⟨_, _, _, _, rfl, rfl, rfl, rfl⟩
    have HV3 : Hid (∀ w', Calls Tryz.prog 69 #[.agg #[.int .i64 (K3), .int .i64 (A3), .int .i64 (I3), .string (Y3), .slice ea M3 ec]] w' fun e w2 => e = .returned (.tuple #[.agg #[.int .i64 (q1), .int .i64 (q2), .string (q3)], .bool q4]) ∧ Below w'.heap.size w' w2) := by
      rw [← H3.out, ← Hq.out.1, ← Hq.out.2.1, ← Hq.out.2.2.1, ← Hq.out.2.2.2]; exact fun w' => rvalue_any5 v ea ec w'
    have HQ4 : Hid (Q = if q4 = true then (⟨Y1, q1, q2, q3⟩, true) else (sl0, false)) := by
      have := HQ3.out _ _ (defW_yes hh2 HMd.out.1 hv)
      rw [Hq.out.1, Hq.out.2.1, Hq.out.2.2.1, Hq.out.2.2.2] at this
      exact this
    obtain ⟨c0, c1, c2, c3, c4⟩ := hw3
    clear H3 Hv3 Hk3 hv HQ3 HKd6 HD6 hh2 Hq HMd
    go_wp2_with fail
    refine (HV3.out w6).mono ?_
    rintro e w7 ⟨rfl, hb7⟩
    have HB7 : Hid (Below w.heap.size w w7) := next_trans HB6.out hb7
    have HR7 : Hid (Bx w7 (w.heap.size + 1) #[.string ⟨#[]⟩, .int .i64 0, .int .i64 0, .string ⟨#[]⟩]) := HR6.out.next hb7
    have HX7 : Hid (Bx w7 BX #[.string Y1, .int .i64 2, .int .i64 0, .string ⟨#[110, 105, 108]⟩]) := HX6.out.next hb7
    have hlt7 : BX < w7.heap.size := HX7.out.lt
    clear hb7 HR6 HX6 HB6 HV3 d4 c0 c1 c2 c3 c4
    have x0 : w7.cell? ⟨BX, 0, none⟩ = some (.string Y1) := HX7.out.cell 0
    have x1 : w7.cell? ⟨BX, 1, none⟩ = some (.int .i64 2) := HX7.out.cell 1
    have x2 : w7.cell? ⟨BX, 2, none⟩ = some (.int .i64 0) := HX7.out.cell 2
    have x3 : w7.cell? ⟨BX, 3, none⟩ = some (.string ⟨#[110, 105, 108]⟩) := HX7.out.cell 3
    have xf := HX7.out.froz
    have r0 : w7.cell? ⟨w.heap.size + 1, 0, none⟩ = some (.string ⟨#[]⟩) := HR7.out.cell 0
    have r1 : w7.cell? ⟨w.heap.size + 1, 1, none⟩ = some (.int .i64 0) := HR7.out.cell 1
    have r2 : w7.cell? ⟨w.heap.size + 1, 2, none⟩ = some (.int .i64 0) := HR7.out.cell 2
    have r3 : w7.cell? ⟨w.heap.size + 1, 3, none⟩ = some (.string ⟨#[]⟩) := HR7.out.cell 3
    have rf := HR7.out.froz
    have hlt7r : w.heap.size + 1 < w7.heap.size := by omega
    have hne1 : ¬ BX = w.heap.size + 1 := by omega
    have hne2 : ¬ w.heap.size + 1 = BX := by omega
    go_wp2
    obtain ⟨S, HS⟩ : ∃ S, Hid (((w7.setCell ⟨BX, 1, none⟩ (.int .i64 q1)).setCell ⟨BX, 2, none⟩ (.int .i64 q2)).setCell ⟨BX, 3, none⟩ (.string q3) = S) := ⟨_, rfl⟩
    have HRS : Hid (Bx S (w.heap.size + 1) #[.string ⟨#[]⟩, .int .i64 0, .int .i64 0, .string ⟨#[]⟩]) := by
      rw [← HS.out]; exact ((HR7.out.off hne2 _ _).off hne2 _ _).off hne2 _ _
    have HBS : Hid (Below w.heap.size w S) := by rw [← HS.out]; exact set_bel (set_bel (set_bel HB7.out (by omega)) (by omega)) (by omega)
    have hlS : w.heap.size + 1 < S.heap.size := HRS.out.lt
    have F : Hid (Bx (((((S.setCell ⟨w.heap.size + 1, 0, none⟩ (.string Y1)).setCell ⟨w.heap.size + 1, 1, none⟩ (.int .i64 q1)).setCell ⟨w.heap.size + 1, 2, none⟩ (.int .i64 q2)).setCell ⟨w.heap.size + 1, 3, none⟩ (.string q3)).alloc (.cells #[.int .i64 q1, .int .i64 q2, .string q3] 61)) (w.heap.size + 1) #[.string Y1, .int .i64 q1, .int .i64 q2, .string q3]) := ((((HRS.out.set 0 _).set 1 _).set 2 _).set 3 _).alloc _
    rw [HS.out]
    have f0 := F.out.cell 0
    have f1 := F.out.cell 1
    have f2 := F.out.cell 2
    have f3 := F.out.cell 3
    refine bodyPost_ret (v := .tuple #[slV ⟨Y1, q1, q2, q3⟩, .bool q4]) (by simp [results, Tryz.results40, go_sem, f0, f1, f2, f3, slV]) rfl ⟨?_, ?_⟩
    · cases q4 with
      | true => obtain rfl := HQ4.out; exact ⟨_, rfl, fun _ => rfl⟩
      | false => obtain rfl := HQ4.out; exact ⟨_, rfl, fun h => by cases h⟩
    · exact (set_bel (set_bel (set_bel (set_bel HBS.out (by omega)) (by omega)) (by omega)) (by omega)).alloc (by rw [set_size, set_size, set_size, set_size]; omega) _
end Go.Proofs.YtlniifheapoppaaGreatDoor
/- The reference's Parse of a template. -/
namespace Go.Proofs.YtlniifheapoppaaGreatDoor
open Go.RowKit

/-- What the reference's Parse tells. -/
structure TrR (x : Nd) (w w' : World) (e : Ending) : Prop where
  bel : Below w.heap.size w w'
  res : (∃ t ao cap, parT x = .ok t ∧ e = .returned (.tuple #[tmV t ao cap, .agg #[.slice none 0 0, .int .i64 0]]) ∧ t.l.length ≤ cap ∧ IsSls w' ao t.l) ∨
    (∃ (a : Nat) (f : Int) (b : Nat), parT x = .error (a, f) ∧ e = .returned (.tuple #[.agg #[.string ⟨#[]⟩, .slice none 0 0], .agg #[.slice (some ⟨b, 0, none⟩) 1 1, .int .i64 f]]) ∧ PtAt w' b (a : Int))
/-- Its boxes. -/
structure TrW (w wr : World) (K A I : Int) (Y : ByteArray) (ao : Option Addr) (M cap : Nat) : Prop where
  bel : Below w.heap.size w wr
  n : Bx wr w.heap.size #[.int .i64 K, .int .i64 A, .int .i64 I, .string Y, .slice ao M cap]
  r : Bx wr (w.heap.size + 1) #[.string ⟨#[]⟩, .slice none 0 0]
  g : Bx wr (w.heap.size + 2) #[.slice none 0 0, .int .i64 0]
  z : Bx wr (w.heap.size + 3) #[.string ⟨#[]⟩, .slice none 0 0]
theorem TrW.next {w wr w' : World} {K A I : Int} {Y : ByteArray} {ao : Option Addr} {M cap : Nat} (h : TrW w wr K A I Y ao M cap) (hb : Below wr.heap.size wr w') : TrW w w' K A I Y ao M cap :=
  ⟨next_trans h.bel hb, h.n.next hb, h.r.next hb, h.g.next hb, h.z.next hb⟩
theorem PtAt.set {w : World} {b k j : Nat} {a : Int} {u : Value} (h : PtAt w b a) (hn : b ≠ k) : PtAt (w.setCell ⟨k, j, none⟩ u) b a := h.keep (Below.heap_setCell _ _ _ _ hn)
theorem tr_bad {x : Nd} {w w3 : World} {a : Nat} {f : Int} {b : Nat} {u0 u1 u2 u3 : Value} (he : parT x = .error (a, f)) (hB : Below w.heap.size w w3) (hb : w.heap.size + 3 < b) (hp : PtAt w3 b (a : Int)) :
    TrR x w ((((w3.setCell ⟨w.heap.size + 1, 0, none⟩ u0).setCell ⟨w.heap.size + 1, 1, none⟩ u1).setCell ⟨w.heap.size + 2, 0, none⟩ u2).setCell ⟨w.heap.size + 2, 1, none⟩ u3) (.returned (.tuple #[.agg #[.string ⟨#[]⟩, .slice none 0 0], .agg #[.slice (some ⟨b, 0, none⟩) 1 1, .int .i64 f]])) :=
  ⟨set_bel (set_bel (set_bel (set_bel hB (by omega)) (by omega)) (by omega)) (by omega), .inr ⟨a, f, b, he, rfl, (((hp.set (by omega)).set (by omega)).set (by omega)).set (by omega)⟩⟩
theorem tr_bad2 {x : Nd} {w w3 : World} {a : Nat} {f : Int} {b : Nat} {u0 u1 u2 u3 : Value} (he : parT x = .error (a, f)) (hB : Below w.heap.size w w3) (hb : w.heap.size + 3 < b) (hp : PtAt w3 b (a : Int)) :
    TrR x w ((((w3.setCell ⟨w.heap.size + 2, 0, none⟩ u2).setCell ⟨w.heap.size + 2, 1, none⟩ u3).setCell ⟨w.heap.size + 1, 0, none⟩ u0).setCell ⟨w.heap.size + 1, 1, none⟩ u1) (.returned (.tuple #[.agg #[.string ⟨#[]⟩, .slice none 0 0], .agg #[.slice (some ⟨b, 0, none⟩) 1 1, .int .i64 f]])) :=
  ⟨set_bel (set_bel (set_bel (set_bel hB (by omega)) (by omega)) (by omega)) (by omega), .inr ⟨a, f, b, he, rfl, (((hp.set (by omega)).set (by omega)).set (by omega)).set (by omega)⟩⟩

set_option maxHeartbeats 16000000 in
set_option maxRecDepth 8000 in
theorem trparse_any (x : Nd) (ao : Option Addr) (cap : Nat) (w : World) (hb : cntN x ≤ 100000) (hs : ∀ y ∈ x.l, y.s.length ≤ 300000 ∧ ∀ z ∈ y.l, z.s.length ≤ 300000) (hc : x.l.length ≤ cap) (hk : IsNds w anyB ao x.l) :
    Calls Tryz.prog 10 #[ndV x ao cap] w fun e w' => TrR x w w' e := by
  have hcl : x.l.length ≤ 100000 := by have h1 := cntL_len x.l; unfold cntN at hb; omega
  have HKid : Hid (∀ y ∈ x.l, (y.s.length ≤ 300000 ∧ ∀ z ∈ y.l, z.s.length ≤ 300000) ∧ cntN y ≤ 100000) := fun y hy => ⟨hs y hy, by have h1 := cntL_mem x.l y hy; unfold cntN at hb; omega⟩
  obtain ⟨K, A, I, Y, M, H, Hx⟩ := nd_open x ao cap
  obtain ⟨X, HX⟩ : ∃ X, Hid (baL (headN x) = X) := ⟨_, rfl⟩
  have HHd : Hid (∀ w', Below w.heap.size w w' → Calls Tryz.prog 38 #[.agg #[.int .i64 (K), .int .i64 (A), .int .i64 (I), .string (Y), .slice ao M cap]] w' fun e w2 => e = .returned (.string X) ∧ Below w'.heap.size w' w2) := by
    rw [← H.out, ← HX.out]; exact fun w' h => rhead_any x ao cap w' (by omega) hc (hk.next h)
  have hML := Hx.out.2.2.2.2
  have HCL : Hid (x.l.length ≤ cap) := hc
  rw [hML] at hcl hc
  have HK : Hid (IsNds w anyB ao x.l) := hk
  rw [H.out]
  have HAx : Hid ((x.a : Int) = A) := Hx.out.2.1
  have HMx : Hid (x.l.length = M) := hML
  have HAt : Hid (∀ (a f : Int) (W : World), Calls Tryz.prog 29 #[.string ⟨#[99, 104, 97, 114]⟩, .int .i64 a, .int .i64 f] W fun e w' => (∃ b, e = .returned (.agg #[.slice (some ⟨b, 0, none⟩) 1 1, .int .i64 f]) ∧ W.heap.size ≤ b ∧ PtAt w' b a) ∧ Below W.heap.size W w') := wat_ex
  obtain ⟨W, HWe⟩ : ∃ W, Hid ((((w.alloc (.cells #[.int .i64 K, .int .i64 A, .int .i64 I, .string Y, .slice ao M cap] 42)).alloc (.cells #[.string ⟨#[]⟩, .slice none 0 0] 45)).alloc (.cells #[.slice none 0 0, .int .i64 0] 27)).alloc (.cells #[.string ⟨#[]⟩, .slice none 0 0] 45) = W) := ⟨_, rfl⟩
  have HT : Hid (TrW w W K A I Y ao M cap) := by
    refine ⟨?_, ?_, ?_, ?_, ?_⟩
    · rw [← HWe.out]; exact next_trans (next_trans (next_trans (alloc_below _ _) (alloc_below _ _)) (alloc_below _ _)) (alloc_below _ _)
    · rw [← HWe.out]; exact (((Bx.made _ _ _).alloc _).alloc _).alloc _
    · rw [← HWe.out]; exact ((Bx.made' rfl (by simp)).alloc _).alloc _
    · rw [← HWe.out]; exact (Bx.made' rfl (by simp)).alloc _
    · exact Bx.made' HWe.out (by simp)
  clear hk hML hs hb Hx H
  go_enter Tryz.func10, Tryz.ntmps10
  go_wp2_with fail
  rw [HWe.out]
  clear HWe
  refine (HHd.out W HT.out.bel).mono ?_
  rintro e w1 ⟨rfl, hb1⟩
  have HT1 : Hid (TrW w w1 K A I Y ao M cap) := HT.out.next hb1
  have hl3 : w.heap.size + 3 < w1.heap.size := HT1.out.z.lt
  clear hb1 HHd HT
  have n1 : w1.cell? ⟨w.heap.size, 1, none⟩ = some (.int .i64 A) := HT1.out.n.cell 1
  have n4 : w1.cell? ⟨w.heap.size, 4, none⟩ = some (.slice ao M cap) := HT1.out.n.cell 4
  have z0 : w1.cell? ⟨w.heap.size + 3, 0, none⟩ = some (.string ⟨#[]⟩) := HT1.out.z.cell 0
  have z1 : w1.cell? ⟨w.heap.size + 3, 1, none⟩ = some (.slice none 0 0) := HT1.out.z.cell 1
  by_cases hh : headN x = wTmpl
  case neg =>
    have hx : (X.toList == [100, 101, 102, 116, 101, 109, 112, 108, 97, 116, 101]) = false := s_ne HX hh
    have HEr : Hid (parT x = .error (x.a, 2)) := parT_head hh
    clear HX hh HK HKid
    go_wp2
    go_region_with (go_at_call 29; refine (HAt.out _ _ _).mono ?_; rintro e w9 ⟨⟨bq, rfl, hbq, hpq⟩, hb9⟩; have HT9 : Hid (TrW w w9 K A I Y ao M cap) := HT1.out.next (by first | exact below_undrawn hb9 | exact hb9); have r0 : w9.cell? ⟨w.heap.size + 1, 0, none⟩ = some (.string ⟨#[]⟩) := HT9.out.r.cell 0; have r1 : w9.cell? ⟨w.heap.size + 1, 1, none⟩ = some (.slice none 0 0) := HT9.out.r.cell 1; have rf := HT9.out.r.froz; have g0 : w9.cell? ⟨w.heap.size + 2, 0, none⟩ = some (.slice none 0 0) := HT9.out.g.cell 0; have g1 : w9.cell? ⟨w.heap.size + 2, 1, none⟩ = some (.int .i64 0) := HT9.out.g.cell 1; have gf := HT9.out.g.froz; have z0 : w9.cell? ⟨w.heap.size + 3, 0, none⟩ = some (.string ⟨#[]⟩) := HT9.out.z.cell 0; have z1 : w9.cell? ⟨w.heap.size + 3, 1, none⟩ = some (.slice none 0 0) := HT9.out.z.cell 1)
    all_goals
      have HB9 : Hid (Below w.heap.size w w9) := HT9.out.bel
      have HPq : Hid (PtAt w9 bq (x.a : Int)) := by rw [HAx.out]; exact hpq
      have hbq2 : w.heap.size + 3 < bq := by first | (simp at hbq; omega) | omega
      clear HT9 hb9 hpq hbq
      go_wp2
      refine bodyPost_ret (v := .tuple #[.agg #[.string ⟨#[]⟩, .slice none 0 0], .agg #[.slice (some ⟨bq, 0, none⟩) 1 1, .int .i64 2]]) (by simp [results, Tryz.results10, go_sem, r0, r1, g0, g1]) rfl ?_
      first
        | exact tr_bad HEr.out HB9.out hbq2 HPq.out
        | exact tr_bad2 HEr.out HB9.out hbq2 HPq.out
  have hx : (X.toList == [100, 101, 102, 116, 101, 109, 112, 108, 97, 116, 101]) = true := s_eq HX hh
  by_cases hm : M < 2
  case pos =>
    have hmi : (M : Int) < 2 := by omega
    have HEr : Hid (parT x = .error (x.a, 2)) := parT_len (by rw [HMx.out]; exact hm)
    clear HX hh HK HKid
    go_wp2
    go_region_with (go_at_call 29; refine (HAt.out _ _ _).mono ?_; rintro e w9 ⟨⟨bq, rfl, hbq, hpq⟩, hb9⟩; have HT9 : Hid (TrW w w9 K A I Y ao M cap) := HT1.out.next (by first | exact below_undrawn hb9 | exact hb9); have r0 : w9.cell? ⟨w.heap.size + 1, 0, none⟩ = some (.string ⟨#[]⟩) := HT9.out.r.cell 0; have r1 : w9.cell? ⟨w.heap.size + 1, 1, none⟩ = some (.slice none 0 0) := HT9.out.r.cell 1; have rf := HT9.out.r.froz; have g0 : w9.cell? ⟨w.heap.size + 2, 0, none⟩ = some (.slice none 0 0) := HT9.out.g.cell 0; have g1 : w9.cell? ⟨w.heap.size + 2, 1, none⟩ = some (.int .i64 0) := HT9.out.g.cell 1; have gf := HT9.out.g.froz; have z0 : w9.cell? ⟨w.heap.size + 3, 0, none⟩ = some (.string ⟨#[]⟩) := HT9.out.z.cell 0; have z1 : w9.cell? ⟨w.heap.size + 3, 1, none⟩ = some (.slice none 0 0) := HT9.out.z.cell 1)
    all_goals
      have HB9 : Hid (Below w.heap.size w w9) := HT9.out.bel
      have HPq : Hid (PtAt w9 bq (x.a : Int)) := by rw [HAx.out]; exact hpq
      have hbq2 : w.heap.size + 3 < bq := by first | (simp at hbq; omega) | omega
      clear HT9 hb9 hpq hbq
      go_wp2
      refine bodyPost_ret (v := .tuple #[.agg #[.string ⟨#[]⟩, .slice none 0 0], .agg #[.slice (some ⟨bq, 0, none⟩) 1 1, .int .i64 2]]) (by simp [results, Tryz.results10, go_sem, r0, r1, g0, g1]) rfl ?_
      first
        | exact tr_bad HEr.out HB9.out hbq2 HPq.out
        | exact tr_bad2 HEr.out HB9.out hbq2 HPq.out
  have hmi : ¬ (M : Int) < 2 := by omega
  obtain ⟨m, hm1⟩ := kid_at (l := x.l) (j := 1) (by rw [HMx.out]; omega)
  have HM1 : Hid (x.l[1]? = some m) := hm1
  obtain ⟨b, o, va, vc, K1, A1, I1, Y1, M1, rfl, H1, Hv, hw1, Hk1⟩ := kid_get (HK.out.next HT1.out.bel) hm1
  have hm1s := (HKid.out m (List.mem_of_getElem? hm1)).1.1
  obtain ⟨N, HNm⟩ : ∃ N, Hid (nameB m = N) := ⟨_, rfl⟩
  have HY1 : Hid (baL m.s = Y1) := Hv.out.2.2.2.1
  have HV : Hid (∀ w', Calls Tryz.prog 39 #[.agg #[.int .i64 (K1), .int .i64 (A1), .int .i64 (I1), .string (Y1), .slice va M1 vc]] w' fun e w2 => e = .returned (.tuple #[.string Y1, .bool N]) ∧ Below w'.heap.size w' w2) := by
    rw [← H1.out, ← HNm.out, ← HY1.out]; exact fun w' => rtname_any m va vc w' hm1s
  obtain ⟨c0, c1, c2, c3, c4⟩ := hw1
  clear H1 Hv Hk1 hm1 hm1s
  go_wp2_with fail
  refine (HV.out w1).mono ?_
  rintro e w2 ⟨rfl, hb2⟩
  have HT2 : Hid (TrW w w2 K A I Y (some ⟨b, o, none⟩) M cap) := HT1.out.next hb2
  have hl4 : w.heap.size + 3 < w2.heap.size := HT2.out.z.lt
  clear n1 n4 z0 z1 c0 c1 c2 c3 c4 hb2 HT1 HV hx HX hl3
  cases N with
  | false =>
    have HEr : Hid (parT x = .error (x.a, 2)) := parT_name HM1.out HNm.out
    have n1 : w2.cell? ⟨w.heap.size, 1, none⟩ = some (.int .i64 A) := HT2.out.n.cell 1
    have n4 : w2.cell? ⟨w.heap.size, 4, none⟩ = some (.slice (some ⟨b, o, none⟩) M cap) := HT2.out.n.cell 4
    have z0 : w2.cell? ⟨w.heap.size + 3, 0, none⟩ = some (.string ⟨#[]⟩) := HT2.out.z.cell 0
    have z1 : w2.cell? ⟨w.heap.size + 3, 1, none⟩ = some (.slice none 0 0) := HT2.out.z.cell 1
    clear hh HK HKid HM1 HNm HY1
    go_wp2
    go_region_with (go_at_call 29; refine (HAt.out _ _ _).mono ?_; rintro e w9 ⟨⟨bq, rfl, hbq, hpq⟩, hb9⟩; have HT9 : Hid (TrW w w9 K A I Y (some ⟨b, o, none⟩) M cap) := HT2.out.next (by first | exact below_undrawn hb9 | exact hb9); have r0 : w9.cell? ⟨w.heap.size + 1, 0, none⟩ = some (.string ⟨#[]⟩) := HT9.out.r.cell 0; have r1 : w9.cell? ⟨w.heap.size + 1, 1, none⟩ = some (.slice none 0 0) := HT9.out.r.cell 1; have rf := HT9.out.r.froz; have g0 : w9.cell? ⟨w.heap.size + 2, 0, none⟩ = some (.slice none 0 0) := HT9.out.g.cell 0; have g1 : w9.cell? ⟨w.heap.size + 2, 1, none⟩ = some (.int .i64 0) := HT9.out.g.cell 1; have gf := HT9.out.g.froz; have z0 : w9.cell? ⟨w.heap.size + 3, 0, none⟩ = some (.string ⟨#[]⟩) := HT9.out.z.cell 0; have z1 : w9.cell? ⟨w.heap.size + 3, 1, none⟩ = some (.slice none 0 0) := HT9.out.z.cell 1)
    all_goals
      have HB9 : Hid (Below w.heap.size w w9) := HT9.out.bel
      have HPq : Hid (PtAt w9 bq (x.a : Int)) := by rw [HAx.out]; exact hpq
      have hbq2 : w.heap.size + 3 < bq := by first | (simp at hbq; omega) | omega
      clear HT9 hb9 hpq hbq
      go_wp2
      refine bodyPost_ret (v := .tuple #[.agg #[.string ⟨#[]⟩, .slice none 0 0], .agg #[.slice (some ⟨bq, 0, none⟩) 1 1, .int .i64 2]]) (by simp [results, Tryz.results10, go_sem, r0, r1, g0, g1]) rfl ?_
      first
        | exact tr_bad HEr.out HB9.out hbq2 HPq.out
        | exact tr_bad2 HEr.out HB9.out hbq2 HPq.out
  | true =>
    have HP : Hid (parT x = match runT [] (x.l.drop 2) with
      | .ok l => .ok ⟨Y1, l⟩
      | .error p => .error p) := by rw [Hid, ← HY1.out]; exact parT_go hh HM1.out HNm.out
    obtain ⟨W3, HW3⟩ : ∃ W3, Hid (w2.alloc (.cells #[.string Y1, .slice none 0 0] 45) = W3) := ⟨_, rfl⟩
    obtain ⟨TB, HTB⟩ : ∃ TB, Hid (w2.heap.size = TB) := ⟨_, rfl⟩
    have HT3 : Hid (TrW w W3 K A I Y (some ⟨b, o, none⟩) M cap) := by rw [← HW3.out]; exact HT2.out.next (alloc_below _ _)
    have HX3 : Hid (Bx W3 TB #[.string Y1, .slice none 0 0]) := Bx.made' HW3.out HTB.out
    have hl5 : w.heap.size + 3 < TB := by rw [← HTB.out]; exact hl4
    clear HT2 HM1 HNm HY1 hh hl4
    go_wp2
    rw [HW3.out, HTB.out]
    clear HW3 HTB
    go_loopw [8] (fun q wr => ∃ (k : Nat) (acc : List Sl) (v : Value), 2 ≤ k ∧ k ≤ M ∧ q = .int .i64 k ∧ acc.length ≤ 16 ∧ Hid (TrW w wr K A I Y (some ⟨b, o, none⟩) M cap) ∧ Hid (Bx wr TB #[.string Y1, v]) ∧ Hid (wr.ownsRow (TB + 1) 97 4 v acc.length (slsC acc)) ∧ Hid (runT acc (x.l.drop k) = runT [] (x.l.drop 2))) (fun q _ => M - (intOf q).toNat)
    case atStart => exact ⟨2, [], _, by omega, by omega, rfl, Nat.zero_le _, HT3, HX3, World.ownsRow_nil _ _ _ _, rfl⟩
    case round =>
      obtain ⟨k, acc, v, hk2, hk, rfl, hak, HT, HXt, HO, HRun⟩ := hrel
      clear HT3 HX3
      have htb := HXt.out.lt
      obtain ⟨to, tc, hv, hsl2, hcap2⟩ := own_sls rfl HO.out
      subst hv
      obtain ⟨C, HC⟩ : ∃ C, Hid (acc.length = C) := ⟨_, rfl⟩
      have n4 : wr.cell? ⟨w.heap.size, 4, none⟩ = some (.slice (some ⟨b, o, none⟩) M cap) := HT.out.n.cell 4
      have t0 : wr.cell? ⟨TB, 0, none⟩ = some (.string Y1) := HXt.out.cell 0
      have t1 : wr.cell? ⟨TB, 1, none⟩ = some (.slice to C tc) := by rw [← HC.out]; exact HXt.out.cell 1
      by_cases hlt : k < M
      · have hki : (k : Int) < (M : Int) := by omega
        have hk0 : (0 : Int) ≤ (k : Int) := by omega
        obtain ⟨y, hy⟩ := kid_at (l := x.l) (j := k) (by rw [HMx.out]; exact hlt)
        obtain ⟨b2, o2, ya, yc, K2, A2, I2, Y2, M2, heq, H2, Hy2, hw2, Hk2⟩ := kid_get (HK.out.next HT.out.bel) hy
        obtain ⟨rfl, rfl⟩ : b2 = b ∧ o2 = o := by injection heq with h; injection h with h1 h2; exact ⟨h1.symm, h2.symm⟩
        have hyk := HKid.out y (List.mem_of_getElem? hy)
        have HYk : Hid (x.l[k]? = some y) := hy
        obtain ⟨E, HE⟩ : ∃ E, Hid (slotW y = E) := ⟨_, rfl⟩
        obtain ⟨⟨en, ek, ei, es⟩, eb⟩ := E
        have HSl : Hid (∀ w', Below wr.heap.size wr w' → Calls Tryz.prog 40 #[.agg #[.int .i64 (K2), .int .i64 (A2), .int .i64 (I2), .string (Y2), .slice ya M2 yc]] w' fun e w2 => (∃ s : Sl, e = .returned (.tuple #[.agg #[.string s.n, .int .i64 s.k, .int .i64 s.i, .string s.s], .bool eb]) ∧ (eb = true → s = ⟨en, ek, ei, es⟩)) ∧ Below w'.heap.size w' w2) := by
          intro w' hw
          have := rslot_any y ya yc w' hyk.2 (fun z hz => (hyk.1.2 z hz)) Hk2.out.1 (Hk2.out.2.next hw)
          rw [H2.out, HE.out] at this
          exact this
        have HA2 : Hid ((y.a : Int) = A2) := Hy2.out.2.1
        have HW2 : Hid (KidW wr b2 (o2 + k * 5) K2 A2 I2 Y2 ya M2 yc) := hw2
        obtain ⟨c0, c1, c2, c3, c4⟩ := hw2
        have HIs : Hid (IsSls wr to acc) := hsl2
        obtain ⟨P, HPl⟩ : ∃ P, Hid (rplaceI acc en = P) := ⟨_, rfl⟩
        have HRs : Hid (∀ w', Below wr.heap.size wr w' → Calls Tryz.prog 25 #[.agg #[.string Y1, .slice to C tc], .string en] w' fun e w2 => e = .returned (.int .i64 P) ∧ Below w'.heap.size w' w2) := by
          intro w' hw
          have := rtslot_any ⟨Y1, acc⟩ to tc en w' (by show acc.length ≤ 1000; omega) (HIs.out.next hw)
          unfold tmV at this
          simp only at this
          rw [HPl.out, HC.out] at this
          exact this
        clear hy hyk hsl2 hcap2 H2 Hy2 Hk2 heq
        go_wp2_with fail
        refine (HSl.out wr (Below.refl _ _)).mono ?_
        rintro e w5 ⟨⟨⟨sn, sk, si, ss⟩, rfl, hse⟩, hb5⟩
        simp only
        have HT5 : Hid (TrW w w5 K A I Y (some ⟨b2, o2, none⟩) M cap) := HT.out.next hb5
        have HX5 : Hid (Bx w5 TB #[.string Y1, .slice to acc.length tc]) := HXt.out.next hb5
        have HO5 : Hid (w5.ownsRow (TB + 1) 97 4 (.slice to C tc) C (slsC acc)) := by rw [← HC.out]; exact own_next HO.out hb5
        have HW5 : Hid (KidW w5 b2 (o2 + k * 5) K2 A2 I2 Y2 ya M2 yc) := HW2.out.next hb5
        have HB5 : Hid (Below wr.heap.size wr w5) := hb5
        have hlt5 : TB < w5.heap.size := HX5.out.lt
        have hl6 : w.heap.size + 3 < w5.heap.size := by omega
        have hl7 : w.heap.size < w5.heap.size := by omega
        clear hb5 n4 t0 t1 c0 c1 c2 c3 c4 HT HXt HO HW2 HSl htb
        cases eb with
        | false =>
          have HEr : Hid (parT x = .error (y.a, 2)) := by
            have h1 : slotR acc y = .error 2 := slotE_bad (s := sl0) (slotE_form (by rw [HE.out])) (by decide)
            have := HRun.out
            rw [run_step HYk.out, h1] at this
            rw [Hid, HP.out, ← this]
          have n4 : w5.cell? ⟨w.heap.size, 4, none⟩ = some (.slice (some ⟨b2, o2, none⟩) M cap) := HT5.out.n.cell 4
          obtain ⟨W6, HW6⟩ : ∃ W6, Hid (w5.alloc (.cells #[.string sn, .int .i64 sk, .int .i64 si, .string ss] 97) = W6) := ⟨_, rfl⟩
          have HT6 : Hid (TrW w W6 K A I Y (some ⟨b2, o2, none⟩) M cap) := by rw [← HW6.out]; exact HT5.out.next (alloc_below _ _)
          have HK6 : Hid (KidW W6 b2 (o2 + k * 5) K2 A2 I2 Y2 ya M2 yc) := by rw [← HW6.out]; exact HW5.out.next (alloc_below _ _)
          have hl9 : w.heap.size + 3 < W6.heap.size := HT6.out.z.lt
          clear HYk HE HP HRun HPl HRs HIs HX5 HO5 HB5 hse HK HKid
          go_wp2
          rw [HW6.out]
          clear HW6 n4 HT5 HW5
          have n4 : W6.cell? ⟨w.heap.size, 4, none⟩ = some (.slice (some ⟨b2, o2, none⟩) M cap) := HT6.out.n.cell 4
          have z0 : W6.cell? ⟨w.heap.size + 3, 0, none⟩ = some (.string ⟨#[]⟩) := HT6.out.z.cell 0
          have z1 : W6.cell? ⟨w.heap.size + 3, 1, none⟩ = some (.slice none 0 0) := HT6.out.z.cell 1
          have c1 := HK6.out.c1
          go_region_with (go_at_call 29; refine (HAt.out _ _ _).mono ?_; rintro e w9 ⟨⟨bq, rfl, hbq, hpq⟩, hb9⟩; have HT9 : Hid (TrW w w9 K A I Y (some ⟨b2, o2, none⟩) M cap) := HT6.out.next (by first | exact below_undrawn hb9 | exact hb9); have r0 : w9.cell? ⟨w.heap.size + 1, 0, none⟩ = some (.string ⟨#[]⟩) := HT9.out.r.cell 0; have r1 : w9.cell? ⟨w.heap.size + 1, 1, none⟩ = some (.slice none 0 0) := HT9.out.r.cell 1; have rf := HT9.out.r.froz; have g0 : w9.cell? ⟨w.heap.size + 2, 0, none⟩ = some (.slice none 0 0) := HT9.out.g.cell 0; have g1 : w9.cell? ⟨w.heap.size + 2, 1, none⟩ = some (.int .i64 0) := HT9.out.g.cell 1; have gf := HT9.out.g.froz; have z0 : w9.cell? ⟨w.heap.size + 3, 0, none⟩ = some (.string ⟨#[]⟩) := HT9.out.z.cell 0; have z1 : w9.cell? ⟨w.heap.size + 3, 1, none⟩ = some (.slice none 0 0) := HT9.out.z.cell 1)
          all_goals
            have HB9 : Hid (Below w.heap.size w w9) := HT9.out.bel
            have HPq : Hid (PtAt w9 bq (y.a : Int)) := by rw [HA2.out]; exact hpq
            have hbq2 : w.heap.size + 3 < bq := by first | (simp at hbq; omega) | omega
            clear HT9 hb9 hpq hbq
            go_wp2
            refine bodyPost_ret (v := .tuple #[.agg #[.string ⟨#[]⟩, .slice none 0 0], .agg #[.slice (some ⟨bq, 0, none⟩) 1 1, .int .i64 2]]) (by simp [results, Tryz.results10, go_sem, r0, r1, g0, g1]) rfl ?_
            first
              | exact tr_bad HEr.out HB9.out hbq2 HPq.out
              | exact tr_bad2 HEr.out HB9.out hbq2 HPq.out
        | true =>
          obtain ⟨rfl, rfl, rfl, rfl⟩ : sn = en ∧ sk = ek ∧ si = ei ∧ ss = es := by have := hse rfl; injection this with a1 a2 a3 a4; exact ⟨a1, a2, a3, a4⟩
          have n4 : w5.cell? ⟨w.heap.size, 4, none⟩ = some (.slice (some ⟨b2, o2, none⟩) M cap) := HT5.out.n.cell 4
          have t0 : w5.cell? ⟨TB, 0, none⟩ = some (.string Y1) := HX5.out.cell 0
          have t1 : w5.cell? ⟨TB, 1, none⟩ = some (.slice to C tc) := by rw [← HC.out]; exact HX5.out.cell 1
          obtain ⟨W6, HW6⟩ : ∃ W6, Hid (w5.alloc (.cells #[.string sn, .int .i64 sk, .int .i64 si, .string ss] 97) = W6) := ⟨_, rfl⟩
          obtain ⟨B5, HB5s⟩ : ∃ B5, Hid (w5.heap.size = B5) := ⟨_, rfl⟩
          have HB56 : Hid (Below w5.heap.size w5 W6) := by rw [← HW6.out]; exact alloc_below _ _
          have HT6 : Hid (TrW w W6 K A I Y (some ⟨b2, o2, none⟩) M cap) := HT5.out.next HB56.out
          have HK6 : Hid (KidW W6 b2 (o2 + k * 5) K2 A2 I2 Y2 ya M2 yc) := HW5.out.next HB56.out
          have HX6 : Hid (Bx W6 TB #[.string Y1, .slice to C tc]) := by rw [← HC.out]; exact HX5.out.next HB56.out
          have HO6 : Hid (W6.ownsRow (TB + 1) 97 4 (.slice to C tc) C (slsC acc)) := own_next HO5.out HB56.out
          have HS6 : Hid (Bx W6 B5 #[.string sn, .int .i64 sk, .int .i64 si, .string ss]) := Bx.made' HW6.out HB5s.out
          have HB6 : Hid (Below wr.heap.size wr W6) := next_trans HB5.out HB56.out
          have hTB5 : TB < B5 := by rw [← HB5s.out]; exact hlt5
          clear HX5 HO5 HB5 HT5 HW5 hse
          go_wp2_with fail
          rw [HW6.out, HB5s.out]
          clear HW6 HB5s HB56 n4 t0 t1 hlt5 hl6 hl7
          refine (HRs.out W6 HB6.out).mono ?_
          rintro e w7 ⟨rfl, hb7⟩
          have HT7 : Hid (TrW w w7 K A I Y (some ⟨b2, o2, none⟩) M cap) := HT6.out.next hb7
          have HK7 : Hid (KidW w7 b2 (o2 + k * 5) K2 A2 I2 Y2 ya M2 yc) := HK6.out.next hb7
          have HX7 : Hid (Bx w7 TB #[.string Y1, .slice to C tc]) := HX6.out.next hb7
          have HO7 : Hid (w7.ownsRow (TB + 1) 97 4 (.slice to C tc) C (slsC acc)) := own_next HO6.out hb7
          have HS7 : Hid (Bx w7 B5 #[.string sn, .int .i64 sk, .int .i64 si, .string ss]) := HS6.out.next hb7
          have hlt7 : B5 < w7.heap.size := HS7.out.lt
          have hl9 : w.heap.size + 3 < w7.heap.size := HT7.out.z.lt
          clear hb7 HT6 HK6 HX6 HO6 HS6 HRs HB6
          have t1 : w7.cell? ⟨TB, 1, none⟩ = some (.slice to C tc) := HX7.out.cell 1
          have n4 : w7.cell? ⟨w.heap.size, 4, none⟩ = some (.slice (some ⟨b2, o2, none⟩) M cap) := HT7.out.n.cell 4
          have z0 : w7.cell? ⟨w.heap.size + 3, 0, none⟩ = some (.string ⟨#[]⟩) := HT7.out.z.cell 0
          have z1 : w7.cell? ⟨w.heap.size + 3, 1, none⟩ = some (.slice none 0 0) := HT7.out.z.cell 1
          have c1 := HK7.out.c1
          cases hpl : placeS acc sn with
          | some p =>
            have HEr : Hid (parT x = .error (y.a, 6)) := by
              have h1 : slotR acc y = .error 6 := slotE_bad (s := sl0) (by rw [slotE_any HE.out]; simp only; rw [hpl]; rfl) (by decide)
              have := HRun.out
              rw [run_step HYk.out, h1] at this
              rw [Hid, HP.out, ← this]
            have hP0 : (0 : Int) ≤ P := by rw [← HPl.out]; unfold rplaceI; rw [hpl]; simp
            clear HYk HE HP HRun HPl HIs HX7 HO7 HS7 HK HKid hpl
            go_wp2
            go_region_with (go_at_call 29; refine (HAt.out _ _ _).mono ?_; rintro e w9 ⟨⟨bq, rfl, hbq, hpq⟩, hb9⟩; have HT9 : Hid (TrW w w9 K A I Y (some ⟨b2, o2, none⟩) M cap) := HT7.out.next (by first | exact below_undrawn hb9 | exact hb9); have r0 : w9.cell? ⟨w.heap.size + 1, 0, none⟩ = some (.string ⟨#[]⟩) := HT9.out.r.cell 0; have r1 : w9.cell? ⟨w.heap.size + 1, 1, none⟩ = some (.slice none 0 0) := HT9.out.r.cell 1; have rf := HT9.out.r.froz; have g0 : w9.cell? ⟨w.heap.size + 2, 0, none⟩ = some (.slice none 0 0) := HT9.out.g.cell 0; have g1 : w9.cell? ⟨w.heap.size + 2, 1, none⟩ = some (.int .i64 0) := HT9.out.g.cell 1; have gf := HT9.out.g.froz; have z0 : w9.cell? ⟨w.heap.size + 3, 0, none⟩ = some (.string ⟨#[]⟩) := HT9.out.z.cell 0; have z1 : w9.cell? ⟨w.heap.size + 3, 1, none⟩ = some (.slice none 0 0) := HT9.out.z.cell 1)
            all_goals
              have HB9 : Hid (Below w.heap.size w w9) := HT9.out.bel
              have HPq : Hid (PtAt w9 bq (y.a : Int)) := by rw [HA2.out]; exact hpq
              have hbq2 : w.heap.size + 3 < bq := by first | (simp at hbq; omega) | omega
              clear HT9 hb9 hpq hbq
              go_wp2
              refine bodyPost_ret (v := .tuple #[.agg #[.string ⟨#[]⟩, .slice none 0 0], .agg #[.slice (some ⟨bq, 0, none⟩) 1 1, .int .i64 6]]) (by simp [results, Tryz.results10, go_sem, r0, r1, g0, g1]) rfl ?_
              first
                | exact tr_bad HEr.out HB9.out hbq2 HPq.out
                | exact tr_bad2 HEr.out HB9.out hbq2 HPq.out
          | none =>
            have hP0 : ¬ (0 : Int) ≤ P := by rw [← HPl.out]; unfold rplaceI; rw [hpl]; simp
            by_cases h16 : C = 16
            · have d16 : ((C : Int) == 16) = true := by rw [h16]; rfl
              have HEr : Hid (parT x = .error (y.a, 4)) := by
                have h1 : slotR acc y = .error 4 := slotE_bad (s := sl0) (by rw [slotE_any HE.out]; simp only; rw [hpl, HC.out, if_neg (by decide), if_pos h16]) (by decide)
                have := HRun.out
                rw [run_step HYk.out, h1] at this
                rw [Hid, HP.out, ← this]
              clear HYk HE HP HRun HPl HIs HX7 HO7 HS7 HK HKid hpl
              go_wp2
              go_region_with (go_at_call 29; refine (HAt.out _ _ _).mono ?_; rintro e w9 ⟨⟨bq, rfl, hbq, hpq⟩, hb9⟩; have HT9 : Hid (TrW w w9 K A I Y (some ⟨b2, o2, none⟩) M cap) := HT7.out.next (by first | exact below_undrawn hb9 | exact hb9); have r0 : w9.cell? ⟨w.heap.size + 1, 0, none⟩ = some (.string ⟨#[]⟩) := HT9.out.r.cell 0; have r1 : w9.cell? ⟨w.heap.size + 1, 1, none⟩ = some (.slice none 0 0) := HT9.out.r.cell 1; have rf := HT9.out.r.froz; have g0 : w9.cell? ⟨w.heap.size + 2, 0, none⟩ = some (.slice none 0 0) := HT9.out.g.cell 0; have g1 : w9.cell? ⟨w.heap.size + 2, 1, none⟩ = some (.int .i64 0) := HT9.out.g.cell 1; have gf := HT9.out.g.froz; have z0 : w9.cell? ⟨w.heap.size + 3, 0, none⟩ = some (.string ⟨#[]⟩) := HT9.out.z.cell 0; have z1 : w9.cell? ⟨w.heap.size + 3, 1, none⟩ = some (.slice none 0 0) := HT9.out.z.cell 1)
              all_goals
                have HB9 : Hid (Below w.heap.size w w9) := HT9.out.bel
                have HPq : Hid (PtAt w9 bq (y.a : Int)) := by rw [HA2.out]; exact hpq
                have hbq2 : w.heap.size + 3 < bq := by first | (simp at hbq; omega) | omega
                clear HT9 hb9 hpq hbq
                go_wp2
                refine bodyPost_ret (v := .tuple #[.agg #[.string ⟨#[]⟩, .slice none 0 0], .agg #[.slice (some ⟨bq, 0, none⟩) 1 1, .int .i64 4]]) (by simp [results, Tryz.results10, go_sem, r0, r1, g0, g1]) rfl ?_
                first
                  | exact tr_bad HEr.out HB9.out hbq2 HPq.out
                  | exact tr_bad2 HEr.out HB9.out hbq2 HPq.out
            · have d16 : ((C : Int) == 16) = false := by simp; omega
              have HSk : Hid (slotR acc y = .ok ⟨sn, sk, si, ss⟩) := slotE_ok (by rw [slotE_any HE.out]; simp only; rw [hpl, HC.out, if_neg (by decide), if_neg h16])
              have HRun2 : Hid (runT (acc ++ [⟨sn, sk, si, ss⟩]) (x.l.drop (k + 1)) = runT [] (x.l.drop 2)) := by
                have := HRun.out
                rw [run_step HYk.out, HSk.out] at this
                exact this
              have s0 : w7.cell? ⟨B5, 0, none⟩ = some (.string sn) := HS7.out.cell 0
              have s1 : w7.cell? ⟨B5, 1, none⟩ = some (.int .i64 sk) := HS7.out.cell 1
              have s2 : w7.cell? ⟨B5, 2, none⟩ = some (.int .i64 si) := HS7.out.cell 2
              have s3 : w7.cell? ⟨B5, 3, none⟩ = some (.string ss) := HS7.out.cell 3
              obtain ⟨i0, hi, hz0, hz1, hz2⟩ := infoRSl'
              have hC16 : C ≤ 16 := by rw [← HC.out]; exact hak
              have HOb : Hid (∀ k, (Value.slice to C tc).ownBlock = some k → TB + 1 ≤ k ∧ k < w7.heap.size) := fun k hk => HO7.out.lt k hk
              clear HYk HE HRun HPl HIs hpl
              go_wp2_with (at_builtin; refine wpList_append_own _ rfl _ _ 43 rfl (TB + 1) 97 i0 zeroSl 4 48 Tryz.underlying43 hi hz0 hz1 hz2 rfl (by decide) _ _ _ rfl (HO7.out.alloc _) ⟨w7.heap.size, 0, none⟩ 1 1 [.string sn, .int .i64 sk, .int .i64 si, .string ss] rfl rfl ?c1 ?c2 ?c3 ?c4 ?c5 ?_)
              case c1 =>
                intro j u hj
                match j, hj with
                | 0, hj => simp at hj; subst hj; simp [Addr.add]
                | 1, hj => simp at hj; subst hj; simp [Addr.add]
                | 2, hj => simp at hj; subst hj; simp [Addr.add]
                | 3, hj => simp at hj; subst hj; simp [Addr.add]
              case c2 => intro u hu; simp at hu; rcases hu with rfl | rfl | rfl | rfl <;> rfl
              case c3 => unfold maxLen; omega
              case c4 => omega
              case c5 => simp; omega
              intro v8 w8 ho hg _
              have hlC : (acc ++ [(⟨sn, sk, si, ss⟩ : Sl)]).length = C + 1 := by rw [List.length_append, HC.out]; rfl
              replace ho : w8.ownsRow (TB + 1) 97 4 v8 (C + 1) (slsC (acc ++ [(⟨sn, sk, si, ss⟩ : Sl)])) := by rw [← slsC_snoc]; exact ho
              obtain ⟨so, sc, hs2, _, _⟩ := own_sls hlC ho
              subst hs2
              have hgb : ∀ j, j < TB + 1 → w8.heap[j]? = w7.heap[j]? := fun j hj => by
                rw [hg.block j (by simp; omega) (fun e => by have := (HOb.out j e.symm).1; omega), Below.heap_alloc _ _ _ (by omega)]
              have HB8 : Hid (Below w.heap.size w w8) := by
                have hs := HT7.out.bel.size
                refine HT7.out.bel.trans (((Below.refl _ w7).alloc hs _).grown hg (by simp; omega) (fun k hk => ?_))
                have := (HOb.out k hk).1
                omega
              have HX8 : Hid (Bx w8 TB #[.string Y1, .slice to C tc]) := HX7.out.keep (hgb TB (by omega))
              have t8 : w8.cell? ⟨TB, 1, none⟩ = some (.slice to C tc) := HX8.out.cell 1
              have tf := HX8.out.froz
              have HT9 : Hid (TrW w (w8.setCell ⟨TB, 1, none⟩ (.slice so (C + 1) sc)) K A I Y (some ⟨b2, o2, none⟩) M cap) :=
                ⟨set_bel HB8.out (by omega), (HT7.out.n.keep (hgb _ (by omega))).off (by omega) _ _, (HT7.out.r.keep (hgb _ (by omega))).off (by omega) _ _, (HT7.out.g.keep (hgb _ (by omega))).off (by omega) _ _, (HT7.out.z.keep (hgb _ (by omega))).off (by omega) _ _⟩
              have HX9 : Hid (Bx (w8.setCell ⟨TB, 1, none⟩ (.slice so (C + 1) sc)) TB #[.string Y1, .slice so (C + 1) sc]) := HX8.out.set 1 _
              have HO9 : Hid ((w8.setCell ⟨TB, 1, none⟩ (.slice so (C + 1) sc)).ownsRow (TB + 1) 97 4 (.slice so (C + 1) sc) (acc ++ [(⟨sn, sk, si, ss⟩ : Sl)]).length (slsC (acc ++ [(⟨sn, sk, si, ss⟩ : Sl)]))) := by
                rw [hlC]; exact ownsRow_setCell_below ho (by show TB < TB + 1; omega) _
              clear ho hg hgb t1 HT7 HK7 HO7 HOb HX7 HX8 HB8 HSk HS7 s0 s1 s2 s3 n4 z0 z1 c1
              go_wp2
              go_roundw
              case rel => exact ⟨k + 1, acc ++ [(⟨sn, sk, si, ss⟩ : Sl)], _, by omega, by omega, by go_num, by rw [hlC]; omega, HT9, HX9, HO9, HRun2⟩
              case measure => simp [intOf]; omega
      · have hki : ¬ (k : Int) < (M : Int) := by omega
        have HEr : Hid (parT x = .ok ⟨Y1, acc⟩) := by
          have := HRun.out
          rw [List.drop_of_length_le (by rw [HMx.out]; omega)] at this
          rw [Hid, HP.out, ← this]; rfl
        have r0 : wr.cell? ⟨w.heap.size + 1, 0, none⟩ = some (.string ⟨#[]⟩) := HT.out.r.cell 0
        have r1 : wr.cell? ⟨w.heap.size + 1, 1, none⟩ = some (.slice none 0 0) := HT.out.r.cell 1
        have rf := HT.out.r.froz
        have g0 : wr.cell? ⟨w.heap.size + 2, 0, none⟩ = some (.slice none 0 0) := HT.out.g.cell 0
        have g1 : wr.cell? ⟨w.heap.size + 2, 1, none⟩ = some (.int .i64 0) := HT.out.g.cell 1
        have gf := HT.out.g.froz
        have hne : ∀ b o, to = some ⟨b, o, none⟩ → w.heap.size + 3 < b := fun b o e => by
          subst e
          have := (HO.out.lt b rfl).1
          omega
        have HSe : Hid (IsSls ((((wr.setCell ⟨w.heap.size + 1, 0, none⟩ (.string Y1)).setCell ⟨w.heap.size + 1, 1, none⟩ (.slice to C tc)).setCell ⟨w.heap.size + 2, 0, none⟩ (.slice none 0 0)).setCell ⟨w.heap.size + 2, 1, none⟩ (.int .i64 0)) to acc) :=
          (((hsl2.set (fun b o e => by have := hne b o e; omega)).set (fun b o e => by have := hne b o e; omega)).set (fun b o e => by have := hne b o e; omega)).set (fun b o e => by have := hne b o e; omega)
        have HBe : Hid (Below w.heap.size w ((((wr.setCell ⟨w.heap.size + 1, 0, none⟩ (.string Y1)).setCell ⟨w.heap.size + 1, 1, none⟩ (.slice to C tc)).setCell ⟨w.heap.size + 2, 0, none⟩ (.slice none 0 0)).setCell ⟨w.heap.size + 2, 1, none⟩ (.int .i64 0))) := set_bel (set_bel (set_bel (set_bel HT.out.bel (by omega)) (by omega)) (by omega)) (by omega)
        have hcap3 : acc.length ≤ tc := hcap2
        clear hsl2 HT HRun HP HO HXt hne
        go_wp2
        exact bodyPost_ret (v := .tuple #[.agg #[.string Y1, .slice to C tc], .agg #[.slice none 0 0, .int .i64 0]]) (by simp [results, Tryz.results10, go_sem, r0, r1, g0, g1]) rfl ⟨HBe.out, .inl ⟨⟨Y1, acc⟩, to, tc, HEr.out, by unfold tmV; simp only; rw [HC.out], hcap3, HSe.out⟩⟩
end Go.Proofs.YtlniifheapoppaaGreatDoor
