/- The walk of TmplBytes. -/
import Derived.Test.YtlniifheapoppaaGreatDoorTmByM
namespace Go.Proofs.YtlniifheapoppaaGreatDoor
open Go.RowKit

set_option maxHeartbeats 16000000 in
set_option maxRecDepth 20000 in
theorem bytes9_walk (ao : Option Addr) (n cap : Nat) (l : List UInt8) (w : World) (hl : l.length = n) (h : IsB w ao l) (hc : n ≤ cap) (h4 : Lib4 w) :
    Calls Tryz.prog 3 #[.slice ao n cap] w fun e w' => e = .returned (.bool true) ∧ Below w.heap.size w w' := by
  have H4 : Hid (Lib4 w) := h4
  have HI : Hid (IsB w ao l) := h
  have HL : Hid (l.length = n) := hl
  clear h hl h4
  go_enter Tryz.func3, Tryz.ntmps3
  go_wp2_with fail
  refine (known9 w H4.out.tab H4.out.max).mono ?_
  rintro e w1 ⟨rfl, hb1⟩
  have HB1 : Hid (Below w.heap.size w w1) := hb1
  clear hb1
  by_cases hn : 2000 < n
  · have hni : (2000 : Int) < (n : Int) := by omega
    go_wp2
    go_ret
    exact ⟨rfl, HB1.out⟩
  have hni : ¬ (2000 : Int) < (n : Int) := by omega
  obtain ⟨R, HR⟩ : ∃ R, Hid (readQ l = R) := ⟨_, rfl⟩
  by_cases he : R.e = 0
  · have HBd : Hid (WfL R.l ∧ ∀ x ∈ R.l, NdB x) := by
      obtain ⟨h1, _, _, _, h5⟩ := read_bnd l R HR.out he (by rw [HL.out]; omega)
      exact ⟨h1, h5⟩
    obtain ⟨L, ra, re⟩ := R
    simp only at he HBd
    subst he
    have HRd : Hid (Calls Tryz.prog 7 #[.slice ao n cap] w1 fun e w' => (∃ ao cap, e = .returned (.tuple #[.slice ao L.length cap, .agg #[.slice none 0 0, .int .i64 0]]) ∧ L.length ≤ cap ∧ IsNds w' anyB ao L) ∧ Below w1.heap.size w1 w') :=
      rread_yes5 ao n cap l L w1 HL.out (HI.out.next HB1.out) (by omega) hc ra HR.out
    cases L with
    | nil =>
      go_wp2_with fail
      refine HRd.out.mono ?_
      rintro e w2 ⟨⟨a2, c2, rfl, _⟩, hb2⟩
      have HB2 : Hid (Below w.heap.size w w2) := next_trans HB1.out hb2
      simp only [List.length_nil]
      clear hb2 HRd
      go_wp2
      go_ret
      exact ⟨rfl, next_trans HB2.out (alloc_below _ _)⟩
    | cons x r =>
      have hr1 : ((((x :: r).length : Nat) : Int) == 0) = false := by simp only [List.length_cons]; simp; omega
      obtain ⟨Q, HQ⟩ : ∃ Q, Hid ((x :: r).length = Q) := ⟨_, rfl⟩
      have hQ : 0 < (Q : Int) := by have := HQ.out; simp only [List.length_cons] at this; omega
      rw [HQ.out] at HRd hr1
      go_wp2_with fail
      refine HRd.out.mono ?_
      rintro e w2 ⟨⟨a2, c2, rfl, hcq, hN⟩, hb2⟩
      have HB2 : Hid (Below w.heap.size w w2) := next_trans HB1.out hb2
      obtain ⟨b, o, a0, cap0, K, A, I, Y, M, rfl, H, Hx, hK, HM⟩ := kid_get (j := 0) hN rfl
      have HNd : Hid (NdB x) := HBd.out.2 x (by simp)
      rw [Nat.zero_mul, Nat.add_zero] at hK
      have HTo : Hid (∀ w', Below w2.heap.size w2 w' → Calls Tryz.prog 9 #[.agg #[.int .i64 (K), .int .i64 (A), .int .i64 (I), .string (Y), .slice a0 M cap0]] w' fun e w3 => (∃ ao' cap', e = .returned (.agg #[.int .i64 (K), .int .i64 (A), .int .i64 (I), .string (Y), .slice ao' M cap']) ∧ Hid (M ≤ cap' ∧ IsNds w3 anyB ao' x.l)) ∧ Below w'.heap.size w' w3) := by
        intro w' hw
        rw [← H.out]
        refine (to_any5 x a0 cap0 w' HNd.out.cnt HM.out.1 (HM.out.2.next hw)).mono ?_
        rintro e w3 ⟨⟨ao', cap', rfl, h1, h2⟩, h3⟩
        refine ⟨⟨ao', cap', ?_, by rw [← Hx.out.2.2.2.2]; exact h1, h2⟩, h3⟩
        obtain ⟨rfl, rfl, rfl, rfl, rfl⟩ := Hx.out
        rfl
      clear hb2 hN hcq HRd HBd
      obtain ⟨k0, k1, k2, k3, k4⟩ := hK
      have hbl : b < w2.heap.size := lt_of_cell k0
      go_wp2_with fail
      refine (HTo.out _ (alloc_below _ _)).mono ?_
      rintro e w3 ⟨⟨ao3, cap3, rfl, hn3⟩, hb3⟩
      have hbx : Below w2.heap.size w2 w3 := next_trans (alloc_below _ _) hb3
      have HB3 : Hid (Below w.heap.size w w3) := next_trans HB2.out hbx
      have HX3 : Hid (Bx w3 w2.heap.size #[.slice none 0 0, .int .i64 0]) := (Bx.made _ _ _).next hb3
      have hK3 : KidW w3 b o K A I Y a0 M cap0 := (KidW.mk k0 k1 k2 k3 k4).next hbx
      have HM3 : Hid (M ≤ cap0 ∧ IsNds w3 anyB a0 x.l) := ⟨by rw [← Hx.out.2.2.2.2]; exact HM.out.1, HM.out.2.next hbx⟩
      have HN3 : Hid (M ≤ cap3 ∧ IsNds w3 anyB ao3 x.l) := hn3
      have hbl3 : b < w3.heap.size := Nat.lt_of_lt_of_le hbl hbx.size
      have hV : ∀ a c, .agg #[.int .i64 (K), .int .i64 (A), .int .i64 (I), .string (Y), .slice a M c] = ndV x a c := fun a c => by
        obtain ⟨rfl, rfl, rfl, rfl, rfl⟩ := Hx.out
        rfl
      have HL5 : x.l.length = M := Hx.out.2.2.2.2
      clear k0 k1 k2 k3 k4 hbl hbx hb3 HTo hn3
      obtain ⟨k0, k1, k2, k3, k4⟩ := hK3
      have HMm : Hid (x ∈ (readQ l).l) := by rw [Hid, HR.out]; simp
      obtain ⟨T, HT⟩ : ∃ T, Hid (tpOf x = T) := ⟨_, rfl⟩
      have HT16 : Hid (T.l.length ≤ 16) := by rw [← HT.out]; exact tpOf_len x
      have HPa : Hid (Calls Tryz.prog 8 #[.agg #[.int .i64 (K), .int .i64 (A), .int .i64 (I), .string (Y), .slice ao3 M cap3]] w3 fun e w' => (∃ to tc E, e = .returned (.tuple #[.agg #[.string T.n, .slice to T.l.length tc], E]) ∧ IsSls w' to T.l ∧ TellE x w' E) ∧ Below w3.heap.size w3 w') := by
        rw [hV, ← HT.out]
        exact tparse_g x ao3 cap3 w3 HNd.out.cnt (wfN_bd HNd.out.wf) (by rw [HL5]; exact HN3.out.1) HN3.out.2
      have HPr : Hid (∀ w', Below w3.heap.size w3 w' → Calls Tryz.prog 10 #[.agg #[.int .i64 (K), .int .i64 (A), .int .i64 (I), .string (Y), .slice a0 M cap0]] w' fun e w2 => (∃ to tc fo fn fc FE, e = .returned (.tuple #[.agg #[.string T.n, .slice to T.l.length tc], .agg #[.slice fo fn fc, .int .i64 FE]]) ∧ IsSls w2 to T.l ∧ TellF x w2 fo fn fc FE) ∧ Below w'.heap.size w' w2) := by
        intro w' hw
        rw [hV, ← HT.out]
        exact trparse_g x a0 cap0 w' HNd.out.cnt (wfN_bd HNd.out.wf) (by rw [HL5]; exact HM3.out.1) (HM3.out.2.next hw)
      clear hV HL5
      obtain ⟨tn, TL⟩ := T
      simp only at HPa HPr HT16
      obtain ⟨N, HN⟩ : ∃ N, Hid (TL.length = N) := ⟨_, rfl⟩
      rw [HN.out] at HPa HPr HT16
      go_wp2_with fail
      refine HPa.out.mono ?_
      rintro e w4 ⟨⟨to, tc, E, rfl, hs4, hE⟩, hb4⟩
      have HE4 : Hid (IsSls w4 to TL ∧ TellE x w4 E) := ⟨hs4, hE⟩
      have HB4 : Hid (Below w.heap.size w w4) := next_trans HB3.out hb4
      have hK4 : KidW w4 b o K A I Y a0 M cap0 := (KidW.mk k0 k1 k2 k3 k4).next hb4
      have hbl4 : b < w4.heap.size := Nat.lt_of_lt_of_le hbl3 hb4.size
      have HW4 : Hid (Below w3.heap.size w3 w4) := hb4
      clear k0 k1 k2 k3 k4 hbl3 hs4 hE hb4 HPa
      obtain ⟨k0, k1, k2, k3, k4⟩ := hK4
      go_wp2_with fail
      refine (HPr.out _ (next_trans HW4.out (alloc_below _ _))).mono ?_
      rintro e w5 ⟨⟨xo, xc, fo, fn, fc, FE, rfl, hs5, hF⟩, hb5⟩
      have hbw : Below w4.heap.size w4 w5 := next_trans (alloc_below _ _) hb5
      have HB5 : Hid (Below w.heap.size w w5) := next_trans HB4.out hbw
      have HX5 : Hid (Bx w5 w4.heap.size #[.string tn, .slice to N tc]) := (Bx.made _ _ _).next hb5
      have HE5 : Hid (IsSls w5 to TL ∧ TellE x w5 E) := ⟨HE4.out.1.next hbw, HE4.out.2.next hbw⟩
      have HF5 : Hid (IsSls w5 xo TL ∧ TellF x w5 fo fn fc FE) := ⟨hs5, hF⟩
      obtain ⟨TB, HTB⟩ : ∃ TB, Hid (w4.heap.size = TB) := ⟨_, rfl⟩
      rw [HTB.out] at HX5
      obtain ⟨XB, HXB⟩ : ∃ XB, Hid (w5.heap.size = XB) := ⟨_, rfl⟩
      obtain ⟨W, HWe⟩ : ∃ W, Hid ((w5.alloc (.cells #[.string tn, .slice xo N xc] 45)).alloc (.cells #[.slice fo fn fc, .int .i64 FE] 27) = W) := ⟨_, rfl⟩
      have hWb : Below w5.heap.size w5 W := by rw [← HWe.out]; exact next_trans (alloc_below _ _) (alloc_below _ _)
      have HBW : Hid (Below w.heap.size w W) := next_trans HB5.out hWb
      have HTW : Hid (Bx W TB #[.string tn, .slice to N tc]) := HX5.out.next hWb
      have HEW : Hid (IsSls W to TL ∧ TellE x W E) := ⟨HE5.out.1.next hWb, HE5.out.2.next hWb⟩
      have HFW : Hid (IsSls W xo TL ∧ TellF x W fo fn fc FE) := ⟨HF5.out.1.next hWb, HF5.out.2.next hWb⟩
      have HXW : Hid (Bx W XB #[.string tn, .slice xo N xc]) := by rw [← HWe.out, ← HXB.out]; exact (Bx.made _ _ _).alloc _
      have HGW : Hid (Bx W (XB + 1) #[.slice fo fn fc, .int .i64 FE]) := by
        rw [← HWe.out, ← HXB.out]
        have := Bx.made (w5.alloc (.cells #[.string tn, .slice xo N xc] 45)) 27 #[.slice fo fn fc, .int .i64 FE]
        rw [World.size_alloc] at this
        exact this
      clear k0 k1 k2 k3 k4 hbl4 hb5 hbw hs5 hF HPr hWb HX5 HE5 HF5 HE4
      go_wp2_with fail
      rw [HWe.out, HXB.out, HTB.out]
      clear HWe HXB HTB
      have HTl : Hid (∀ w', Below W.heap.size W w' → Calls Tryz.prog 11 #[E, .agg #[.slice fo fn fc, .int .i64 FE]] w' fun e w2 => e = .returned (.bool true) ∧ Below w'.heap.size w' w2) := fun w' hw =>
        tells_g w' HMm.out (by rw [HL.out]; omega) (HEW.out.2.next hw) (HFW.out.2.next hw) (H4.out.next (next_trans HBW.out hw))
      have HOf : Hid (∀ w', Below W.heap.size W w' → Calls Tryz.prog 13 #[.agg #[.string tn, .slice to N tc]] w' fun e w2 => (∃ ao' cap', e = .returned (.agg #[.string tn, .slice ao' N cap']) ∧ IsSls w2 ao' TL) ∧ Below w'.heap.size w' w2) := by
        intro w' hw
        rw [← HN.out]
        refine (tof_any ⟨tn, TL⟩ to tc w' (by show TL.length ≤ _; rw [HN.out]; have := HT16.out; omega) (HEW.out.1.next hw)).mono ?_
        rintro e w2 ⟨⟨ao', cap', h1, _, h2⟩, hb⟩
        exact ⟨⟨ao', cap', h1, h2⟩, hb⟩
      have HSm : Hid (∀ w' ao' cap', Below W.heap.size W w' → IsSls w' ao' TL → Calls Tryz.prog 12 #[.agg #[.string tn, .slice ao' N cap'], .agg #[.string tn, .slice xo N xc]] w' fun e w2 => e = .returned (.bool true) ∧ Below w'.heap.size w' w2) := by
        intro w' ao' cap' hw hs
        rw [← HN.out]
        exact rtsame_any ⟨tn, TL⟩ ao' xo cap' xc w' (by show TL.length ≤ _; rw [HN.out]; have := HT16.out; omega) hs (HFW.out.1.next hw)
      have t0 : W.cell? ⟨TB, 0, none⟩ = some (.string tn) := HTW.out.cell 0
      have t1 : W.cell? ⟨TB, 1, none⟩ = some (.slice to N tc) := HTW.out.cell 1
      have x0 : W.cell? ⟨XB, 0, none⟩ = some (.string tn) := HXW.out.cell 0
      have x1 : W.cell? ⟨XB, 1, none⟩ = some (.slice xo N xc) := HXW.out.cell 1
      have f0 : W.cell? ⟨XB + 1, 0, none⟩ = some (.slice fo fn fc) := HGW.out.cell 0
      have f1 : W.cell? ⟨XB + 1, 1, none⟩ = some (.int .i64 FE) := HGW.out.cell 1
      go_region_held3 (fun w' => w'.cell? ⟨TB, 0, none⟩ = some (.string tn) ∧ w'.cell? ⟨TB, 1, none⟩ = some (.slice to N tc) ∧ w'.cell? ⟨XB, 0, none⟩ = some (.string tn) ∧ w'.cell? ⟨XB, 1, none⟩ = some (.slice xo N xc) ∧ w'.cell? ⟨XB + 1, 0, none⟩ = some (.slice fo fn fc) ∧ w'.cell? ⟨XB + 1, 1, none⟩ = some (.int .i64 FE))
        (((try dsimp only); go_split_ands; refine ⟨?_, ?_, ?_, ?_, ?_, ?_⟩ <;> first | assumption | exact keep_cell (by assumption) (by assumption)))
        (first
          | (go_at_call 11; refine calls_at (W2 := W) ?_ (fun hBf => ?_); ((first | exact (Below.refl _ _).drew | exact Below.refl _ _ | (fail "belT"))); refine (HTl.out _ hBf).mono ?_; rintro e w7 ⟨rfl, hb⟩; have hb7 := hb)
          | (go_at_call 13; refine calls_at (W2 := W) ?_ (fun hBf => ?_); ((first | exact below_undrawn hb7 | exact (below_undrawn hb7).drew | (fail "belO"))); refine (HOf.out _ hBf).mono ?_; rintro e w8 ⟨⟨ao8, cap8, rfl, hs8⟩, hb⟩; have hb8 : Below W.heap.size W w8 := next_trans hBf hb)
          | (go_at_call 12; refine calls_at (W2 := W) hb8 (fun hBf => ?_); refine (HSm.out _ _ _ hBf hs8).mono ?_; rintro e w9 ⟨rfl, hb⟩; have hb9 : Below W.heap.size W w9 := next_trans hBf hb))
      all_goals
        have HB9 : Hid (Below w.heap.size w w9) := next_trans HBW.out hb9
        have HT9 : Hid (IsSls w9 to TL) := HEW.out.1.next hb9
        have HX9 : Hid (IsSls w9 xo TL) := HFW.out.1.next hb9
        have HTb : Hid (Bx w9 TB #[.string tn, .slice to N tc]) := HTW.out.next hb9
        have HXb : Hid (Bx w9 XB #[.string tn, .slice xo N xc]) := HXW.out.next hb9
        have f1' : w9.cell? ⟨XB + 1, 1, none⟩ = some (.int .i64 FE) := keep_cell hb9 f1
        have hfe := TellF.ok HMm.out (by rw [HL.out]; omega) HFW.out.2
        clear hb hb9 hb8 hb7 hBf hs8 t0 t1 x0 x1 f0 f1 HTl HOf HSm HEW HFW HTW HXW HGW HBW
        have t0 : w9.cell? ⟨TB, 0, none⟩ = some (.string tn) := HTb.out.cell 0
        have t1 : w9.cell? ⟨TB, 1, none⟩ = some (.slice to N tc) := HTb.out.cell 1
        rcases hfe with ⟨rfl, hok⟩ | hfe
        · rw [HT.out] at hok
          have HOk : Hid (OkT ⟨tn, TL⟩) := parT_ok hok
          obtain ⟨NN, HNN⟩ : ∃ NN, Hid ((tmplNd ⟨tn, TL⟩).l.length = NN) := ⟨_, rfl⟩
          obtain ⟨NL, HNL⟩ : ∃ NL, Hid ((tmplNd ⟨tn, TL⟩).l = NL) := ⟨_, rfl⟩
          have HV : Hid (∀ a c, ndV (tmplNd ⟨tn, TL⟩) a c = .agg #[.int .i64 (0), .int .i64 (0), .int .i64 (0), .string (⟨#[]⟩), .slice a NN c]) := fun a c => by rw [← HNN.out]; rfl
          have HN1k : Hid (TL.length ≤ 1000) := by rw [Hid, HN.out]; have := HT16.out; omega
          have HNo : Hid (∀ w', Below w9.heap.size w9 w' → Calls Tryz.prog 14 #[.agg #[.string tn, .slice to N tc]] w' fun e w2 => (∃ A0 c0, e = .returned (.agg #[.int .i64 (0), .int .i64 (0), .int .i64 (0), .string (⟨#[]⟩), .slice A0 NN c0]) ∧ Hid (NN ≤ c0 ∧ IsNds w2 anyB A0 NL)) ∧ Below w'.heap.size w' w2) := by
            intro w' hw
            rw [← HN.out]
            refine (tnode_any ⟨tn, TL⟩ to tc w' HN1k.out (HT9.out.next hw)).mono ?_
            rintro e w2 ⟨⟨c, rfl, hc⟩, hb⟩
            obtain ⟨h1, h2, h3⟩ := nodeV_of hc
            exact ⟨⟨c.ao, c.cap, by rw [h1, HV.out], by rw [← HNN.out]; exact h2, by rw [← HNL.out]; exact h3⟩, hb⟩
          have HRn : Hid (∀ w', Below w9.heap.size w9 w' → Calls Tryz.prog 18 #[.agg #[.string tn, .slice xo N xc]] w' fun e w2 => (∃ A0 c0, e = .returned (.agg #[.int .i64 (0), .int .i64 (0), .int .i64 (0), .string (⟨#[]⟩), .slice A0 NN c0]) ∧ Hid (NN ≤ c0 ∧ IsNds w2 anyB A0 NL)) ∧ Below w'.heap.size w' w2) := by
            intro w' hw
            rw [← HN.out]
            refine (rtnode_any ⟨tn, TL⟩ xo xc w' HN1k.out (HX9.out.next hw)).mono ?_
            rintro e w2 ⟨⟨c, rfl, hc⟩, hb⟩
            obtain ⟨h1, h2, h3⟩ := nodeV_of hc
            exact ⟨⟨c.ao, c.cap, by rw [h1, HV.out], by rw [← HNN.out]; exact h2, by rw [← HNL.out]; exact h3⟩, hb⟩
          have HPb : Hid (∀ w' A0 c0, NN ≤ c0 ∧ IsNds w' anyB A0 NL → Calls Tryz.prog 8 #[.agg #[.int .i64 (0), .int .i64 (0), .int .i64 (0), .string (⟨#[]⟩), .slice A0 NN c0]] w' fun e w2 => (∃ to2 tc2, e = .returned (.tuple #[.agg #[.string tn, .slice to2 N tc2], .nilIface]) ∧ IsSls w2 to2 TL) ∧ Below w'.heap.size w' w2) := by
            rintro w' A0 c0 ⟨h1, h2⟩
            rw [← HNL.out] at h2
            rw [← HNN.out] at h1
            obtain ⟨g1, g2⟩ := tmplNd_bd HOk.out
            rw [← HV.out]
            refine (tparse_any _ A0 c0 w' (by omega) g2 h1 h2).mono ?_
            rintro e w2 ⟨hbe, hr⟩
            rw [parT_back HOk.out] at hr
            rcases hr with ⟨t', to2, tc2, q1, q2, q3, q4⟩ | ⟨a, f, B, q1, _⟩
            · injection q1 with q1
              subst q1
              rw [← HN.out]
              exact ⟨⟨to2, tc2, q2, q4⟩, hbe⟩
            · cases q1
          have HO5 : Hid (∀ w' A0 c0, NN ≤ c0 ∧ IsNds w' anyB A0 NL → Calls Tryz.prog 17 #[.agg #[.int .i64 (0), .int .i64 (0), .int .i64 (0), .string (⟨#[]⟩), .slice A0 NN c0]] w' fun e w2 => (∃ A1 c1, e = .returned (.agg #[.int .i64 (0), .int .i64 (0), .int .i64 (0), .string (⟨#[]⟩), .slice A1 NN c1]) ∧ Hid (NN ≤ c1 ∧ IsNds w2 anyB A1 NL)) ∧ Below w'.heap.size w' w2) := by
            rintro w' A0 c0 ⟨h1, h2⟩
            rw [← HNL.out] at h2
            rw [← HNN.out] at h1
            obtain ⟨g1, _⟩ := tmplNd_bd HOk.out
            rw [← HV.out]
            refine (of_any9 _ A0 c0 w' (by omega) h1 h2).mono ?_
            rintro e w2 ⟨⟨A1, c1, q1, q2, q3⟩, hbe⟩
            exact ⟨⟨A1, c1, by rw [q1, HV.out], by rw [← HNN.out]; exact q2, by rw [← HNL.out]; exact q3⟩, hbe⟩
          have HRs : Hid (∀ w' A0 c0 A1 c1, NN ≤ c0 ∧ IsNds w' anyB A0 NL → NN ≤ c1 ∧ IsNds w' anyB A1 NL → Calls Tryz.prog 16 #[.agg #[.int .i64 (0), .int .i64 (0), .int .i64 (0), .string (⟨#[]⟩), .slice A0 NN c0], .agg #[.int .i64 (0), .int .i64 (0), .int .i64 (0), .string (⟨#[]⟩), .slice A1 NN c1]] w' fun e w2 => e = .returned (.bool true) ∧ Below w'.heap.size w' w2) := by
            rintro w' A0 c0 A1 c1 ⟨h1, h2⟩ ⟨h3, h4⟩
            rw [← HNL.out] at h2 h4
            rw [← HNN.out] at h1 h3
            obtain ⟨g1, _⟩ := tmplNd_bd HOk.out
            rw [← HV.out, ← HV.out]
            exact rsame_any5 _ _ _ A0 A1 c0 c1 w' (Nat.le_refl _) (by omega) h1 h3 (sim_refl _) h2 h4
          have HSm : Hid (∀ w' to2 tc2, Below w9.heap.size w9 w' → IsSls w' to2 TL → Calls Tryz.prog 15 #[.agg #[.string tn, .slice to2 N tc2], .agg #[.string tn, .slice to N tc]] w' fun e w2 => e = .returned (.bool true) ∧ Below w'.heap.size w' w2) := by
            intro w' to2 tc2 hw hs
            rw [← HN.out]
            exact tsame_any ⟨tn, TL⟩ to2 to tc2 tc w' HN1k.out hs (HT9.out.next hw)
          clear hok HV HNN HNL
          go_wp2_with fail
          refine (HNo.out w9 (Below.refl _ _)).mono ?_
          rintro e wa ⟨⟨A0, c0, rfl, hA0⟩, hba⟩
          have HBa : Hid (Below w9.heap.size w9 wa) := hba
          clear hba f1' t0 t1
          go_wp2_with fail
          refine (HPb.out wa A0 c0 hA0.out).mono ?_
          rintro e wb ⟨⟨to2, tc2, rfl, hs2⟩, hbb⟩
          have HBb : Hid (Below w9.heap.size w9 wb) := next_trans HBa.out hbb
          have hBb2 : Below wb.heap.size wb (wb.alloc (.cells #[.string tn, .slice to2 N tc2] 32)) := alloc_below _ _
          obtain ⟨GB, HGB⟩ : ∃ GB, Hid (wb.heap.size = GB) := ⟨_, rfl⟩
          obtain ⟨V, HVe⟩ : ∃ V, Hid (wb.alloc (.cells #[.string tn, .slice to2 N tc2] 32) = V) := ⟨_, rfl⟩
          rw [HVe.out] at hBb2
          have HBV : Hid (Below w9.heap.size w9 V) := next_trans HBb.out hBb2
          have HSV : Hid (IsSls V to2 TL) := hs2.next hBb2
          have HGV : Hid (Bx V GB #[.string tn, .slice to2 N tc2]) := Bx.made' HVe.out HGB.out
          have t0 : V.cell? ⟨TB, 0, none⟩ = some (.string tn) := (HTb.out.next HBV.out).cell 0
          have t1 : V.cell? ⟨TB, 1, none⟩ = some (.slice to N tc) := (HTb.out.next HBV.out).cell 1
          have x0 : V.cell? ⟨XB, 0, none⟩ = some (.string tn) := (HXb.out.next HBV.out).cell 0
          have x1 : V.cell? ⟨XB, 1, none⟩ = some (.slice xo N xc) := (HXb.out.next HBV.out).cell 1
          have g0 : V.cell? ⟨GB, 0, none⟩ = some (.string tn) := HGV.out.cell 0
          have g1 : V.cell? ⟨GB, 1, none⟩ = some (.slice to2 N tc2) := HGV.out.cell 1
          clear hA0 hbb hBb2 hs2 HBa HBb
          go_wp2_with fail
          rw [HVe.out, HGB.out]
          clear HVe HGB
          go_region_held3 (fun w' => w'.cell? ⟨TB, 0, none⟩ = some (.string tn) ∧ w'.cell? ⟨TB, 1, none⟩ = some (.slice to N tc) ∧ w'.cell? ⟨XB, 0, none⟩ = some (.string tn) ∧ w'.cell? ⟨XB, 1, none⟩ = some (.slice xo N xc) ∧ w'.cell? ⟨GB, 0, none⟩ = some (.string tn) ∧ w'.cell? ⟨GB, 1, none⟩ = some (.slice to2 N tc2))
            (((try dsimp only); go_split_ands; refine ⟨?_, ?_, ?_, ?_, ?_, ?_⟩ <;> first | assumption | exact keep_cell (by assumption) (by assumption)))
            (first
              | (go_at_call 15; refine calls_at (W2 := V) ?_ (fun hBf => ?_); ((first | exact (Below.refl _ _).drew | exact Below.refl _ _ | (fail "belS"))); refine (HSm.out _ _ _ (next_trans HBV.out hBf) (HSV.out.next hBf)).mono ?_; rintro e v1 ⟨rfl, hb⟩; have hb1 := hb; have hv1 : Below V.heap.size V v1 := next_trans hBf hb)
              | (go_at_call 14; refine calls_at (W2 := V) hv1 (fun hBf => ?_); refine (HNo.out _ (next_trans HBV.out hBf)).mono ?_; rintro e v2 ⟨⟨A2, c2, rfl, hA2⟩, hb⟩; have hb2 := hb; have hv2 : Below V.heap.size V v2 := next_trans hv1 hb2)
              | (go_at_call 17; refine (HO5.out _ _ _ hA2.out).mono ?_; rintro e v3 ⟨⟨A3, c3, rfl, hA3⟩, hb⟩; have hb3 := hb; have hv3 : Below V.heap.size V v3 := next_trans hv2 hb3)
              | (go_at_call 18; refine calls_at (W2 := V) hv3 (fun hBf => ?_); refine (HRn.out _ (next_trans HBV.out hBf)).mono ?_; rintro e v4 ⟨⟨A4, c4, rfl, hA4⟩, hb⟩; have hb4 := hb; have hA3' := And.intro hA3.out.1 (hA3.out.2.next hb4); have hv4 : Below V.heap.size V v4 := next_trans hv3 hb4)
              | (go_at_call 16; refine (HRs.out _ _ _ _ _ hA3' hA4.out).mono ?_; rintro e v5 ⟨rfl, hb⟩; have hb5 := hb; have hv5 : Below V.heap.size V v5 := next_trans hv4 hb5))
          all_goals
            have HBe : Hid (Below w.heap.size w v5) := next_trans HB9.out (next_trans HBV.out hv5)
            go_split_ands
            go_wp2
            go_ret
            exact ⟨rfl, HBe.out⟩
        · have hfb : (FE == 0) = false := by simp; exact hfe
          go_wp2
          go_ret
          exact ⟨rfl, HB9.out⟩
  · have HRd : Hid (Calls Tryz.prog 7 #[.slice ao n cap] w1 fun e w' => (∃ b, e = .returned (.tuple #[.slice none 0 0, .agg #[.slice (some ⟨b, 0, none⟩) 1 1, .int .i64 R.e]]) ∧ PtAt w' b (R.a : Int)) ∧ Below w1.heap.size w1 w') :=
      rread_no5 ao n cap l R w1 HL.out (HI.out.next HB1.out) (by omega) hc HR.out he
    have heb : (R.e == 0) = false := by simp; exact he
    go_wp2_with fail
    refine HRd.out.mono ?_
    rintro e w2 ⟨⟨b, rfl, _⟩, hb2⟩
    have HB2 : Hid (Below w.heap.size w w2) := next_trans HB1.out hb2
    clear hb2 HRd
    go_wp2
    go_ret
    exact ⟨rfl, next_trans HB2.out (alloc_below _ _)⟩
end Go.Proofs.YtlniifheapoppaaGreatDoor
