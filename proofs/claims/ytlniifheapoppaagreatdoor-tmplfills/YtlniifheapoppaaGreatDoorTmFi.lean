/- The walk of TmplFills. -/
import Derived.Test.YtlniifheapoppaaGreatDoorTmFiM
namespace Go.Proofs.YtlniifheapoppaaGreatDoor
open Go.RowKit

theorem fillL_err (T : List Sl) : ∀ (r : List (ByteArray × Val)) (done : List ByteArray) (cur : List Val) (f : Int), fillL T done cur r = .error f → f = 5 ∨ f = 6
  | [], _, cur, f, h => by cases h
  | (n, v) :: r, done, cur, f, h => by
    unfold fillL at h
    split at h
    · cases h; exact .inl rfl
    · split at h
      · cases h; exact .inr rfl
      · exact fillL_err T r _ _ f h
theorem fillR_err {T : List Sl} {ns : List ByteArray} {vs : List Val} {f : Int} (h : fillR T ns vs = .error f) : f = 1 ∨ f = 5 ∨ f = 6 := by
  unfold fillR at h
  split at h
  · exact .inr (fillL_err T _ _ _ f h)
  · cases h; exact .inl rfl
/-- What both fillings answer. -/
theorem fill_g {T : List Sl} {ns : List ByteArray} {vs : List Val} (h1 : ∀ s ∈ T, OkV ⟨s.k, s.i, s.s⟩) (h2 : ∀ v ∈ vs, OkV v) (hT : T.length ≤ 16) :
    ∃ (G : Int) (Mn : Nat) (OUT : List Val), OUT.length = Mn ∧ Mn ≤ 16 ∧ 0 ≤ G ∧ G ≤ 10 ∧ (G = 0 → Mn = T.length ∧ ∀ v ∈ OUT, OkV v) ∧
      ∀ w w' e, FiR T ns vs w w' e → (∃ fo fc, e = .returned (.tuple #[.slice fo Mn fc, .int .i64 G]) ∧ IsVals w' fo OUT) ∧ Below w.heap.size w w' := by
  cases hf : fillR T ns vs with
  | ok out =>
    have hl := fillR_len hf
    refine ⟨0, out.length, out, rfl, by omega, by decide, by decide, fun _ => ⟨hl, fillR_ok hf h1 h2⟩, ?_⟩
    rintro w w' e ⟨hb, hr⟩
    rcases hr with ⟨out', ao, cap, g1, g2, _, g4⟩ | ⟨f, g1, _⟩
    · rw [hf] at g1
      injection g1 with g1
      subst g1
      exact ⟨⟨ao, cap, g2, g4⟩, hb⟩
    · rw [hf] at g1; cases g1
  | error f =>
    have hfe := fillR_err hf
    refine ⟨f, 0, [], rfl, by omega, by omega, by omega, fun h => by omega, ?_⟩
    rintro w w' e ⟨hb, hr⟩
    rcases hr with ⟨out', ao, cap, g1, _⟩ | ⟨f', g1, g2⟩
    · rw [hf] at g1; cases g1
    · rw [hf] at g1
      injection g1 with g1
      subst g1
      exact ⟨⟨none, 0, g2, IsVals.nil _ _⟩, hb⟩

set_option maxHeartbeats 16000000 in
set_option maxRecDepth 20000 in
theorem fills9_walk (ao : Option Addr) (n cap : Nat) (l : List UInt8) (no : Option Addr) (N1 nc : Nat) (ns : List ByteArray) (vo : Option Addr) (N2 vc : Nat) (vs : List Val) (w : World) (hl : l.length = n) (h : IsB w ao l) (hc : n ≤ cap) (hn1 : ns.length = N1) (hns : StrsA w no ns) (hn2 : vs.length = N2) (hvs : IsVals w vo vs) (hsz : ∀ v ∈ vs, v.s.size ≤ 9223372036854775807 ∧ inB v.i = true) (h4 : TabW w ∧ MaxW w) :
    Calls Tryz.prog 4 #[.slice ao n cap, .slice no N1 nc, .slice vo N2 vc] w fun e w' => e = .returned (.bool true) ∧ Below w.heap.size w w' := by
  have H4 : Hid (TabW w ∧ MaxW w) := h4
  have HI : Hid (IsB w ao l) := h
  have HL : Hid (l.length = n) := hl
  have HN1 : Hid (ns.length = N1) := hn1
  have HN2 : Hid (vs.length = N2) := hn2
  have HS : Hid (StrsA w no ns) := hns
  have HVl : Hid (IsVals w vo vs) := hvs
  have HSz : Hid (∀ v ∈ vs, v.s.size ≤ 9223372036854775807 ∧ inB v.i = true) := hsz
  clear h hl h4 hn1 hn2 hns hvs hsz
  go_enter Tryz.func4, Tryz.ntmps4
  go_wp2_with fail
  refine (known9 w H4.out.1 H4.out.2).mono ?_
  rintro e w1 ⟨rfl, hb1⟩
  have HB1 : Hid (Below w.heap.size w w1) := hb1
  clear hb1
  by_cases hn : 2000 < n
  · have hni : (2000 : Int) < (n : Int) := by omega
    go_wp2
    go_ret
    exact ⟨rfl, HB1.out⟩
  have hni : ¬ (2000 : Int) < (n : Int) := by omega
  by_cases hm1 : 30 < N1
  · have hmi : (30 : Int) < (N1 : Int) := by omega
    go_wp2
    go_ret
    exact ⟨rfl, HB1.out⟩
  have hmi : ¬ (30 : Int) < (N1 : Int) := by omega
  by_cases hm2 : 30 < N2
  · have hmj : (30 : Int) < (N2 : Int) := by omega
    go_wp2
    go_ret
    exact ⟨rfl, HB1.out⟩
  have hmj : ¬ (30 : Int) < (N2 : Int) := by omega
  obtain ⟨R, HR⟩ : ∃ R, Hid (readQ l = R) := ⟨_, rfl⟩
  by_cases he : R.e = 0
  rotate_left
  · have HRd : Hid (Calls Tryz.prog 7 #[.slice ao n cap] w1 fun e w' => (∃ b, e = .returned (.tuple #[.slice none 0 0, .agg #[.slice (some ⟨b, 0, none⟩) 1 1, .int .i64 R.e]]) ∧ PtAt w' b (R.a : Int)) ∧ Below w1.heap.size w1 w') :=
      rread_no5 ao n cap l R w1 HL.out (HI.out.next HB1.out) (by omega) hc HR.out he
    have heb : (R.e == 0) = false := by simp; exact he
    go_wp2_with fail
    refine HRd.out.mono ?_
    rintro e w2 ⟨⟨b, rfl, _⟩, hb2⟩
    have HB2 : Hid (Below w.heap.size w w2) := next_trans HB1.out hb2
    clear hb2 HRd
    go_wp2
    go_ret
    exact ⟨rfl, next_trans HB2.out (alloc_below _ _)⟩
  have HBd : Hid (WfL R.l ∧ ∀ x ∈ R.l, NdB x) := by
    obtain ⟨h1, _, _, _, h5⟩ := read_bnd l R HR.out he (by rw [HL.out]; omega)
    exact ⟨h1, h5⟩
  obtain ⟨L, ra, re⟩ := R
  simp only at he HBd
  subst he
  have HRd : Hid (Calls Tryz.prog 7 #[.slice ao n cap] w1 fun e w' => (∃ ao cap, e = .returned (.tuple #[.slice ao L.length cap, .agg #[.slice none 0 0, .int .i64 0]]) ∧ L.length ≤ cap ∧ IsNds w' anyB ao L) ∧ Below w1.heap.size w1 w') :=
    rread_yes5 ao n cap l L w1 HL.out (HI.out.next HB1.out) (by omega) hc ra HR.out
  cases L with
  | nil =>
    go_wp2_with fail
    refine HRd.out.mono ?_
    rintro e w2 ⟨⟨a2, c2, rfl, _⟩, hb2⟩
    have HB2 : Hid (Below w.heap.size w w2) := next_trans HB1.out hb2
    simp only [List.length_nil]
    clear hb2 HRd
    go_wp2
    go_ret
    exact ⟨rfl, next_trans HB2.out (alloc_below _ _)⟩
  | cons x r =>
    have hr1 : ((((x :: r).length : Nat) : Int) == 0) = false := by simp only [List.length_cons]; simp; omega
    obtain ⟨Q, HQ⟩ : ∃ Q, Hid ((x :: r).length = Q) := ⟨_, rfl⟩
    have hQ : 0 < (Q : Int) := by have := HQ.out; simp only [List.length_cons] at this; omega
    rw [HQ.out] at HRd hr1
    go_wp2_with fail
    refine HRd.out.mono ?_
    rintro e w2 ⟨⟨a2, c2, rfl, hcq, hN⟩, hb2⟩
    have HB2 : Hid (Below w.heap.size w w2) := next_trans HB1.out hb2
    obtain ⟨b, o, a0, cap0, K, A, I, Y, M, rfl, H, Hx, hK, HM⟩ := kid_get (j := 0) hN rfl
    have HNd : Hid (NdB x) := HBd.out.2 x (by simp)
    have HMm : Hid (x ∈ (readQ l).l) := by rw [Hid, HR.out]; simp
    rw [Nat.zero_mul, Nat.add_zero] at hK
    clear hb2 hN hcq HRd HBd
    obtain ⟨k0, k1, k2, k3, k4⟩ := hK
    have hbl : b < w2.heap.size := lt_of_cell k0
    have HM2 : Hid (M ≤ cap0 ∧ IsNds w2 anyB a0 x.l) := ⟨by rw [← Hx.out.2.2.2.2]; exact HM.out.1, HM.out.2⟩
    have hV : ∀ a c, .agg #[.int .i64 (K), .int .i64 (A), .int .i64 (I), .string (Y), .slice a M c] = ndV x a c := fun a c => by
      obtain ⟨rfl, rfl, rfl, rfl, rfl⟩ := Hx.out
      rfl
    have HL5 : x.l.length = M := Hx.out.2.2.2.2
    obtain ⟨T, HT⟩ : ∃ T, Hid (tpOf x = T) := ⟨_, rfl⟩
    have HT16 : Hid (T.l.length ≤ 16) := by rw [← HT.out]; exact tpOf_len x
    have HPr : Hid (∀ w', Below w2.heap.size w2 w' → Calls Tryz.prog 10 #[.agg #[.int .i64 (K), .int .i64 (A), .int .i64 (I), .string (Y), .slice a0 M cap0]] w' fun e w3 => (∃ to tc fo fn fc FE, e = .returned (.tuple #[.agg #[.string T.n, .slice to T.l.length tc], .agg #[.slice fo fn fc, .int .i64 FE]]) ∧ IsSls w3 to T.l ∧ TellF x w3 fo fn fc FE) ∧ Below w'.heap.size w' w3) := by
      intro w' hw
      rw [hV, ← HT.out]
      exact trparse_g x a0 cap0 w' HNd.out.cnt (wfN_bd HNd.out.wf) (by rw [HL5]; exact HM2.out.1) (HM2.out.2.next hw)
    clear hV HL5
    obtain ⟨tn, TL⟩ := T
    simp only at HPr HT16
    obtain ⟨N, HN⟩ : ∃ N, Hid (TL.length = N) := ⟨_, rfl⟩
    rw [HN.out] at HPr HT16
    go_wp2_with fail
    refine (HPr.out _ (alloc_below _ _)).mono ?_
    rintro e w3 ⟨⟨xo, xc, fo, fn, fc, FE, rfl, hs3, hF⟩, hb3⟩
    have hbx : Below w2.heap.size w2 w3 := next_trans (alloc_below _ _) hb3
    have HB3 : Hid (Below w.heap.size w w3) := next_trans HB2.out hbx
    have HS3 : Hid (IsSls w3 xo TL) := hs3
    have hfe := TellF.ok HMm.out (by rw [HL.out]; omega) hF
    clear k0 k1 k2 k3 k4 hbl hb3 hbx hs3 hF HPr
    rcases hfe with ⟨rfl, hok⟩ | hfe
    rotate_left
    · have hfb : (FE == 0) = false := by simp; exact hfe
      go_wp2
      go_ret
      exact ⟨rfl, next_trans HB3.out (next_trans (alloc_below _ _) (alloc_below _ _))⟩
    rw [HT.out] at hok
    have HOk : Hid (OkT ⟨tn, TL⟩) := parT_ok hok
    have HWf : Hid (∀ s ∈ TL, OkV ⟨s.k, s.i, s.s⟩) := parT_wf HNd.out.wf hok
    obtain ⟨XB, HXB⟩ : ∃ XB, Hid (w3.heap.size = XB) := ⟨_, rfl⟩
    obtain ⟨W, HWe⟩ : ∃ W, Hid ((w3.alloc (.cells #[.string tn, .slice xo N xc] 45)).alloc (.cells #[.slice fo fn fc, .int .i64 0] 27) = W) := ⟨_, rfl⟩
    have hWb : Below w3.heap.size w3 W := by rw [← HWe.out]; exact next_trans (alloc_below _ _) (alloc_below _ _)
    have HBW : Hid (Below w.heap.size w W) := next_trans HB3.out hWb
    have HXW : Hid (Bx W XB #[.string tn, .slice xo N xc]) := by rw [← HWe.out, ← HXB.out]; exact (Bx.made _ _ _).alloc _
    have HSW : Hid (IsSls W xo TL) := HS3.out.next hWb
    clear hWb hok HS3 H HM2 HM Hx
    go_wp2
    rw [HWe.out, HXB.out]
    clear HWe HXB
    go_loopw [11] (fun q wr => ∃ k : Nat, k ≤ N2 ∧ q = .int .i64 k ∧ Hid (Below W.heap.size W wr) ∧ Hid (∀ v ∈ vs.take k, OkV v)) (fun q _ => N2 - (intOf q).toNat)
    case atStart => exact ⟨0, Nat.zero_le _, rfl, Below.refl _ _, by rw [List.take_zero]; exact fun v hv => by cases hv⟩
    case round =>
      obtain ⟨k, hk, rfl, HBr, HOv⟩ := hrel
      by_cases hlt : k < N2
      · have hki : (k : Int) < (N2 : Int) := by omega
        have hk0 : (0 : Int) ≤ (k : Int) := by omega
        obtain ⟨v, hv⟩ : ∃ v, vs[k]? = some v := ⟨_, List.getElem?_eq_getElem (by rw [HN2.out]; exact hlt)⟩
        obtain ⟨b4, o4, rfl, c0, c1, c2⟩ := (HVl.out.next (next_trans HBW.out HBr.out)) k v hv
        have hsz := HSz.out v (List.mem_of_getElem? hv)
        have htk : vs.take (k + 1) = vs.take k ++ [v] := by rw [List.take_add_one, hv]; rfl
        obtain ⟨vk, vi, vt⟩ := v
        simp only at c0 c1 c2 hsz
        cases hr : rightB vk vi vt
        · have HRg : Hid (∀ w', Calls Tryz.prog 19 #[.agg #[.int .i64 (vk), .int .i64 (vi), .string (vt)]] w' fun e w2 => e = .returned (.bool false) ∧ Below w'.heap.size w' w2) := by
            intro w'; rw [← hr]; exact brright_any vk vi vt w' hsz.1
          clear hr htk hv hsz
          go_wp2_with fail
          refine (HRg.out _).mono ?_
          rintro e w5 ⟨rfl, hb5⟩
          have HB5 : Hid (Below w.heap.size w w5) := next_trans HBW.out (next_trans HBr.out hb5)
          clear hb5
          go_wp2
          go_ret
          exact ⟨rfl, HB5.out⟩
        · have HRg : Hid (∀ w', Calls Tryz.prog 19 #[.agg #[.int .i64 (vk), .int .i64 (vi), .string (vt)]] w' fun e w2 => e = .returned (.bool true) ∧ Below w'.heap.size w' w2) := by
            intro w'; rw [← hr]; exact brright_any vk vi vt w' hsz.1
          have HOv' : Hid (∀ v ∈ vs.take (k + 1), OkV v) := by
            intro v hv
            rw [htk] at hv
            rcases List.mem_append.1 hv with g | g
            · exact HOv.out v g
            · rw [List.mem_singleton.1 g]; exact OkV.right hr hsz.2
          clear hr htk hv hsz
          go_wp2_with fail
          refine (HRg.out _).mono ?_
          rintro e w5 ⟨rfl, hb5⟩
          have HB5 : Hid (Below W.heap.size W w5) := next_trans HBr.out hb5
          clear hb5 c0 c1 c2
          go_wp2
          go_roundw
          case rel => exact ⟨k + 1, by omega, by go_num, HB5, HOv'⟩
          case measure => simp [intOf]; omega
      · have hki : ¬ (k : Int) < (N2 : Int) := by omega
        obtain rfl : k = N2 := by omega
        have hov : ∀ v ∈ vs, OkV v := by have := HOv.out; rwa [← HN2.out, List.take_length] at this
        obtain ⟨G, Mn, OUT, hMn, hM16, hG0, hG10, hGz, hFi⟩ := fill_g (ns := ns) (vs := vs) HWf.out hov (by rw [HN.out]; exact HT16.out)
        have HGz : Hid (OUT.length = Mn ∧ (G = 0 → Mn = N ∧ ∀ v ∈ OUT, OkV v)) := ⟨hMn, by rw [← HN.out]; exact hGz⟩
        clear hov hMn hGz
        have HN1k : Hid (TL.length ≤ 1000) := by rw [Hid, HN.out]; have := HT16.out; omega
        have HTo : Hid (Calls Tryz.prog 20 #[.agg #[.string tn, .slice xo N xc]] wr fun e w2 => (∃ to tc, e = .returned (.agg #[.string tn, .slice to N tc]) ∧ IsSls w2 to TL) ∧ Below wr.heap.size wr w2) := by
          rw [← HN.out]
          refine (tto_any ⟨tn, TL⟩ xo xc wr HN1k.out (HSW.out.next HBr.out)).mono ?_
          rintro e w2 ⟨⟨ao', cap', h1, _, h2⟩, hb⟩
          exact ⟨⟨ao', cap', h1, h2⟩, hb⟩
        have HXr : Hid (Bx wr XB #[.string tn, .slice xo N xc]) := HXW.out.next HBr.out
        have x0 : wr.cell? ⟨XB, 0, none⟩ = some (.string tn) := HXr.out.cell 0
        have x1 : wr.cell? ⟨XB, 1, none⟩ = some (.slice xo N xc) := HXr.out.cell 1
        go_wp2_with fail
        refine HTo.out.mono ?_
        rintro e w5 ⟨⟨to, tc, rfl, hs5⟩, hb5⟩
        obtain ⟨TB, HTB⟩ : ∃ TB, Hid (w5.heap.size = TB) := ⟨_, rfl⟩
        obtain ⟨V, HVe⟩ : ∃ V, Hid (w5.alloc (.cells #[.string tn, .slice to N tc] 32) = V) := ⟨_, rfl⟩
        have hbV : Below w5.heap.size w5 V := by rw [← HVe.out]; exact alloc_below _ _
        have hbr : Below wr.heap.size wr V := next_trans hb5 hbV
        have HBV : Hid (Below w.heap.size w V) := next_trans HBW.out (next_trans HBr.out hbr)
        have HTV : Hid (Bx V TB #[.string tn, .slice to N tc]) := Bx.made' HVe.out HTB.out
        have HXV : Hid (Bx V XB #[.string tn, .slice xo N xc]) := HXr.out.next hbr
        have HTs : Hid (IsSls V to TL) := hs5.next hbV
        have HXs : Hid (IsSls V xo TL) := HSW.out.next (next_trans HBr.out hbr)
        have HFl : Hid (∀ w', Below V.heap.size V w' → Calls Tryz.prog 21 #[.agg #[.string tn, .slice to N tc], .slice no N1 nc, .slice vo k vc] w' fun e w2 => (∃ fo fc, e = .returned (.tuple #[.slice fo Mn fc, .int .i64 G]) ∧ IsVals w2 fo OUT) ∧ Below w'.heap.size w' w2) := by
          intro w' hw
          rw [← HN.out]
          exact (fill_any ⟨tn, TL⟩ to tc no vo N1 k nc vc ns vs w' HN1k.out HN1.out HN2.out (by omega) (HTs.out.next hw) (HS.out.next (next_trans HBV.out hw)) (HVl.out.next (next_trans HBV.out hw))).mono (fun e w2 h => hFi _ _ _ h)
        have HFr : Hid (∀ w', Below V.heap.size V w' → Calls Tryz.prog 22 #[.agg #[.string tn, .slice xo N xc], .slice no N1 nc, .slice vo k vc] w' fun e w2 => (∃ fo fc, e = .returned (.tuple #[.slice fo Mn fc, .int .i64 G]) ∧ IsVals w2 fo OUT) ∧ Below w'.heap.size w' w2) := by
          intro w' hw
          rw [← HN.out]
          exact (rfill_any ⟨tn, TL⟩ xo xc no vo N1 k nc vc ns vs w' HN1k.out HN1.out HN2.out (by omega) (HXs.out.next hw) (HS.out.next (next_trans HBV.out hw)) (HVl.out.next (next_trans HBV.out hw))).mono (fun e w2 h => hFi _ _ _ h)
        have t0 : V.cell? ⟨TB, 0, none⟩ = some (.string tn) := HTV.out.cell 0
        have t1 : V.cell? ⟨TB, 1, none⟩ = some (.slice to N tc) := HTV.out.cell 1
        clear hbV hbr hb5 hs5 x0 x1 HXr hFi HTo HSW HXW
        go_wp2_with fail
        rw [HVe.out, HTB.out]
        clear HVe HTB
        refine (HFl.out V (Below.refl _ _)).mono ?_
        rintro e w6 ⟨⟨fo6, fc6, rfl, hv6⟩, hb6⟩
        have HB6 : Hid (Below V.heap.size V w6) := hb6
        have HV6 : Hid (IsVals w6 fo6 OUT) := hv6
        have x0 : w6.cell? ⟨XB, 0, none⟩ = some (.string tn) := (HXV.out.next hb6).cell 0
        have x1 : w6.cell? ⟨XB, 1, none⟩ = some (.slice xo N xc) := (HXV.out.next hb6).cell 1
        clear hb6 hv6 t0 t1 HFl
        go_wp2_with fail
        refine (HFr.out w6 HB6.out).mono ?_
        rintro e w7 ⟨⟨fo7, fc7, rfl, hv7⟩, hb7⟩
        have HB7 : Hid (Below V.heap.size V w7) := next_trans HB6.out hb7
        have HV7 : Hid (IsVals w7 fo7 OUT ∧ IsVals w7 fo6 OUT) := ⟨hv7, HV6.out.next hb7⟩
        have hgg : ((G : Int) != G) = false := by simp
        have HRw : Hid (∀ w', Below w7.heap.size w7 w' → Calls Tryz.prog 23 #[.slice fo6 Mn fc6, .slice fo7 Mn fc7] w' fun e w2 => e = .returned (.bool true) ∧ Below w'.heap.size w' w2) := fun w' hw => rows_self fo6 fo7 Mn fc6 fc7 OUT w' HGz.out.1 (by omega) (HV7.out.2.next hw) (HV7.out.1.next hw)
        clear hb7 hv7 x0 x1 HFr HB6 HV6
        go_wp2_with fail
        refine (HRw.out w7 (Below.refl _ _)).mono ?_
        rintro e w8 ⟨rfl, hb8⟩
        have HB8 : Hid (Below V.heap.size V w8) := next_trans HB7.out hb8
        have HV8 : Hid (IsVals w8 fo7 OUT ∧ IsVals w8 fo6 OUT) := ⟨HV7.out.1.next hb8, HV7.out.2.next hb8⟩
        clear hb8 HRw HV7 HB7
        go_wp2
        go_loopw [17] (fun q wq => ∃ j : Nat, j ≤ N1 ∧ q = .int .i64 j ∧ Hid (Below w8.heap.size w8 wq)) (fun q _ => N1 - (intOf q).toNat)
        case atStart => exact ⟨0, Nat.zero_le _, rfl, Below.refl _ _⟩
        case round =>
          obtain ⟨j, hj, rfl, HBq⟩ := hrel
          have HBVq : Hid (Below V.heap.size V wr) := next_trans HB8.out HBq.out
          by_cases hlj : j < N1
          · have hji : (j : Int) < (N1 : Int) := by omega
            have hj0 : (0 : Int) ≤ (j : Int) := by omega
            obtain ⟨nm, hs⟩ : ∃ nm, ns[j]? = some nm := ⟨_, List.getElem?_eq_getElem (by rw [HN1.out]; exact hlj)⟩
            obtain ⟨b5, o5, rfl, s0⟩ := (HS.out.next (next_trans HBV.out HBVq.out)) j nm hs
            have t0 : wr.cell? ⟨TB, 0, none⟩ = some (.string tn) := (HTV.out.next HBVq.out).cell 0
            have t1 : wr.cell? ⟨TB, 1, none⟩ = some (.slice to N tc) := (HTV.out.next HBVq.out).cell 1
            have HSl : Hid (∀ w', Below V.heap.size V w' → Calls Tryz.prog 24 #[.agg #[.string tn, .slice to N tc], .string nm] w' fun e w2 => e = .returned (.tuple #[.int .i64 (placeI TL nm), .bool (placeS TL nm).isSome]) ∧ Below w'.heap.size w' w2) := by
              intro w' hw; rw [← HN.out]; exact tslot_any ⟨tn, TL⟩ to tc nm w' HN1k.out (HTs.out.next hw)
            have HSr : Hid (∀ w', Below V.heap.size V w' → Calls Tryz.prog 25 #[.agg #[.string tn, .slice xo N xc], .string nm] w' fun e w2 => e = .returned (.int .i64 (rplaceI TL nm)) ∧ Below w'.heap.size w' w2) := by
              intro w' hw; rw [← HN.out]; exact rtslot_any ⟨tn, TL⟩ xo xc nm w' HN1k.out (HXs.out.next hw)
            clear hs
            cases hp : placeS TL nm with
            | none =>
              have e1 : placeI TL nm = 0 := by unfold placeI; rw [hp]; rfl
              have e2 : (placeS TL nm).isSome = false := by rw [hp]; rfl
              have e3 : rplaceI TL nm = -1 := by unfold rplaceI; rw [hp]
              rw [e1, e2] at HSl
              rw [e3] at HSr
              clear e1 e2 e3 hp
              go_wp2
              go_region_held3 (fun w' => w'.cell? ⟨TB, 0, none⟩ = some (.string tn) ∧ w'.cell? ⟨TB, 1, none⟩ = some (.slice to N tc) ∧ w'.cell? ⟨b5, o5 + j, none⟩ = some (.string nm))
                (((try dsimp only); go_split_ands; refine ⟨?_, ?_, ?_⟩ <;> first | assumption | exact keep_cell (by assumption) (by assumption)))
                (first
                  | (go_at_call 24; refine calls_at (W2 := V) ?_ (fun hBf => ?_); ((first | exact HBVq.out.drew | exact HBVq.out | (fail "belSl"))); refine (HSl.out _ hBf).mono ?_; rintro e wa ⟨rfl, hb⟩; have hbd := hb))
              have hba : Below wr.heap.size wr wa := below_undrawn hbd
              clear hb hbd
              go_split_ands
              have HBa : Hid (Below w8.heap.size w8 wa) := next_trans HBq.out hba
              have HBVa : Hid (Below V.heap.size V wa) := next_trans HB8.out HBa.out
              have s0 : wa.cell? ⟨b5, o5 + j, none⟩ = some (.string nm) := keep_cell hba s0
              have x0 : wa.cell? ⟨XB, 0, none⟩ = some (.string tn) := (HXV.out.next HBVa.out).cell 0
              have x1 : wa.cell? ⟨XB, 1, none⟩ = some (.slice xo N xc) := (HXV.out.next HBVa.out).cell 1
              clear hba HSl t0 t1
              go_wp2
              go_region_held3 (fun w' => w'.cell? ⟨XB, 0, none⟩ = some (.string tn) ∧ w'.cell? ⟨XB, 1, none⟩ = some (.slice xo N xc) ∧ w'.cell? ⟨b5, o5 + j, none⟩ = some (.string nm))
                (((try dsimp only); go_split_ands; refine ⟨?_, ?_, ?_⟩ <;> first | assumption | exact keep_cell (by assumption) (by assumption)))
                (first
                  | (go_at_call 25; refine calls_at (W2 := V) ?_ (fun hBf => ?_); ((first | exact HBVa.out.drew | exact HBVa.out | (fail "belSr"))); refine (HSr.out _ hBf).mono ?_; rintro e wb ⟨rfl, hb⟩; have hbd := hb))
              have hbb : Below wa.heap.size wa wb := below_undrawn hbd
              clear hb hbd
              go_split_ands
              have HBb : Hid (Below w8.heap.size w8 wb) := next_trans HBa.out hbb
              clear hbb x0 x1 s0 HSr
              go_wp2
              go_roundw
              case rel => exact ⟨j + 1, by omega, by go_num, HBb⟩
              case measure => simp [intOf]; omega
            | some p =>
              have hpN : p < 16 := by have h1 := place_lt hp; rw [HN.out] at h1; have := HT16.out; omega
              have e1 : placeI TL nm = (p : Int) := placeI_at hp
              have e2 : (placeS TL nm).isSome = true := by rw [hp]; rfl
              have e3 : rplaceI TL nm = (p : Int) := by unfold rplaceI; rw [hp]
              rw [e1, e2] at HSl
              rw [e3] at HSr
              have hp0 : (0 : Int) ≤ (p : Int) := by omega
              have hpp : ((p : Int) != (p : Int)) = false := by simp
              clear e1 e2 e3 hp
              go_wp2
              go_region_held3 (fun w' => w'.cell? ⟨TB, 0, none⟩ = some (.string tn) ∧ w'.cell? ⟨TB, 1, none⟩ = some (.slice to N tc) ∧ w'.cell? ⟨b5, o5 + j, none⟩ = some (.string nm))
                (((try dsimp only); go_split_ands; refine ⟨?_, ?_, ?_⟩ <;> first | assumption | exact keep_cell (by assumption) (by assumption)))
                (first
                  | (go_at_call 24; refine calls_at (W2 := V) ?_ (fun hBf => ?_); ((first | exact HBVq.out.drew | exact HBVq.out | (fail "belSl"))); refine (HSl.out _ hBf).mono ?_; rintro e wa ⟨rfl, hb⟩; have hbd := hb))
              have hba : Below wr.heap.size wr wa := below_undrawn hbd
              clear hb hbd
              go_split_ands
              have HBa : Hid (Below w8.heap.size w8 wa) := next_trans HBq.out hba
              have HBVa : Hid (Below V.heap.size V wa) := next_trans HB8.out HBa.out
              have s0 : wa.cell? ⟨b5, o5 + j, none⟩ = some (.string nm) := keep_cell hba s0
              have x0 : wa.cell? ⟨XB, 0, none⟩ = some (.string tn) := (HXV.out.next HBVa.out).cell 0
              have x1 : wa.cell? ⟨XB, 1, none⟩ = some (.slice xo N xc) := (HXV.out.next HBVa.out).cell 1
              clear hba HSl t0 t1
              go_wp2
              go_region_held3 (fun w' => w'.cell? ⟨XB, 0, none⟩ = some (.string tn) ∧ w'.cell? ⟨XB, 1, none⟩ = some (.slice xo N xc) ∧ w'.cell? ⟨b5, o5 + j, none⟩ = some (.string nm))
                (((try dsimp only); go_split_ands; refine ⟨?_, ?_, ?_⟩ <;> first | assumption | exact keep_cell (by assumption) (by assumption)))
                (first
                  | (go_at_call 25; refine calls_at (W2 := V) ?_ (fun hBf => ?_); ((first | exact HBVa.out.drew | exact HBVa.out | (fail "belSr"))); refine (HSr.out _ hBf).mono ?_; rintro e wb ⟨rfl, hb⟩; have hbd := hb))
              have hbb : Below wa.heap.size wa wb := below_undrawn hbd
              clear hb hbd
              go_split_ands
              have HBb : Hid (Below w8.heap.size w8 wb) := next_trans HBa.out hbb
              clear hbb x0 x1 s0 HSr
              go_wp2
              go_roundw
              case rel => exact ⟨j + 1, by omega, by go_num, HBb⟩
              case measure => simp [intOf]; omega
          · have hji : ¬ (j : Int) < (N1 : Int) := by omega
            obtain rfl : j = N1 := by omega
            have HVq : Hid (IsVals wr fo7 OUT ∧ IsVals wr fo6 OUT) := ⟨HV8.out.1.next HBq.out, HV8.out.2.next HBq.out⟩
            have t0 : wr.cell? ⟨TB, 0, none⟩ = some (.string tn) := (HTV.out.next HBVq.out).cell 0
            have t1 : wr.cell? ⟨TB, 1, none⟩ = some (.slice to N tc) := (HTV.out.next HBVq.out).cell 1
            have x0 : wr.cell? ⟨XB, 0, none⟩ = some (.string tn) := (HXV.out.next HBVq.out).cell 0
            have x1 : wr.cell? ⟨XB, 1, none⟩ = some (.slice xo N xc) := (HXV.out.next HBVq.out).cell 1
            by_cases hG : G = 0
            · obtain ⟨g1, g2⟩ := HGz.out.2 hG
              subst hG
              subst g1
              obtain ⟨X, HX⟩ : ∃ X, Hid (baL (textT ⟨tn, TL⟩ OUT) = X) := ⟨_, rfl⟩
              have hXX : (X.toList == X.toList) = true := by rw [beq_ba]; exact decide_eq_true rfl
              have HTx : Hid (∀ w', Below V.heap.size V w' → IsVals w' fo6 OUT → Calls Tryz.prog 26 #[.agg #[.string tn, .slice to Mn tc], .slice fo6 Mn fc6] w' fun e w2 => e = .returned (.string X) ∧ Below w'.heap.size w' w2) := by
                intro w' hw hv
                rw [← HX.out]
                have := tmtext_any ⟨tn, TL⟩ to tc fo6 Mn fc6 OUT w' HN.out HGz.out.1 (by omega) (textT_bd HOk.out g2) (fun v hv => ⟨by have := (g2 v hv).s; omega, (g2 v hv).i⟩) (HTs.out.next hw) hv (tab_next H4.out.1 (next_trans HBV.out hw))
                unfold tmV at this
                simp only at this
                rw [HN.out] at this
                exact this
              have HRx : Hid (∀ w', Below V.heap.size V w' → IsVals w' fo7 OUT → Calls Tryz.prog 27 #[.agg #[.string tn, .slice xo Mn xc], .slice fo7 Mn fc7] w' fun e w2 => e = .returned (.string X) ∧ Below w'.heap.size w' w2) := by
                intro w' hw hv
                rw [← HX.out]
                have := rttext_any ⟨tn, TL⟩ xo xc fo7 Mn fc7 OUT w' HN.out HGz.out.1 (by omega) (textT_bd HOk.out g2) (fun v hv => ⟨by have := (g2 v hv).s; omega, (g2 v hv).i, (g2 v hv).k⟩) (HXs.out.next hw) hv
                unfold tmV at this
                simp only at this
                rw [HN.out] at this
                exact this
              clear HX g2
              go_wp2
              go_region_held3 (fun w' => w'.cell? ⟨TB, 0, none⟩ = some (.string tn) ∧ w'.cell? ⟨TB, 1, none⟩ = some (.slice to Mn tc) ∧ w'.cell? ⟨XB, 0, none⟩ = some (.string tn) ∧ w'.cell? ⟨XB, 1, none⟩ = some (.slice xo Mn xc))
                (((try dsimp only); go_split_ands; refine ⟨?_, ?_, ?_, ?_⟩ <;> first | assumption | exact keep_cell (by assumption) (by assumption)))
                (first
                  | (go_at_call 26; refine calls_at (W2 := wr) ?_ (fun hBf => ?_); ((first | exact (Below.refl _ _).drew | exact Below.refl _ _ | (fail "belTx"))); refine (HTx.out _ (next_trans HBVq.out hBf) (HVq.out.2.next hBf)).mono ?_; rintro e wa ⟨rfl, hb⟩; have hba : Below wr.heap.size wr wa := next_trans hBf hb)
                  | (go_at_call 27; refine calls_at (W2 := wr) hba (fun hBf => ?_); refine (HRx.out _ (next_trans HBVq.out hBf) (HVq.out.1.next hBf)).mono ?_; rintro e wb ⟨rfl, hb⟩; have hbb : Below wr.heap.size wr wb := next_trans hBf hb))
              all_goals
                have HBe : Hid (Below w.heap.size w wb) := next_trans HBV.out (next_trans HBVq.out hbb)
                go_split_ands
                go_wp2
                go_ret
                exact ⟨rfl, HBe.out⟩
            · have hGb : (G == 0) = false := by simp; exact hG
              have hGn : (G != 0) = true := by simp; exact hG
              go_wp2
              refine wp_region_held_drew (S := (fun w' => Below wr.heap.size wr w')) (by kernel_rfl) ?_ (fun hHeldA => ?_)
              · exact (Below.refl _ _).drew
              refine wpAnyH_take (i := 0) (oi := { dst := some 137, op := Op.move (Operand.tmp 16), type := 3, pos := "law.go:111", after := #[], guard := none }) (v := ?_) rfl (by kernel_rfl) (by kernel_rfl) (by kernel_rfl) (fun _ _ _ h => h) (Or.inl ⟨by rfl, ?hyA0⟩) (by assumption) ?_
              case hyA0 => (intro w hSw; (try dsimp only at hSw); go_simp; try with_reducible rfl)
              (try simp only [Act.put, List.setIfInBounds_toArray, List.set_cons_zero, List.set_cons_succ])
              refine wpAnyH_take (i := 1) (oi := { dst := some 138, op := Op.binOp BinOp.neq 3 (Operand.tmp 137) (Operand.const (Value.int IntKind.i64 0)) 3, type := 4, pos := "law.go:111", after := #[{ on := 0, ground := Ground.data }], guard := none }) (v := ?_) rfl (by kernel_rfl) (by kernel_rfl) (by kernel_rfl) (fun _ _ _ h => h) (Or.inl ⟨by rfl, ?hyA1⟩) (by assumption) ?_
              case hyA1 => (intro w hSw; (try dsimp only at hSw); go_simp; try with_reducible rfl)
              (try simp only [Act.put, List.setIfInBounds_toArray, List.set_cons_zero, List.set_cons_succ])
              refine wpAnyH_take (i := 2) (oi := { dst := some 139, op := Op.move (Operand.tmp 138), type := 4, pos := "law.go:111", after := #[{ on := 1, ground := Ground.data }], guard := none }) (v := ?_) rfl (by kernel_rfl) (by kernel_rfl) (by kernel_rfl) (fun _ _ _ h => h) (Or.inl ⟨by rfl, ?hyA2⟩) (by assumption) ?_
              case hyA2 => (intro w hSw; (try dsimp only at hSw); go_simp; try with_reducible rfl)
              (try simp only [Act.put, List.setIfInBounds_toArray, List.set_cons_zero, List.set_cons_succ])
              refine wpAnyH_take (i := 3) (oi := { dst := some 140, op := Op.load 32 (Operand.tmp 12), type := 32, pos := "law.go:111", after := #[{ on := 2, ground := Ground.guard }], guard := some (2, false) }) (v := undef) rfl (by kernel_rfl) (by kernel_rfl) (by kernel_rfl) (fun _ _ _ h => h) (Or.inr ⟨by rfl, rfl⟩) (by assumption) ?_
              (try simp only [Act.put, List.setIfInBounds_toArray, List.set_cons_zero, List.set_cons_succ])
              refine wpAnyH_take (i := 4) (oi := { dst := some 141, op := Op.move (Operand.tmp 13), type := 58, pos := "law.go:111", after := #[{ on := 2, ground := Ground.guard }], guard := some (2, false) }) (v := undef) rfl (by kernel_rfl) (by kernel_rfl) (by kernel_rfl) (fun _ _ _ h => h) (Or.inr ⟨by rfl, rfl⟩) (by assumption) ?_
              (try simp only [Act.put, List.setIfInBounds_toArray, List.set_cons_zero, List.set_cons_succ])
              refine wpAnyH_take (i := 5) (oi := { dst := some 142, op := Op.call { callee := Callee.value (Operand.func 26), args := #[Operand.tmp 140, Operand.tmp 141], argTypes := #[32, 58] }, type := 9, pos := "law.go:111", after := #[{ on := 3, ground := Ground.data }, { on := 4, ground := Ground.data }, { on := 2, ground := Ground.chain }, { on := 2, ground := Ground.guard }], guard := some (2, false) }) (v := undef) rfl (by kernel_rfl) (by kernel_rfl) (by kernel_rfl) (fun _ _ _ h => h) (Or.inr ⟨by rfl, rfl⟩) (by assumption) ?_
              (try simp only [Act.put, List.setIfInBounds_toArray, List.set_cons_zero, List.set_cons_succ])
              refine wpAnyH_take (i := 6) (oi := { dst := some 143, op := Op.load 45 (Operand.tmp 9), type := 45, pos := "law.go:111", after := #[{ on := 2, ground := Ground.guard }], guard := some (2, false) }) (v := undef) rfl (by kernel_rfl) (by kernel_rfl) (by kernel_rfl) (fun _ _ _ h => h) (Or.inr ⟨by rfl, rfl⟩) (by assumption) ?_
              (try simp only [Act.put, List.setIfInBounds_toArray, List.set_cons_zero, List.set_cons_succ])
              refine wpAnyH_take (i := 7) (oi := { dst := some 144, op := Op.move (Operand.tmp 15), type := 58, pos := "law.go:111", after := #[{ on := 2, ground := Ground.guard }], guard := some (2, false) }) (v := undef) rfl (by kernel_rfl) (by kernel_rfl) (by kernel_rfl) (fun _ _ _ h => h) (Or.inr ⟨by rfl, rfl⟩) (by assumption) ?_
              (try simp only [Act.put, List.setIfInBounds_toArray, List.set_cons_zero, List.set_cons_succ])
              refine wpAnyH_take (i := 8) (oi := { dst := some 145, op := Op.call { callee := Callee.value (Operand.func 27), args := #[Operand.tmp 143, Operand.tmp 144], argTypes := #[45, 58] }, type := 9, pos := "law.go:111", after := #[{ on := 6, ground := Ground.data }, { on := 7, ground := Ground.data }, { on := 5, ground := Ground.chain }, { on := 2, ground := Ground.guard }], guard := some (2, false) }) (v := undef) rfl (by kernel_rfl) (by kernel_rfl) (by kernel_rfl) (fun _ _ _ h => h) (Or.inr ⟨by rfl, rfl⟩) (by assumption) ?_
              (try simp only [Act.put, List.setIfInBounds_toArray, List.set_cons_zero, List.set_cons_succ])
              refine wpAnyH_take (i := 9) (oi := { dst := some 146, op := Op.binOp BinOp.eql 9 (Operand.tmp 142) (Operand.tmp 145) 9, type := 4, pos := "law.go:111", after := #[{ on := 5, ground := Ground.data }, { on := 8, ground := Ground.data }, { on := 2, ground := Ground.guard }], guard := some (2, false) }) (v := undef) rfl (by kernel_rfl) (by kernel_rfl) (by kernel_rfl) (fun _ _ _ h => h) (Or.inr ⟨by rfl, rfl⟩) (by assumption) ?_
              (try simp only [Act.put, List.setIfInBounds_toArray, List.set_cons_zero, List.set_cons_succ])
              refine wpAnyH_take (i := 10) (oi := { dst := some 147, op := Op.pick (Operand.tmp 139) (Operand.const (Value.bool true)) (Operand.tmp 146), type := 4, pos := "law.go:111", after := #[{ on := 2, ground := Ground.data }, { on := 9, ground := Ground.data }], guard := none }) (v := ?_) rfl (by kernel_rfl) (by kernel_rfl) (by kernel_rfl) (fun _ _ _ h => h) (Or.inl ⟨by rfl, ?hyA10⟩) (by assumption) ?_
              case hyA10 => (intro w hSw; (try dsimp only at hSw); go_simp; try with_reducible rfl)
              (try simp only [Act.put, List.setIfInBounds_toArray, List.set_cons_zero, List.set_cons_succ])
              refine wpAnyH_take (i := 11) (oi := { dst := some 6, op := Op.assign (Operand.tmp 147), type := 4, pos := "law.go:111", after := #[{ on := 10, ground := Ground.data }, { on := 8, ground := Ground.chain }, { on := 0, ground := Ground.phase }, { on := 1, ground := Ground.phase }, { on := 2, ground := Ground.phase }, { on := 3, ground := Ground.phase }, { on := 4, ground := Ground.phase }, { on := 5, ground := Ground.phase }, { on := 6, ground := Ground.phase }, { on := 7, ground := Ground.phase }, { on := 8, ground := Ground.phase }, { on := 9, ground := Ground.phase }, { on := 10, ground := Ground.phase }], guard := none }) (v := ?_) rfl (by kernel_rfl) (by kernel_rfl) (by kernel_rfl) (fun _ _ _ h => h) (Or.inl ⟨by rfl, ?hyA11⟩) (by assumption) ?_
              case hyA11 => (intro w hSw; (try dsimp only at hSw); go_simp; try with_reducible rfl)
              (try simp only [Act.put, List.setIfInBounds_toArray, List.set_cons_zero, List.set_cons_succ])
              refine wpAnyH_done (by kernel_rfl) ?_ _
              have HBe : Hid (Below w.heap.size w wr.drew) := next_trans HBV.out (next_trans HBVq.out (Below.refl _ _).drew)
              go_wp2
              go_ret
              exact ⟨rfl, HBe.out⟩
end Go.Proofs.YtlniifheapoppaaGreatDoor
