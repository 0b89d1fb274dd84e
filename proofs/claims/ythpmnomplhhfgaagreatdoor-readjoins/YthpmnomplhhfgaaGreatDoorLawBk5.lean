/- The walk of ReadBack. -/
import Derived.Test.YthpmnomplhhfgaaGreatDoorLawRead
namespace Go.Proofs.YthpmnomplhhfgaaGreatDoor
open Go.RowKit

theorem of5c (x : Nd) (ao : Option Addr) (cap : Nat) (w : World) (hb : cntN x ≤ 100000) (hc : x.l.length ≤ cap) (hk : IsNds w anyB ao x.l) :
    Calls Tryz.prog 16 #[ndV x ao cap] w fun e w' => (∃ ao' cap', e = .returned (ndV x ao' cap') ∧ x.l.length ≤ cap' ∧ IsNds w' anyB ao' x.l) ∧ Below w.heap.size w w' := by
  refine (of_any _ x ao cap w (Nat.le_refl _) hb hc hk).mono ?_
  rintro e w' ⟨⟨⟨ck, ca, ci, cs, cao, cn, ccap⟩, h1, h2⟩, hb2⟩
  obtain ⟨e1, e2, e3, e4, e5, e6, e7⟩ := h2
  simp only at e1 e2 e3 e4 e5 e6 e7
  refine ⟨⟨cao, ccap, ?_, by omega, e7.any⟩, hb2⟩
  rw [h1]
  unfold nodeV ndV
  simp only
  rw [e1, e2, e3, e4, e5]
theorem read_conv5 (X : ByteArray) (T : List UInt8) (L : List Nd) (a : Nat) (w : World) (N : Nat) (hN : X.size = N) (hX : X = baL T) (hn : T.length ≤ 65536) (hm : MaxW w) (hs : readQ T = ⟨L, a, 0⟩) :
    Calls Tryz.prog 10 #[.slice (some ⟨w.heap.size, 0, none⟩) N (grownCap w N 0 5)] (Lib.bytesWorld w 5 X) fun e w' => (∃ ao cap, e = .returned (.tuple #[.slice ao L.length cap, .nilIface]) ∧ L.length ≤ cap ∧ IsNds w' anyB ao L) ∧ Below w.heap.size w w' := by
  subst hN
  subst hX
  refine (read_yes5 (some ⟨w.heap.size, 0, none⟩) (baL T).size _ T L _ rfl (conv_is T w).isB hn (grownCap_ge _ _ _ _) (hm.next (conv_bel _ _)) a hs).mono ?_
  rintro e w1 ⟨h1, hb⟩
  exact ⟨h1, next_trans (conv_bel _ _) hb⟩
/-- What the law asks of a node and of what it came back as. -/
structure BackC (W : World) (k i : Int) (A A' : Int) (Y : ByteArray) (l l' : List Nd) (M : Nat) (a1 : Option Addr) (c1 : Nat) (a2 : Option Addr) (c2 : Nat) : Prop where
  same : ∀ w', Below W.heap.size W w' → Calls Tryz.prog 24 #[.agg #[.int .i64 (k), .int .i64 (A), .int .i64 (i), .string (Y), .slice a1 M c1], .agg #[.int .i64 (k), .int .i64 (A'), .int .i64 (i), .string (Y), .slice a2 M c2]] w' fun e w2 => e = .returned (.bool true) ∧ Below w'.heap.size w' w2
  of1 : ∀ w', Below W.heap.size W w' → Calls Tryz.prog 16 #[.agg #[.int .i64 (k), .int .i64 (A), .int .i64 (i), .string (Y), .slice a1 M c1]] w' fun e w2 => (∃ ao' cap', e = .returned (.agg #[.int .i64 (k), .int .i64 (A), .int .i64 (i), .string (Y), .slice ao' M cap']) ∧ M ≤ cap' ∧ IsNds w2 anyB ao' l) ∧ Below w'.heap.size w' w2
  of2 : ∀ w', Below W.heap.size W w' → Calls Tryz.prog 16 #[.agg #[.int .i64 (k), .int .i64 (A'), .int .i64 (i), .string (Y), .slice a2 M c2]] w' fun e w2 => (∃ ao' cap', e = .returned (.agg #[.int .i64 (k), .int .i64 (A'), .int .i64 (i), .string (Y), .slice ao' M cap']) ∧ M ≤ cap' ∧ IsNds w2 anyB ao' l') ∧ Below w'.heap.size w' w2
  rsame : ∀ ao1 cap1 ao2 cap2 w', Below W.heap.size W w' → M ≤ cap1 → M ≤ cap2 → IsNds w' anyB ao1 l → IsNds w' anyB ao2 l' → Calls Tryz.prog 25 #[.agg #[.int .i64 (k), .int .i64 (A), .int .i64 (i), .string (Y), .slice ao1 M cap1], .agg #[.int .i64 (k), .int .i64 (A'), .int .i64 (i), .string (Y), .slice ao2 M cap2]] w' fun e w2 => e = .returned (.bool true) ∧ Below w'.heap.size w' w2
theorem backC {W : World} (k i : Int) (a a' : Nat) (s : List UInt8) (l l' : List Nd) (a1 a2 : Option Addr) (c1 c2 : Nat) (hs : simN ⟨k, a, i, s, l⟩ ⟨k, a', i, s, l'⟩) (hl : l'.length = l.length) (h1 : l.length ≤ c1) (h2 : l'.length ≤ c2) (n1 : cntN ⟨k, a, i, s, l⟩ ≤ 100000) (n2 : cntN ⟨k, a', i, s, l'⟩ ≤ 100000) (k1 : IsNds W anyB a1 l) (k2 : IsNds W anyB a2 l') :
    BackC W k i (a : Int) (a' : Int) (baL s) l l' l.length a1 c1 a2 c2 := by
  refine ⟨fun w' h => ?_, fun w' h => of5c ⟨k, a, i, s, l⟩ a1 c1 w' n1 h1 (k1.next h), fun w' h => ?_, fun ao1 cap1 ao2 cap2 w' _ e1 e2 e3 e4 => ?_⟩
  · have := same_any5 ⟨k, a, i, s, l⟩ ⟨k, a', i, s, l'⟩ a1 a2 c1 c2 w' n1 hs h1 h2 (k1.next h) (k2.next h)
    unfold ndV at this
    simp only at this
    rw [hl] at this; exact this
  · have := of5c ⟨k, a', i, s, l'⟩ a2 c2 w' n2 h2 (k2.next h)
    unfold ndV at this
    simp only at this
    rw [hl] at this; exact this
  · have := rsame_any5 _ ⟨k, a, i, s, l⟩ ⟨k, a', i, s, l'⟩ ao1 ao2 cap1 cap2 w' (Nat.le_refl _) n1 e1 (by show l'.length ≤ cap2; omega) hs e3 e4
    unfold ndV at this
    simp only at this
    rw [hl] at this; exact this

set_option maxHeartbeats 16000000 in
set_option maxRecDepth 20000 in
theorem back5_walk (ao : Option Addr) (n cap : Nat) (l : List UInt8) (w : World) (hl : l.length = n) (h : IsB w ao l) (hc : n ≤ cap) (h4 : Lib4 w) :
    Calls Tryz.prog 4 #[.slice ao n cap] w fun e w' => e = .returned (.bool true) ∧ Below w.heap.size w w' := by
  have H4 : Hid (Lib4 w) := h4
  have HI : Hid (IsB w ao l) := h
  have HL : Hid (l.length = n) := hl
  clear h hl h4
  go_enter Tryz.func4, Tryz.ntmps4
  go_wp2_with fail
  refine (known5 w H4.out).mono ?_
  rintro e w1 ⟨rfl, hb1⟩
  have HB1 : Hid (Below w.heap.size w w1) := hb1
  clear hb1
  by_cases hn : 2000 < n
  · have hni : (2000 : Int) < (n : Int) := by omega
    go_wp2
    go_ret
    exact ⟨rfl, HB1.out⟩
  have hni : ¬ (2000 : Int) < (n : Int) := by omega
  obtain ⟨R, HR⟩ : ∃ R, Hid (readQ l = R) := ⟨_, rfl⟩
  by_cases he : R.e = 0
  · have HBd : Hid (WfL R.l ∧ cntL R.l ≤ 10000 ∧ (linesN R.l).length ≤ 60000 ∧ R.l.length ≤ 10000 ∧ ∀ x ∈ R.l, NdB x) := by
      obtain ⟨h1, h2, h3, h4, h5⟩ := read_bnd l R HR.out he (by rw [HL.out]; omega)
      refine ⟨h1, h2, ?_, h4, h5⟩
      have g1 := lines_le _ h1
      have g2 := readQ_len l (by rw [HR.out]; exact he)
      rw [HR.out, HL.out] at g2
      omega
    obtain ⟨R', HR'⟩ : ∃ R', Hid (readQ (linesN R.l) = R') := ⟨_, rfl⟩
    obtain ⟨he', hz⟩ : R'.e = 0 ∧ mapL zP R'.l = mapL zP R.l := by
      have := readQ_back l (by rw [HR.out]; exact he)
      rw [HR.out, HR'.out] at this; exact this
    have HBd' : Hid (WfL R'.l ∧ cntL R'.l ≤ 70000) := by
      have g0 := readQ_fl (linesN R.l) (by rw [HR'.out]; exact he')
      have g2 := readQ_len (linesN R.l) (by rw [HR'.out]; exact he')
      rw [HR'.out] at g0 g2
      have g1 := cntL_le g0.2.1
      have := HBd.out.2.2.1
      exact ⟨g0.2.1, by omega⟩
    have HZ : Hid (mapL zP R'.l = mapL zP R.l) := hz
    clear hz
    obtain ⟨L, ra, re⟩ := R
    obtain ⟨L', ra', re'⟩ := R'
    simp only at he he' HZ HBd HBd' HR'
    subst he he'
    obtain ⟨M, HM⟩ : ∃ M, Hid (L.length = M) := ⟨_, rfl⟩
    have HM' : Hid (L'.length = M) := by
      have := congrArg List.length HZ.out
      rw [mapL_len, mapL_len, HM.out] at this; exact this
    have hM1 : M ≤ 10000 := by rw [← HM.out]; exact HBd.out.2.2.2.1
    have HS : Hid (Calls Tryz.prog 10 #[.slice ao n cap] w1 fun e w' => (∃ ao cap, e = .returned (.tuple #[.slice ao M cap, .nilIface]) ∧ M ≤ cap ∧ IsNds w' anyB ao L) ∧ Below w1.heap.size w1 w') := by
      rw [← HM.out]
      exact read_yes5 ao n cap l L w1 HL.out (HI.out.next HB1.out) (by omega) hc (H4.out.next HB1.out).max ra HR.out
    obtain ⟨S, HSe⟩ : ∃ S, Hid (baL (linesN L) = S) := ⟨_, rfl⟩
    go_wp2_with fail
    refine HS.out.mono ?_
    rintro e w2 ⟨⟨a2, c2, rfl, hc2, hN2⟩, hb2⟩
    have HB2 : Hid (Below w.heap.size w w2) := next_trans HB1.out hb2
    have HN2 : Hid (IsNds w2 anyB a2 L) := hN2
    have HLn : Hid (∀ w3, Below w2.heap.size w2 w3 → Calls Tryz.prog 23 #[.slice a2 M c2] w3 fun e w' => e = .returned (.string S) ∧ Below w3.heap.size w3 w') := fun w3 hb3 => by
      rw [← HM.out, ← HSe.out]
      have g := HBd.out
      exact lines_any L a2 c2 w3 g.1 (tab_next (H4.out.next HB2.out).tab hb3) (by omega) (by omega) (by rw [HM.out]; exact hc2) (HN2.out.next hb3)
    clear hb2 hN2 HS
    go_wp2_with fail
    refine (HLn.out w2 (Below.refl _ _)).mono ?_
    rintro e w3 ⟨rfl, hb3⟩
    have HB3 : Hid (Below w2.heap.size w2 w3) := hb3
    obtain ⟨Z, hZs⟩ : ∃ Z, S.size = Z := ⟨_, rfl⟩
    have HRd : Hid (Calls Tryz.prog 10 #[.slice (some ⟨w3.heap.size, 0, none⟩) Z (grownCap w3 Z 0 5)] (Lib.bytesWorld w3 5 S) fun e w' => (∃ ao cap, e = .returned (.tuple #[.slice ao M cap, .nilIface]) ∧ M ≤ cap ∧ IsNds w' anyB ao L') ∧ Below w3.heap.size w3 w') := by
      rw [← HM'.out]
      exact read_conv5 S (linesN L) L' ra' w3 Z hZs HSe.out.symm (by have := HBd.out; omega) (H4.out.next (next_trans HB2.out hb3)).max HR'.out
    have hcv := conv_str S w3
    rw [hZs] at hcv
    clear hb3
    go_wp2_with fail
    refine HRd.out.mono ?_
    rintro e w4 ⟨⟨a4, c4, rfl, hc4, hN4⟩, hb4⟩
    have HB4 : Hid (Below w2.heap.size w2 w4) := next_trans HB3.out hb4
    have HN4 : Hid (IsNds w4 anyB a4 L') := hN4
    have HK2 : Hid (IsNds w4 anyB a2 L) := HN2.out.next HB4.out
    have HB40 : Hid (Below w.heap.size w w4) := next_trans HB2.out HB4.out
    have HLn' : Hid (∀ w5, Below w4.heap.size w4 w5 → Calls Tryz.prog 23 #[.slice a4 M c4] w5 fun e w' => e = .returned (.string S) ∧ Below w5.heap.size w5 w') := fun w5 hb5 => by
      have hl' : baL (linesN L') = S := by rw [lines_sim HZ.out]; exact HSe.out
      rw [← HM'.out, ← hl']
      have g := HBd'.out
      have g2 := HBd.out
      exact lines_any L' a4 c4 w5 g.1 (tab_next (H4.out.next HB40.out).tab hb5) (by omega) (by rw [lines_sim HZ.out]; omega) (by rw [HM'.out]; exact hc4) (HN4.out.next hb5)
    clear hb4 hN4 hcv HRd
    go_wp2
    go_loopw [7] (fun q wr => ∃ k : Nat, k ≤ M ∧ q = .int .i64 k ∧ Hid (Below w4.heap.size w4 wr)) (fun q _ => M - (intOf q).toNat)
    case atStart => exact ⟨0, Nat.zero_le _, rfl, Below.refl _ _⟩
    case round =>
      obtain ⟨k, hk, rfl, HW⟩ := hrel
      have HW0 : Hid (Below w.heap.size w wr) := next_trans HB40.out HW.out
      by_cases hlt : k < M
      · have hli : (k : Int) < (M : Int) := by omega
        have hl0 : (0 : Int) ≤ (k : Int) := by omega
        obtain ⟨x, HG⟩ : ∃ x, Hid (L[k]? = some x) := ⟨_, List.getElem?_eq_getElem (by rw [HM.out]; exact hlt)⟩
        obtain ⟨y, HG'⟩ : ∃ y, Hid (L'[k]? = some y) := ⟨_, List.getElem?_eq_getElem (by rw [HM'.out]; exact hlt)⟩
        obtain ⟨b1, o1, ka1, kc1, rfl, hA1⟩ := HK2.out.at HG.out
        obtain ⟨b2, o2, ka2, kc2, rfl, hA2⟩ := HN4.out.at HG'.out
        have hs : simN x y := sim_at HZ.out.symm HG.out HG'.out
        have hn1 := (HBd.out.2.2.2.2 x (List.mem_of_getElem? HG.out)).cnt
        have hn2 : cntN y ≤ 100000 := by have := cntL_mem L' y (List.mem_of_getElem? HG'.out); have := HBd'.out.2; omega
        have HD1 : Hid (NdAt w4 anyB b1 (o1 + k * 5) x ka1 kc1) := hA1
        have HD2 : Hid (NdAt w4 anyB b2 (o2 + k * 5) y ka2 kc2) := hA2
        clear hA1 hA2 HG HG'
        obtain ⟨xk, xa, xi, xs, xl⟩ := x
        obtain ⟨yk, ya, yi, ys, yl⟩ := y
        obtain ⟨rfl, rfl, rfl, hll, _⟩ := sim_parts hs
        have HC0 : Hid (BackC w4 xk xi (xa : Int) (ya : Int) (baL xs) xl yl xl.length ka1 kc1 ka2 kc2) :=
          backC xk xi xa ya xs xl yl ka1 ka2 kc1 kc2 hs hll.symm HD1.out.hc HD2.out.hc hn1 hn2 HD1.out.kids HD2.out.kids
        obtain ⟨Y, HY⟩ : ∃ Y, Hid (baL xs = Y) := ⟨_, rfl⟩
        obtain ⟨A, HA⟩ : ∃ A : Int, Hid ((xa : Int) = A) := ⟨_, rfl⟩
        obtain ⟨A', HA'⟩ : ∃ A' : Int, Hid ((ya : Int) = A') := ⟨_, rfl⟩
        obtain ⟨Q, HQ⟩ : ∃ Q, Hid (xl.length = Q) := ⟨_, rfl⟩
        have HC : Hid (BackC w4 xk xi A A' Y xl yl Q ka1 kc1 ka2 kc2) := by
          rw [← HY.out, ← HA.out, ← HA'.out, ← HQ.out]; exact HC0.out
        have p0 := keep_cell HW.out HD1.out.c0
        have p1 := keep_cell HW.out HD1.out.c1
        have p2 := keep_cell HW.out HD1.out.c2
        have p3 := keep_cell HW.out HD1.out.c3
        have p4 := keep_cell HW.out HD1.out.c4
        have q0 := keep_cell HW.out HD2.out.c0
        have q1 := keep_cell HW.out HD2.out.c1
        have q2 := keep_cell HW.out HD2.out.c2
        have q3 := keep_cell HW.out HD2.out.c3
        have q4 := keep_cell HW.out HD2.out.c4
        simp only at p0 p1 p2 p3 p4 q0 q1 q2 q3 q4
        rw [← hll] at q4
        rw [HY.out] at p3 q3
        rw [HA.out] at p1
        rw [HA'.out] at q1
        rw [HQ.out] at p4 q4
        have s0 : Below w4.heap.size w4 wr.drew := HW.out.drew
        have s1 : w4.heap.size ≤ wr.drew.heap.size := s0.size
        clear HC0 HD1 HD2 HY HA HA' HQ hs hn1 hn2 hll
        go_wp2_with fail
        go_region_held3 (fun w' => w'.cell? ⟨b1, o1 + k * 5, none⟩ = some (.int .i64 xk) ∧ w'.cell? ⟨b1, o1 + k * 5 + 1, none⟩ = some (.int .i64 A) ∧ w'.cell? ⟨b1, o1 + k * 5 + 2, none⟩ = some (.int .i64 xi) ∧ w'.cell? ⟨b1, o1 + k * 5 + 3, none⟩ = some (.string Y) ∧ w'.cell? ⟨b1, o1 + k * 5 + 4, none⟩ = some (.slice ka1 Q kc1) ∧ w'.cell? ⟨b2, o2 + k * 5, none⟩ = some (.int .i64 xk) ∧ w'.cell? ⟨b2, o2 + k * 5 + 1, none⟩ = some (.int .i64 A') ∧ w'.cell? ⟨b2, o2 + k * 5 + 2, none⟩ = some (.int .i64 xi) ∧ w'.cell? ⟨b2, o2 + k * 5 + 3, none⟩ = some (.string Y) ∧ w'.cell? ⟨b2, o2 + k * 5 + 4, none⟩ = some (.slice ka2 Q kc2) ∧ Below w4.heap.size w4 w' ∧ w4.heap.size ≤ w'.heap.size)
          (((try dsimp only); go_split_ands; refine ⟨?_, ?_, ?_, ?_, ?_, ?_, ?_, ?_, ?_, ?_, ?_, ?_⟩ <;> first | assumption | exact keep_cell (by assumption) (by assumption) | exact below_next (by assumption) (by assumption) (by assumption) | exact le_next (by assumption) (by assumption)))
          (first
            | (go_at_call 24; go_split_ands; with_reducible refine (HC.out.same _ (by assumption)).mono ?_; rintro e w' ⟨rfl, hb⟩)
            | (go_at_call 16; go_split_ands; with_reducible refine (HC.out.of1 _ (by assumption)).mono ?_; rintro e w' ⟨⟨ao', cap', rfl, hcap', hkid'⟩, hb⟩)
            | (go_at_call 16; go_split_ands; with_reducible refine (HC.out.of2 _ (by assumption)).mono ?_; rintro e w' ⟨⟨ao'', cap'', rfl, hcap'', hkid''⟩, hb⟩)
            | (go_at_call 25; go_split_ands; with_reducible refine (HC.out.rsame _ _ _ _ _ (by assumption) (by assumption) (by assumption) (by first | assumption | exact IsNds.next (by assumption) (by assumption)) (by first | assumption | exact IsNds.next (by assumption) (by assumption))).mono ?_; rintro e w' ⟨rfl, hb⟩))
        all_goals
          go_split_ands
          go_wp2
          go_roundw
          case rel => exact ⟨k + 1, by omega, by go_num, by rw [Hid]; assumption⟩
          case measure => simp [intOf]; omega
      · have hli : ¬ (k : Int) < (M : Int) := by omega
        go_wp2_with fail
        refine (HLn'.out wr HW.out).mono ?_
        rintro e w5 ⟨rfl, hb5⟩
        have HB5 : Hid (Below w4.heap.size w4 w5) := next_trans HW.out hb5
        clear hb5
        go_wp2_with fail
        refine (HLn.out w5 (next_trans HB4.out HB5.out)).mono ?_
        rintro e w6 ⟨rfl, hb6⟩
        have HB6 : Hid (Below w.heap.size w w6) := next_trans HB40.out (next_trans HB5.out hb6)
        clear hb6
        go_wp2
        go_ret
        exact ⟨rfl, HB6.out⟩
  · have HS : Hid (Calls Tryz.prog 10 #[.slice ao n cap] w1 fun e w' => (∃ B, e = .returned (.tuple #[.slice none 0 0, .iface 59 (.pointer (some ⟨B, 0, none⟩))]) ∧ Chain w' R.e [([99, 104, 97, 114], (R.a : Int))] (.iface 59 (.pointer (some ⟨B, 0, none⟩)))) ∧ Below w1.heap.size w1 w') :=
      read_no5 ao n cap l R w1 HL.out (HI.out.next HB1.out) (by omega) hc (H4.out.next HB1.out).max HR.out he
    go_wp2_with fail
    refine HS.out.mono ?_
    rintro e w2 ⟨⟨B, rfl, _⟩, hb2⟩
    have HB2 : Hid (Below w.heap.size w w2) := next_trans HB1.out hb2
    clear hb2
    go_wp2
    go_ret
    exact ⟨rfl, HB2.out⟩
end Go.Proofs.YthpmnomplhhfgaaGreatDoor
